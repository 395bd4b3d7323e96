/- wal.committed: the targets of the transaction that stands behind the log's. -/
import Derived.Test.YthnmnnlbglpjaaaGreatDoorWo1
import Derived.Test.YthnmnnlbglpjaaaGreatDoorPkE
namespace Go.Proofs.YthnmnnlbglpjaaaGreatDoor
open Go.RowKit
set_option linter.unusedVariables false
set_option linter.unusedSimpArgs false

theorem max_exists : ∀ (l : List Int), l ≠ [] → ∃ m, m ∈ l ∧ ∀ x ∈ l, x ≤ m
  | [], h => absurd rfl h
  | [x], _ => ⟨x, by simp, by simp⟩
  | x :: y :: l, _ => by
    obtain ⟨m, h1, h2⟩ := max_exists (y :: l) (by simp)
    by_cases h : x ≤ m
    · exact ⟨m, List.mem_cons_of_mem _ h1, fun z hz => by rcases List.mem_cons.1 hz with rfl | hz; exact h; exact h2 z hz⟩
    · exact ⟨x, List.mem_cons_self .., fun z hz => by
        rcases List.mem_cons.1 hz with rfl | hz
        · exact Int.le_refl _
        · have := h2 z hz; omega⟩
theorem maxInts_is (v : Value) (l : List Int) (m : Int) (w : World) (h : Reads1 encI w v l) (h0 : l.length ≠ 0) (hl : l.length ≤ 1000) (hm : m ∈ l ∧ ∀ x ∈ l, x ≤ m) :
    Calls Tryz.prog 77 #[v] w fun e w' => e = .returned (.int .i64 m) ∧ w = w' :=
  (maxInts v l w h h0 hl).mono fun e w' ⟨⟨m', he, h1, h2⟩, hw⟩ => ⟨by rw [he]; have e1 := h2 m hm.1; have e2 := hm.2 m' h1; rw [show m' = m from by omega], hw⟩
def headS (l : Lg) : ByteArray := l.secs.getD (1 + l.seq.toNat) ⟨#[]⟩
def comS5 (l : Lg) : ByteArray := l.secs.getD (7 + l.seq.toNat) ⟨#[]⟩
/-- a transaction stands behind the log's -/
def StandP (l : Lg) : Prop := headE (headS l) = 0 ∧ (headV (headS l)).epoch = l.epoch ∧ (headV (headS l)).seq = l.seq ∧ (∀ t ∈ (headV (headS l)).tgt, t < l.secs.length) ∧ l.used + (headV (headS l)).tgt.length ≤ 40 ∧
  commitE (comS5 l) = 0 ∧ commitV (comS5 l) = l.epoch ∧ commitW (comS5 l) = l.seq
instance (l : Lg) : Decidable (StandP l) := by unfold StandP; exact inferInstance
def comT (l : Lg) : List Int := if StandP l then (headV (headS l)).tgt else []
theorem head_tgt {s : ByteArray} (h : headE s = 0) : okT (headV s).tgt = true := by
  unfold headE at h
  by_cases hi : headIs s
  · have e : headV s = headOf s := if_pos hi
    rw [e]
    have := hi.1
    unfold Hd.ok headOk at this
    rw [Bool.and_eq_true, Bool.and_eq_true] at this
    exact this.2.2
  · rw [if_neg hi] at h; exact absurd h (by decide)
theorem nil_reads (w : World) : Reads1 encI w (.slice none 0 0) [] := ⟨none, 0, 0, rfl, rfl, by omega, by omega, .inl rfl⟩
set_option maxRecDepth 100000 in
set_option maxHeartbeats 2000000 in
theorem wlCommitted (v : Value) (l : Lg) (w : World) (h : IsLog w v l) (hz : ∀ s ∈ l.secs, s.size ≤ 2000) (hN1 : 64 ≤ l.secs.length) (hN2 : l.secs.length ≤ 256) (hs : 0 ≤ l.seq ∧ l.seq < 6) (hu : 0 ≤ l.used ∧ l.used ≤ 40) :
    Calls Tryz.prog 44 #[v] w fun e w' => ∃ tv, e = .returned tv ∧ Reads1 encI w' tv (comT l) ∧ Below w.heap.size w w' := by
  obtain ⟨x1, x2, x3, x4, x5, x6, rfl, ⟨g1, g2⟩, ⟨_, _⟩, ⟨_, _⟩, hSS, _⟩ := id h.form
  have hCT : comT l = if StandP l then (headV (headS l)).tgt else [] := rfl
  have hSP : StandP l ↔ headE (headS l) = 0 ∧ (headV (headS l)).epoch = l.epoch ∧ (headV (headS l)).seq = l.seq ∧ (∀ t ∈ (headV (headS l)).tgt, t < l.secs.length) ∧ l.used + (headV (headS l)).tgt.length ≤ 40 ∧
    commitE (comS5 l) = 0 ∧ commitV (comS5 l) = l.epoch ∧ commitW (comS5 l) = l.seq := Iff.rfl
  obtain ⟨Q, hQ⟩ : ∃ Q : Nat, l.seq = Q := ⟨l.seq.toNat, by omega⟩
  have hQt : l.seq.toNat = Q := by omega
  have hHS : headS l = l.secs.getD (1 + Q) ⟨#[]⟩ := by unfold headS; rw [hQt]
  have hCS : comS5 l = l.secs.getD (7 + Q) ⟨#[]⟩ := by unfold comS5; rw [hQt]
  have hsz : ∀ k, k < l.secs.length → (l.secs.getD k ⟨#[]⟩).size ≤ 2000 := fun k hk => by
    rw [show l.secs.getD k ⟨#[]⟩ = l.secs[k] from by simp [List.getD, hk]]
    exact hz _ (List.getElem_mem hk)
  have hRH := fun u => slotReadHead_any (headS l) u (by rw [hHS]; exact hsz _ (by omega))
  have hRC := fun u => slotReadCommit_any (comS5 l) u (by rw [hCS]; exact hsz _ (by omega))
  have HSE : Hid (∀ u : World, Below w.heap.size w u → ∀ k : Nat, k < l.secs.length → ∃ b off, x1 = some ⟨b, off, none⟩ ∧ b < u.heap.size ∧ u.cell? ⟨b, off + k, none⟩ = some (.string (l.secs.getD k ⟨#[]⟩))) := Lib.hid (by
    intro u hu k hk
    obtain ⟨a9, n9, c9, hv9, _, _, _, _, hat9⟩ := hSS.below hu
    injection hv9 with t1 t2 t3
    subst t1 t2 t3
    obtain ⟨b, off, rfl, hbb, hc⟩ := hat9.resolve_left (by omega)
    exact ⟨b, off, rfl, hbb, hc k hk⟩)
  have hTG := @head_tgt (headS l)
  obtain ⟨S1, hS1⟩ : ∃ S, headS l = S := ⟨_, rfl⟩
  obtain ⟨S2, hS2⟩ : ∃ S, comS5 l = S := ⟨_, rfl⟩
  rw [hS1] at hHS hRH hCT hSP hTG
  rw [hS2] at hCS hRC hSP
  obtain ⟨R, hR⟩ : ∃ R, comT l = R := ⟨_, rfl⟩
  rw [hR] at hCT ⊢
  obtain ⟨HV, hHV⟩ : ∃ V, headV S1 = V := ⟨_, rfl⟩
  rw [hHV] at hRH hCT hSP hTG
  obtain ⟨HEr, hHE⟩ : ∃ V, headE S1 = V := ⟨_, rfl⟩
  rw [hHE] at hRH hSP hTG
  obtain ⟨cV, hcV⟩ : ∃ V, commitV S2 = V := ⟨_, rfl⟩
  obtain ⟨cW, hcW⟩ : ∃ V, commitW S2 = V := ⟨_, rfl⟩
  obtain ⟨cE, hcE⟩ : ∃ V, commitE S2 = V := ⟨_, rfl⟩
  rw [hcV, hcW, hcE] at hRC hSP
  have hblk := heap_alloc_new w (.cells #[.slice x1 l.secs.length x2, .slice x3 l.pend.length x4, .int .i64 l.left, .int .i64 l.epoch, .int .i64 l.seq, .int .i64 l.used, .slice x5 l.dirty.length x6] 29)
  have hal := (Below.refl w.heap.size w).alloc (Nat.le_refl _) (.cells #[.slice x1 l.secs.length x2, .slice x3 l.pend.length x4, .int .i64 l.left, .int .i64 l.epoch, .int .i64 l.seq, .int .i64 l.used, .slice x5 l.dirty.length x6] 29)
  obtain ⟨N, hNN⟩ : ∃ N, l.secs.length = N := ⟨_, rfl⟩
  obtain ⟨ep, hep⟩ : ∃ x, l.epoch = x := ⟨_, rfl⟩
  obtain ⟨us, hus⟩ : ∃ x, l.used = x := ⟨_, rfl⟩
  rw [hNN, hep, hus, hQ] at hSP hblk hal
  rw [hNN] at HSE g1 hN1 hN2
  rw [hus] at hu
  (try rw [hNN, hep, hus, hQ])
  obtain ⟨B, hB⟩ : ∃ B, w.heap.size = B := ⟨_, rfl⟩
  rw [hB] at hblk
  have hQ6 : Q < 6 := by omega
  have hQI : (Q : Int) ≤ 5 := by omega
  have hq1 : 1 + (Q : Int) = ((1 + Q : Nat) : Int) := by omega
  have hq7 : 7 + (Q : Int) = ((7 + Q : Nat) : Int) := by omega
  have hk1 : ((1 + Q : Nat) : Int) < N := by omega
  have hk7 : ((7 + Q : Nat) : Int) < N := by omega
  have hk1' : ((1 + Q : Nat) : Int) ≤ 60 := by omega
  have hk7' : ((7 + Q : Nat) : Int) ≤ 60 := by omega
  have HE1 := Lib.hid (fun u hu => HSE.out u hu (1 + Q) (by omega))
  have HE7 := Lib.hid (fun u hu => HSE.out u hu (7 + Q) (by omega))
  rw [← hHS] at HE1
  rw [← hCS] at HE7
  generalize 1 + Q = K1 at *
  generalize 7 + Q = K7 at *
  have HCT := Lib.hid hCT; have HSP := Lib.hid hSP; have HRH := Lib.hid hRH; have HRC := Lib.hid hRC; have HTG := Lib.hid hTG; have HBK := Lib.hid hblk; have HAL := Lib.hid hal; have HBQ := Lib.hid hB
  have hNx : (N : Int) ≤ x2 := by omega
  have hx2 : (x2 : Int) ≤ 9223372036854775807 := by omega
  have hNI : (N : Int) ≤ 256 := by omega
  clear h hz hSS hCT hSP hQ hQt hHS hCS hsz hRH hRC HSE hTG hS1 hS2 hR hHV hHE hcV hcW hcE hblk hal hNN hep hus hB hs
  go_enter Tryz.func44, Tryz.ntmps44
  go_upto_region 1 with fail
  (try rw [HBQ.out])
  obtain ⟨u, hU⟩ : ∃ u, w.alloc (.cells #[.slice x1 N x2, .slice x3 l.pend.length x4, .int .i64 l.left, .int .i64 ep, .int .i64 Q, .int .i64 us, .slice x5 l.dirty.length x6] 29) = u := ⟨_, rfl⟩
  rw [hU] at HBK HAL ⊢
  clear hU
  obtain ⟨b, off, rfl, _, p1⟩ := HE1.out u HAL.out
  have b0 := below_cell (Below.refl _ u) HBK.out 0 rfl
  have b4 := below_cell (Below.refl _ u) HBK.out 4 rfl
  go_upto_region 2 with (first | (go_at_call 76; refine (HRH.out _).mono ?_; rintro e u1 ⟨hv, rfl, ⟨tv, rfl, hrt⟩, hb1⟩; obtain ⟨ta, tc, rfl, ht1, ht2, _⟩ := reads1_form hrt))
  have hal2 := (Below.refl u1.heap.size u1).alloc (Nat.le_refl _) (.cells #[.int .i64 HV.epoch, .int .i64 HV.seq, .slice ta HV.tgt.length tc] 67)
  have hn2 := heap_alloc_new u1 (.cells #[.int .i64 HV.epoch, .int .i64 HV.seq, .slice ta HV.tgt.length tc] 67)
  have hbB := (hal2.block _ (lt_of_block ((hb1.block _ (lt_of_block HBK.out)).trans HBK.out))).trans ((hb1.block _ (lt_of_block HBK.out)).trans HBK.out)
  have hrt2 := hrt.below hal2
  have hw2 := (HAL.out.trans (hb1.mono HAL.out.size)).trans (hal2.mono (HAL.out.trans (hb1.mono HAL.out.size)).size)
  obtain ⟨H, hH⟩ : ∃ H, u1.heap.size = H := ⟨_, rfl⟩
  obtain ⟨u2, hU⟩ : ∃ u2, u1.alloc (.cells #[.int .i64 HV.epoch, .int .i64 HV.seq, .slice ta HV.tgt.length tc] 67) = u2 := ⟨_, rfl⟩
  rw [hU] at hn2 hbB hrt2 hw2 ⊢
  rw [hH] at hn2
  (try rw [hH])
  have HHX := Lib.hid hn2; have HB2 := Lib.hid hbB; have HRT := Lib.hid hrt2; have HW2 := Lib.hid hw2
  clear hU hH hal2 hn2 hbB hrt2 hw2 hrt hb1 b0 b4 p1 HBK HAL HRH HE1
  have b0 := below_cell (Below.refl _ u2) HB2.out 0 rfl
  have b3 := below_cell (Below.refl _ u2) HB2.out 3 rfl
  have b4 := below_cell (Below.refl _ u2) HB2.out 4 rfl
  have h0 := below_cell (Below.refl _ u2) HHX.out 0 rfl
  have h1 := below_cell (Below.refl _ u2) HHX.out 1 rfl
  by_cases hA : HEr = 0
  rotate_left
  · have hR0 : R = [] := HCT.out.trans (if_neg (fun h => hA (HSP.out.1 h).1))
    have hA2 : (HEr != 0) = true := by simpa using hA
    have hA3 : (HEr == 0) = false := by simpa using hA
    have HR0 := Lib.hid hR0
    clear hR0
    go_wp2_with fail
    go_ret
    exact ⟨_, rfl, by rw [HR0.out]; exact nil_reads _, HW2.out⟩
  subst hA
  by_cases hBq : HV.epoch = ep
  rotate_left
  · have hR0 : R = [] := HCT.out.trans (if_neg (fun h => hBq (HSP.out.1 h).2.1))
    have hA2 : (HV.epoch != ep) = true := by simpa using hBq
    have hA3 : (HV.epoch == ep) = false := by simpa using hBq
    have HR0 := Lib.hid hR0
    clear hR0
    go_wp2_with fail
    go_ret
    exact ⟨_, rfl, by rw [HR0.out]; exact nil_reads _, HW2.out⟩
  by_cases hCq : HV.seq = (Q : Int)
  rotate_left
  · have hR0 : R = [] := HCT.out.trans (if_neg (fun h => hCq (HSP.out.1 h).2.2.1))
    have hA2 : (HV.seq != (Q : Int)) = true := by simpa using hCq
    have hA3 : (HV.seq == (Q : Int)) = false := by simpa using hCq
    rw [hBq] at h0
    have HR0 := Lib.hid hR0
    clear hR0
    go_wp2_with fail
    go_ret
    exact ⟨_, rfl, by rw [HR0.out]; exact nil_reads _, HW2.out⟩
  rw [hBq] at h0
  rw [hCq] at h1
  have hok := HTG.out rfl
  unfold okT at hok
  obtain ⟨k1, k2, k3, _⟩ := of_decide_eq_true hok
  have hne : HV.tgt ≠ [] := fun e => by rw [e] at k1; exact absurd k1 (by decide)
  obtain ⟨m, hm⟩ := max_exists HV.tgt hne
  have HMX := Lib.hid (fun x : KeepT u2 => keepSame (x := x) (maxInts_is _ HV.tgt m x.val (HRT.out.below x.below) (by omega) (by omega) hm))
  have HM := Lib.hid hm
  have HBQ2 := Lib.hid hBq; have HCQ2 := Lib.hid hCq
  obtain ⟨n, hn⟩ : ∃ n, HV.tgt.length = n := ⟨_, rfl⟩
  have HRT2 := HRT.out
  rw [hn] at HRT2 HMX k1 k2
  have hHX := HHX.out
  rw [hn] at hHX
  have HHX := Lib.hid hHX; have HRT := Lib.hid HRT2; have HN := Lib.hid hn
  have hnI : (n : Int) ≤ 40 := by omega
  clear hok hne hm k3 hBq hCq HRT2 hHX
  go_upto_region 4 with fail
  by_cases hD : (N : Int) ≤ m
  · have hR0 : R = [] := HCT.out.trans (if_neg (fun h => absurd ((HSP.out.1 h).2.2.2.1 m HM.out.1) (by omega)))
    have HR0 := Lib.hid hR0
    clear hR0
    have q0 := keep_at HB2.out 0 rfl
    have q5 := keep_at HB2.out 5 rfl
    have r2 := keep_at HHX.out 2 rfl
    clear b0 b3 b4 h0 h1
    refine wp_region_keep (w0 := u2) (by kernel_rfl) (by kernel_rfl) (Below.refl _ _) ?_
    repeat (go_big_quiet_step ((first | (go_at_call 77; exact HMX.out _))))
    refine wpQuiet_nil ?_
    intro _ hw'
    obtain ⟨x, rfl⟩ := hw'
    have HB3 := Lib.hid ((x.below.block _ (lt_of_block HB2.out)).trans HB2.out)
    have HH3 := Lib.hid ((x.below.block _ (lt_of_block HHX.out)).trans HHX.out)
    have HR3 := Lib.hid (HRT.out.below x.below)
    have HW3 := Lib.hid (HW2.out.trans (x.below.mono HW2.out.size))
    clear q0 q5 r2 HMX HB2 HHX HRT HW2
    generalize x.val = wz at *
    go_wp2_with fail
    go_ret
    exact ⟨_, rfl, by rw [HR0.out]; exact nil_reads _, HW3.out⟩
  have hwu : wrap64 (us + (n : Int)) = us + n := IntWalk.wrap64_in _ ⟨by omega, by omega⟩
  by_cases hE : 40 < us + (n : Int)
  · have hR0 : R = [] := HCT.out.trans (if_neg (fun h => absurd (HSP.out.1 h).2.2.2.2.1 (by have := HN.out; omega)))
    have HR0 := Lib.hid hR0
    clear hR0
    have q0 := keep_at HB2.out 0 rfl
    have q5 := keep_at HB2.out 5 rfl
    have r2 := keep_at HHX.out 2 rfl
    clear b0 b3 b4 h0 h1
    refine wp_region_keep (w0 := u2) (by kernel_rfl) (by kernel_rfl) (Below.refl _ _) ?_
    repeat (go_big_quiet_step ((first | (go_at_call 77; exact HMX.out _))))
    refine wpQuiet_nil ?_
    intro _ hw'
    obtain ⟨x, rfl⟩ := hw'
    have HB3 := Lib.hid ((x.below.block _ (lt_of_block HB2.out)).trans HB2.out)
    have HH3 := Lib.hid ((x.below.block _ (lt_of_block HHX.out)).trans HHX.out)
    have HR3 := Lib.hid (HRT.out.below x.below)
    have HW3 := Lib.hid (HW2.out.trans (x.below.mono HW2.out.size))
    clear q0 q5 r2 HMX HB2 HHX HRT HW2
    generalize x.val = wz at *
    go_wp2_with fail
    go_ret
    exact ⟨_, rfl, by rw [HR0.out]; exact nil_reads _, HW3.out⟩
  have q0 := keep_at HB2.out 0 rfl
  have q5 := keep_at HB2.out 5 rfl
  have r2 := keep_at HHX.out 2 rfl
  clear b0 b3 b4 h0 h1
  refine wp_region_keep (w0 := u2) (by kernel_rfl) (by kernel_rfl) (Below.refl _ _) ?_
  repeat (go_big_quiet_step ((first | (go_at_call 77; exact HMX.out _))))
  refine wpQuiet_nil ?_
  intro _ hw'
  obtain ⟨x, rfl⟩ := hw'
  have HB3 := Lib.hid ((x.below.block _ (lt_of_block HB2.out)).trans HB2.out)
  have HH3 := Lib.hid ((x.below.block _ (lt_of_block HHX.out)).trans HHX.out)
  have HR3 := Lib.hid (HRT.out.below x.below)
  have HW3 := Lib.hid (HW2.out.trans (x.below.mono HW2.out.size))
  clear q0 q5 r2 HMX HB2 HHX HRT HW2
  generalize x.val = wz at *
  have HD := Lib.hid hD; have HEE := Lib.hid hE
  clear hwu hD hE
  go_upto_region 6 with fail
  obtain ⟨b9, off9, he9, _, p7⟩ := HE7.out wz HW3.out
  have he9 : b = b9 ∧ off = off9 := by injection he9 with he; injection he with h1 h2; exact ⟨h1, h2⟩
  obtain ⟨rfl, rfl⟩ := he9
  have b0 := below_cell (Below.refl _ wz) HB3.out 0 rfl
  have b4 := below_cell (Below.refl _ wz) HB3.out 4 rfl
  go_upto_region 7 with (first | (go_at_call 78; refine (HRC.out _).mono ?_; rintro e wc ⟨rfl, hb4⟩))
  have HB4 := Lib.hid ((hb4.block _ (lt_of_block HB3.out)).trans HB3.out)
  have HH4 := Lib.hid ((hb4.block _ (lt_of_block HH3.out)).trans HH3.out)
  have HR4 := Lib.hid (HR3.out.below hb4)
  have HW := Lib.hid (HW3.out.trans (hb4.mono HW3.out.size))
  clear hb4 b0 b4 p7 HB3 HH3 HR3 HW3
  have b3 := below_cell (Below.refl _ wc) HB4.out 3 rfl
  have b4 := below_cell (Below.refl _ wc) HB4.out 4 rfl
  have h2 := below_cell (Below.refl _ wc) HH4.out 2 rfl
  by_cases hF : cE = 0
  rotate_left
  · have hR0 : R = [] := HCT.out.trans (if_neg (fun h => hF (HSP.out.1 h).2.2.2.2.2.1))
    have hA2 : (cE != 0) = true := by simpa using hF
    have hA3 : (cE == 0) = false := by simpa using hF
    have HR0 := Lib.hid hR0
    clear hR0
    go_wp2_with fail
    go_ret
    exact ⟨_, rfl, by rw [HR0.out]; exact nil_reads _, HW.out⟩
  subst hF
  by_cases hG : cV = ep
  rotate_left
  · have hR0 : R = [] := HCT.out.trans (if_neg (fun h => hG (HSP.out.1 h).2.2.2.2.2.2.1))
    have hA2 : (cV != ep) = true := by simpa using hG
    have hA3 : (cV == ep) = false := by simpa using hG
    have HR0 := Lib.hid hR0
    clear hR0
    go_wp2_with fail
    go_ret
    exact ⟨_, rfl, by rw [HR0.out]; exact nil_reads _, HW.out⟩
  subst hG
  by_cases hI : cW = (Q : Int)
  rotate_left
  · have hR0 : R = [] := HCT.out.trans (if_neg (fun h => hI (HSP.out.1 h).2.2.2.2.2.2.2))
    have hA2 : (cW != (Q : Int)) = true := by simpa using hI
    have hA3 : (cW == (Q : Int)) = false := by simpa using hI
    have HR0 := Lib.hid hR0
    clear hR0
    go_wp2_with fail
    go_ret
    exact ⟨_, rfl, by rw [HR0.out]; exact nil_reads _, HW.out⟩
  subst hI
  have hR1 : R = HV.tgt := HCT.out.trans (if_pos (HSP.out.2 ⟨(by first | trivial | rfl), HBQ2.out, HCQ2.out, fun t ht => by have := HM.out.2 t ht; have := HD.out; omega, by have := HN.out; have := HEE.out; omega, (by first | trivial | rfl), (by first | trivial | rfl), (by first | trivial | rfl)⟩))
  have HR1 := Lib.hid hR1
  clear hR1 HCT HSP HBQ2 HCQ2
  go_wp2_with fail
  go_ret
  exact ⟨_, rfl, by rw [HR1.out]; exact HR4.out, HW.out⟩
end Go.Proofs.YthnmnnlbglpjaaaGreatDoor
