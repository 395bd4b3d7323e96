/- tree.Numbers. -/
import Derived.Test.YtcejhfpdajbdcaaSr10
import Derived.Test.YtcejhfpdajbdcaaTn1
namespace Go.Proofs.Ytcejhfpdajbdcaa
open Go.RowKit Go.Sort
set_option linter.unusedVariables false
set_option linter.unusedSimpArgs false

theorem infoU32n : (Try.prog.info? 22).map (fun i => (i.zero, i.size, i.bytes)) = some (some (.int .u32 0), 1, 4) := by kernel_rfl
set_option maxRecDepth 100000 in
theorem srIns0 (v : Value) (w : World) : Calls Try.prog 55 #[v, .int .i64 0, .int .i64 0] w fun e w' => e = .returned (.tuple #[]) ∧ w' = w := by
  go_enter Try.func55, Try.ntmps55
  go_wp2_with fail
  go_loopw [6] (fun z wr => z = .int .i64 1 ∧ wr = w) (fun z _ => 0)
  case atStart => exact ⟨by first | rfl | simp, rfl⟩
  case round =>
    obtain ⟨rfl, rfl⟩ := hrel
    go_wp2_with fail
    go_end0
    exact ⟨rfl, rfl⟩
set_option maxRecDepth 100000 in
theorem srPdq0 (v : Value) (w : World) : Calls Try.prog 43 #[v, .int .i64 0, .int .i64 0, .int .i64 0] w fun e w' => e = .returned (.tuple #[]) ∧ w' = w := by
  go_enter Try.func43, Try.ntmps43
  go_wp2_with fail
  go_loopw [1, 2] (fun z y wr => z = .int .i64 0 ∧ y = .int .i64 0 ∧ wr = w) (fun _ _ _ => 0)
  case atStart => exact ⟨rfl, rfl, rfl⟩
  case round =>
    obtain ⟨rfl, rfl, rfl⟩ := hrel
    go_wp2_with (first | (go_at_call 55; refine (srIns0 v _).mono ?_; rintro e w9 ⟨rfl, rfl⟩))
    (try simp only [Exit.inBlock, Exit.then])
    refine bodyPost_ret (results_none rfl _ _ _) rfl ?_
    exact ⟨rfl, rfl⟩
set_option maxRecDepth 100000 in
theorem srSort0 (A : Option Addr) (c : Nat) (w : World) : Calls Try.prog 21 #[.slice A 0 c] w fun e w' => e = .returned (.tuple #[]) ∧ w' = w := by
  have hLen : ∀ w, Calls Try.prog 23 #[.int .u64 0] w fun e w' => e = .returned (.int .i64 0) ∧ w' = w := fun w => by
    have h := Try.bits_Len 0 w (by omega) (by omega)
    have e : Lib.bitLen (Int.toNat 0) = 0 := by first | decide | rfl | (rw [bitLen_eq _ (by decide)]; decide)
    rw [e] at h
    exact h
  go_enter Try.func21, Try.ntmps21
  go_wp2_with (first
    | (go_at_call 23; refine (hLen _).mono ?_; rintro e w' ⟨rfl, rfl⟩)
    | (go_at_call 43; refine (srPdq0 _ _).mono ?_; rintro e w9 ⟨rfl, rfl⟩))
  go_end0
  exact ⟨rfl, rfl⟩
set_option maxRecDepth 100000 in
theorem srCompact0 (A : Option Addr) (c : Nat) (w : World) : Calls Try.prog 22 #[.slice A 0 c] w fun e w' => e = .returned (.slice A 0 c) ∧ w' = w := by
  go_enter Try.func22, Try.ntmps22
  go_wp2_with fail
  first
  | (go_ret; exact ⟨rfl, rfl⟩)
  | (refine bodyPost_ret (results_tmp rfl _ _ _) rfl ?_; exact ⟨rfl, rfl⟩)
theorem own_keep2N {w w' : World} {base : Nat} {e : TypeId} {size : Nat} {v : Value} {n : Nat} {xs : List Value} (h : w.ownsRow base e size v n xs) (hb : Below w.heap.size w w') : w'.ownsRow base e size v n xs := by
  refine ⟨h.1, h.2.imp id ?_⟩
  rintro ⟨g, cap, cur, rfl, hg, hh, hr⟩
  exact ⟨g, cap, cur, rfl, hg, (hb.block g (lt_of_block hh)).trans hh, hr⟩
def u32V (n : Nat) : Value := .int .u32 (n : Nat)
theorem u32_source {w : World} {A : Option Addr} {n c : Nat} {l : List Nat} (h : IsU32s w (.slice A n c) l) : (A = none ∧ n = 0 ∧ c = 0 ∧ l.map u32V = []) ∨ ∃ ad, A = some ad ∧ ∀ j u, (l.map u32V)[j]? = some u → w.cell? (ad.add j) = some u := by
  obtain ⟨_, _, _, hv, h1, h2, h3, h4, h5, h6⟩ := h
  injection hv with e1 e2 e3
  subst e1 e2 e3
  cases A with
  | none =>
    left
    have := h5 rfl
    subst this
    obtain rfl : n = 0 := by omega
    exact ⟨rfl, rfl, rfl, by rw [List.eq_nil_of_length_eq_zero h1]; rfl⟩
  | some ad =>
    refine .inr ⟨ad, rfl, fun j u hj => ?_⟩
    have hjl : j < l.length := by have := (List.getElem?_eq_some_iff.1 hj).1; simpa using this
    obtain ⟨b, off, hab, hb, hat2⟩ := h6.resolve_left (by omega)
    injection hab with hab
    subst hab
    rw [addr_add, hat2 j (by omega)]
    rw [← hj]
    simp [u32V, List.getD, hjl]
theorem flatN_take (l : List Mtc) (j : Nat) (h : j < l.length) : flatN (l.take (j + 1)) = flatN (l.take j) ++ (l.getD j mtcZ).nrs := by
  rw [List.take_succ_eq_append_getElem h, show l.getD j mtcZ = l[j] by simp [List.getD, h]]
  unfold flatN
  rw [List.flatMap_append]
  simp
theorem flatN_le (l : List Mtc) (j : Nat) (h : j < l.length) : (flatN (l.take j)).length + (l.getD j mtcZ).nrs.length ≤ (flatN l).length := by
  have h1 := flatN_take l j h
  have h2 : flatN l = flatN (l.take (j + 1)) ++ flatN (l.drop (j + 1)) := by
    unfold flatN
    rw [← List.flatMap_append, List.take_append_drop]
  rw [h2, h1, List.length_append, List.length_append]
  omega
theorem own_srt {w : World} {base g n cap : Nat} {l : List Nat} (h : w.ownsRow base 22 1 (.slice (some ⟨g, 0, none⟩) n cap) n (l.map u32V)) (hl : l.length = n) : Srt w g (intsN l).toArray w ∧ base ≤ g ∧ n ≤ cap ∧ cap ≤ 9223372036854775807 := by
  rcases h.2 with ⟨e, _⟩ | ⟨g', cap', cur, e, hg, hh, hn, hc, hcs, htake⟩
  · cases e
  · injection e with e1 e2 e3
    injection e1 with e1
    injection e1 with e1
    subst e1 e3
    refine ⟨⟨rfl, rfl, rfl, Nat.le_refl _, lt_of_block hh, fun _ _ _ => rfl, cur, cur, hh, hh, rfl, ?_, fun t ht => ?_, fun _ _ => rfl⟩, hg, hn, by unfold maxLen at hc; exact hc⟩
    · rw [hcs]; simp [intsN, hl]; omega
    · have ht' : t < l.length := by simpa [intsN] using ht
      have h0 := h.cells (g := g) rfl t (u32V l[t]) (by simp [ht'])
      have h1 : w.cell? ⟨g, t, none⟩ = cur[t]? := cell_of_row _ _ _ _ _ _ hh
      rw [addr_add, Nat.zero_add, h1] at h0
      rw [h0]
      simp [u32V, intsN, ht']
set_option maxRecDepth 100000 in
set_option maxHeartbeats 4000000 in
theorem tmNumbers (v : Value) (t : Typ) (w : World) (h : IsTyp w v t) (hfl : (flatN t.rules).length ≤ 1000000) :
    Calls Try.prog 9 #[v] w fun e w' => (∃ v', e = .returned v' ∧ IsU32s w' v' (nrsU (flatN t.rules))) ∧ Below w.heap.size w w' := by
  obtain ⟨i0, hi, hz0, hz1, hz2⟩ := info_parts infoU32n
  obtain ⟨ht1, ht2, k, rfl, hk⟩ := h
  obtain ⟨A, n, c, rfl, hl, hc1, hc2, _⟩ := id hk
  have hmt := fun u (hu : Below w.heap.size w u) j hj => typ_at hk hu j hj
  have hall : ∀ x ∈ flatN t.rules, x ≤ 4294967295 := fun x hx => by
    obtain ⟨m, hm, hx⟩ := List.mem_flatMap.1 hx
    obtain ⟨j, hj, rfl⟩ := List.mem_iff_getElem.1 hm
    obtain ⟨b, off, _, hat⟩ := hmt w (Below.refl _ _) j (by omega)
    obtain ⟨_, _, ⟨_, _, _, _, _, _, _, hle, _⟩, _⟩ := hat
    rw [show t.rules.getD j mtcZ = t.rules[j] by simp [List.getD, hj]] at hle
    exact hle x hx
  have hnI : (n : Int) ≤ 9223372036854775807 := by omega
  have hnw := heap_alloc_new w (.cells #[.int .u32 (t.arch : Nat), .int .u32 (t.dflt : Nat), .slice A n c] 25)
  have hw1 := (Below.refl w.heap.size w).alloc (Nat.le_refl _) (.cells #[.int .u32 (t.arch : Nat), .int .u32 (t.dflt : Nat), .slice A n c] 25)
  have HFT := Lib.hid (fun j hj => flatN_take t.rules j (by rw [hl]; exact hj)); have HFL := Lib.hid (fun j hj => Nat.le_trans (flatN_le t.rules j (by rw [hl]; exact hj)) hfl)
  have HF0 := Lib.hid (show flatN (t.rules.take 0) = [] from rfl); have HFN := Lib.hid (show flatN (t.rules.take n) = flatN t.rules from by rw [← hl, List.take_length])
  have HNW := Lib.hid hnw; have HW1 := Lib.hid hw1; have HMT := Lib.hid hmt; have HALL := Lib.hid hall; have HFLL := Lib.hid hfl
  clear hnw hw1 hmt hl hk hc1 hc2 ht1 ht2 hall hfl
  go_enter Try.func9, Try.ntmps9
  go_upto_region 3 with fail
  go_loopw [3, 9] (fun z3 z wr => ∃ (j : Nat) (A3 : Option Addr) (m3 c3 : Nat), z = .int .i64 (j : Nat) ∧ z3 = .slice A3 m3 c3 ∧ j ≤ n ∧ Hid ((flatN (t.rules.take j)).length = m3) ∧ Hid (wr.ownsRow w.heap.size 22 1 (.slice A3 m3 c3) m3 ((flatN (t.rules.take j)).map u32V)) ∧ Hid (Below w.heap.size w wr)) (fun _ z _ => n - (intOf z).toNat)
  case atStart => exact ⟨0, none, 0, 0, rfl, rfl, by omega, Lib.hid (by rw [HF0.out]; rfl), Lib.hid (by rw [HF0.out]; exact World.ownsRow_nil _ _ _ _), HW1⟩
  case round =>
    obtain ⟨j, A3, m3, c3, rfl, rfl, hj, HM3, HO, HWR⟩ := hrel
    by_cases hlt : j < n
    · obtain ⟨b, off, rfl, hat⟩ := HMT.out wr HWR.out j hlt
      obtain ⟨_, hbd, ka, kn, kc, ca, cn, cc, hu, hkc, e0, e1, e2, e3, e4, e5, e6, e7⟩ := hat.cell
      have hjI : (j : Int) < n := by omega
      have hkn : (t.rules.getD j mtcZ).nrs.length = kn := by obtain ⟨_, _, _, hv, h1, _⟩ := hu; injection hv with _ q2 _; rw [h1, q2]
      have hft := HFT.out j hlt
      have hfl := HFL.out j hlt
      rw [HM3.out] at hfl
      generalize t.rules.getD j mtcZ = m at *
      obtain ⟨nrs, cd, act⟩ := m
      simp only at hkn hft hfl hu e0 e1 e2 e3 e4 e5 e6 e7
      rw [hkn] at hfl
      have HFTJ := Lib.hid hft; have HU := Lib.hid hu; have HKN := Lib.hid hkn; have HLT := Lib.hid hlt
      clear hft hu hat hbd hkc hlt hkn
      obtain ⟨kind, kids, arg, mask, sign, value⟩ := cd
      simp only [Cnd.kind, Cnd.arg, Cnd.mask, Cnd.sign, Cnd.value] at e1 e3 e4 e5 e6
      go_upto_region 5 with fail
      have hn7 := heap_alloc_new wr (.cells #[.slice ka kn kc, .int .i64 kind, .slice ca cn cc, .int .i64 arg, .int .u64 (mask : Nat), .string sign, .int .u64 (value : Nat), .int .u32 (act : Nat)] 33)
      have hy7 := (Below.refl wr.heap.size wr).alloc (Nat.le_refl _) (.cells #[.slice ka kn kc, .int .i64 kind, .slice ca cn cc, .int .i64 arg, .int .u64 (mask : Nat), .string sign, .int .u64 (value : Nat), .int .u32 (act : Nat)] 33)
      generalize wr.alloc (.cells #[.slice ka kn kc, .int .i64 kind, .slice ca cn cc, .int .i64 arg, .int .u64 (mask : Nat), .string sign, .int .u64 (value : Nat), .int .u32 (act : Nat)] 33) = w7 at *
      have HB7 := Lib.hid (HWR.out.trans (hy7.mono HWR.out.size))
      have HU7 := Lib.hid (HU.out.below hy7)
      have HO7 := Lib.hid (own_keep2N HO.out hy7)
      generalize wr.heap.size = b7 at *
      have y0 := below_cell (Below.refl _ w7) hn7 0 rfl
      clear e0 e1 e2 e3 e4 e5 e6 e7 hn7 hy7 HO HU HWR
      go_wp2_with (first
        | (at_builtin; go_must (refine wpList_extend _ _ 27 22 (nrs.map u32V) HO7.out HB7.out (Nat.le_refl _) Try.underlying27 hi hz0 hz1 hz2 rfl (by decide) rfl rfl rfl rfl (u32_source HU7.out) (by rw [List.length_map, HKN.out, Nat.mul_one]) (fun u hu => by obtain ⟨x, _, rfl⟩ := List.mem_map.1 hu; rfl) ?c1 ?_)))
      case c1 => omega
      intro v' w8 hown8 hbel8
      rw [← List.map_append, ← HFTJ.out] at hown8
      obtain ⟨A4, c4, rfl, _, _⟩ := own_form1 hown8
      have HO8 := Lib.hid hown8; have HB8 := Lib.hid hbel8
      clear hown8 hbel8 HO7 HB7 HU7 y0
      go_wp2_with fail
      go_roundw
      case rel => exact ⟨j + 1, A4, m3 + kn, c4, by go_num, rfl, by have := HLT.out; omega, Lib.hid (by rw [HFTJ.out, List.length_append, HM3.out, HKN.out]), HO8, HB8⟩
      case measure => have := HLT.out; simp [intOf]; omega
    · obtain rfl : j = n := by omega
      rw [HFN.out] at HM3 HO
      have hm3 := HM3.out
      have hm3I : m3 ≤ 1000000 := by have := HFLL.out; omega
      have hnn : ¬ (j : Int) < j := by omega
      clear HFT HFL HF0 HFN HMT HW1 HNW
      rcases Nat.eq_zero_or_pos m3 with h0 | h0
      · subst h0
        have hnil : flatN t.rules = [] := List.eq_nil_of_length_eq_zero hm3
        have hc9 := (own_form1 HO.out)
        obtain ⟨_, c3', e3, _, hc9⟩ := hc9
        injection e3 with q1 q2 q3
        subst q3
        clear q1 q2
        have hnil2 : nrsU (flatN t.rules) = [] := by rw [hnil]; exact List.eq_nil_of_length_eq_zero (Nat.le_zero.1 (nrsU_len []))
        have HN2 := Lib.hid hnil2; have HC9 := Lib.hid hc9
        have ha3 := HO.out.2
        have hA3 : A3 = none → c3 = 0 := fun e => by
          rcases ha3 with ⟨e', _⟩ | ⟨_, _, _, e', _⟩
          · injection e'
          · rw [e] at e'; cases e'
        have HA3 := Lib.hid hA3
        clear hnil hnil2 hc9 hm3 ha3 hA3
        go_wp2_with (first
          | (go_at_call 21; refine (srSort0 _ _ _).mono ?_; rintro e w9 ⟨rfl, rfl⟩)
          | (go_at_call 22; refine (srCompact0 _ _ _).mono ?_; rintro e w9 ⟨rfl, rfl⟩))
        go_ret
        refine ⟨⟨_, rfl, ?_⟩, HWR.out⟩
        rw [HN2.out]
        exact ⟨A3, 0, c3, rfl, rfl, Nat.zero_le _, HC9.out, fun n hn => absurd hn (by simp), HA3.out, .inl rfl⟩
      · have hgg : ∃ g, A3 = some ⟨g, 0, none⟩ := by
          rcases HO.out.2 with ⟨e, _⟩ | ⟨g, _, _, e, _⟩
          · injection e with _ e2 _; omega
          · injection e with e1 _ _; exact ⟨g, e1⟩
        obtain ⟨g, rfl⟩ := hgg
        obtain ⟨hS, hbg, hncap, hcmax⟩ := own_srt HO.out HM3.out
        have HSO := Lib.hid (srSort g wr (intsN (flatN t.rules)) m3 c3 wr hS (by unfold intsN; rw [List.length_map, hm3]) hm3I)
        have hcp := fun u (hu : Srt wr g (sortN (flatN t.rules)).toArray u) => srCompact g wr (sortN (flatN t.rules)).toArray m3 c3 u hu (by rw [List.size_toArray, sortN_len, hm3]) hm3I hncap hcmax
        have HCP := Lib.hid hcp
        have HBG := Lib.hid hbg; have HNC := Lib.hid hncap; have HCX := Lib.hid hcmax
        have h0I : (0 : Int) < m3 := by omega
        clear hS hcp hbg hncap hcmax hm3 HO
        go_wp2_with (first
          | (go_at_call 21; refine HSO.out.mono ?_; rintro e w8 ⟨rfl, hs8⟩; have HS8 := Lib.hid hs8; clear hs8)
          | (go_at_call 22; refine (HCP.out _ HS8.out).mono ?_; rintro e w9 ⟨rfl, d', hd1, hd2, hs9⟩))
        go_ret
        have hCC : cmpK (sortN (flatN t.rules)).toArray m3 = numI (flatN t.rules) := by
          unfold numI
          rw [sortN_len, HM3.out]
        rw [hCC] at hd2 ⊢
        have hlen : (nrsU (flatN t.rules)).length = (numI (flatN t.rules)).length := by unfold nrsU; rw [List.length_map]
        have hle : (numI (flatN t.rules)).length ≤ m3 := by rw [← hlen, ← HM3.out]; exact nrsU_len _
        refine ⟨⟨_, rfl, ⟨_, _, _, rfl, hlen, by have := HNC.out; omega, HCX.out, fun x hx => HALL.out x ((nrsU_mem _ _).1 hx), (fun e => by cases e), .inr ⟨g, 0, rfl, by have := hs9.size; have := hs9.lt; omega, fun i hi => ?_⟩⟩⟩, HWR.out.trans (hs9.below HBG.out)⟩
        rw [Nat.zero_add, hs9.cell (by omega), hd2 i hi]
        congr 2
        rw [← nrsU_ints]
        unfold intsN
        simp [List.getD, show i < (nrsU (flatN t.rules)).length by omega]
end Go.Proofs.Ytcejhfpdajbdcaa
