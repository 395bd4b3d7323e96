/- blob.Load. -/
import Derived.Test.YtimiooiaohfelaaDoorBd1
import Derived.Test.YtimiooiaohfelaaDoorRoomT
namespace Go.Proofs.YtimiooiaohfelaaDoor
open Go.RowKit
set_option linter.unusedVariables false
set_option linter.unusedSimpArgs false

/-- whether one more part is read -/
def stepP (l : Lg) (n : Int) (ss : List Nat) : Bool := fitP l n && !(decide ((bodyP (tellsW l n)).size = 0) && decide (0 < ss.length)) && !ss.contains n.toNat && decide (ss.length ≠ 40)
def ldF (l : Lg) : Nat → Int → ByteArray → List Nat → Option (ByteArray × List Nat)
  | 0, _, _, _ => none
  | f + 1, n, d, ss => if stepP l n ss = true then (if nextP (tellsW l n) = 0 then some (d ++ bodyP (tellsW l n), ss ++ [n.toNat]) else ldF l f (nextP (tellsW l n) : Nat) (d ++ bodyP (tellsW l n)) (ss ++ [n.toNat])) else none
def ldO (l : Lg) (n : Int) : Option (ByteArray × List Nat) := if rightL l = true then ldF l 41 n ⟨#[]⟩ [] else none
def ldE (l : Lg) (n : Int) : Int := if rightL l = true then (if (ldF l 41 n ⟨#[]⟩ []).isSome = true then 0 else 32) else 1
def ldD (l : Lg) (n : Int) : ByteArray × List Nat := (ldO l n).getD (⟨#[]⟩, [])
theorem ldF_no {l : Lg} {n : Int} {ss : List Nat} (h : stepP l n ss = false) (f : Nat) (d : ByteArray) : ldF l f n d ss = none := by
  cases f with
  | zero => rfl
  | succ f => unfold ldF; rw [if_neg (by rw [h]; decide)]
theorem ldF_end {l : Lg} {n : Int} {ss : List Nat} (h : stepP l n ss = true) (hz : nextP (tellsW l n) = 0) (f : Nat) (d : ByteArray) : ldF l (f + 1) n d ss = some (d ++ bodyP (tellsW l n), ss ++ [n.toNat]) := by
  conv => lhs; unfold ldF
  rw [if_pos h, if_pos hz]
theorem ldF_go {l : Lg} {n : Int} {ss : List Nat} (h : stepP l n ss = true) (hz : nextP (tellsW l n) ≠ 0) (f : Nat) (d : ByteArray) : ldF l (f + 1) n d ss = ldF l f (nextP (tellsW l n) : Nat) (d ++ bodyP (tellsW l n)) (ss ++ [n.toNat]) := by
  conv => lhs; unfold ldF
  rw [if_pos h, if_neg hz]
theorem fit_facts {l : Lg} {n : Int} (h : fitP l n = true) : rightL l = true ∧ 54 ≤ n ∧ n < l.secs.length ∧ l.secs.length ≤ 256 ∧ (bodyP (tellsW l n)).size ≤ 500 ∧ nextP (tellsW l n) ≤ 65535 ∧ okP (tellsW l n) ∧ secS (nextP (tellsW l n)) (bodyP (tellsW l n)) = tellsW l n := by
  unfold fitP at h
  rw [Bool.and_eq_true, decide_eq_true_eq] at h
  obtain ⟨⟨h1, h2⟩, h3⟩ := h
  have hr := readWE_right h1
  have hsz := tellsW_512 hr n
  unfold isP at h3
  rw [Bool.and_eq_true, decide_eq_true_eq, decide_eq_true_eq] at h3
  have hh : homeB l.secs.length n = true := by
    unfold readWE at h1
    rw [if_pos hr] at h1
    by_cases hb : homeB l.secs.length n = true
    · exact hb
    · rw [if_neg hb] at h1; exact absurd h1 (by decide)
  have h256 := (right_dirty hr).2.1
  have hb := home_bnd hh h256
  have hk := h3.1
  unfold okP at hk
  exact ⟨hr, h2, hb.2.1, h256, by rw [bodyP_size _ hsz (by omega)]; exact hk.1, nextP_le _ hsz, h3.1, h3.2⟩
def lenV : Value → Nat | .slice _ n _ => n | _ => 0
set_option maxRecDepth 100000 in
theorem natContains (w : World) (A : Option Addr) (m c : Nat) (l : List Nat) (n : Nat) (h : IsNats w (.slice A m c) l) :
    Calls Tryd.prog 11 #[.slice A m c, .int .i64 (n : Nat)] w fun e w' => e = .returned (.bool (l.contains n)) ∧ Below w.heap.size w w' := by
  obtain ⟨_, _, _, hv, h2, h3, h4, h6⟩ := h
  injection hv with e1 e2 e3
  subst e1 e2 e3
  have hI : Calls Tryd.prog 26 #[.slice A m c, .int .i64 (n : Nat)] w fun e w' => (∃ z : Int, e = .returned (.int .i64 z) ∧ decide (0 ≤ z) = l.contains n) ∧ Below w.heap.size w w' := by
    have hmI : (m : Int) ≤ 9223372036854775807 := by omega
    have hat : ∀ j, j < m → ∃ b off, A = some ⟨b, off, none⟩ ∧ ∀ u, Below w.heap.size w u → u.cell? ⟨b, off + j, none⟩ = some (.int .i64 (l.getD j 0 : Nat)) := fun j hj => by
      obtain ⟨b, off, rfl, hlt, hat⟩ := h6.resolve_left (by omega)
      exact ⟨b, off, rfl, fun u hu => (hu.cell (p := ⟨b, off + j, none⟩) hlt).trans (by rw [hat j (by omega)]; simp [natV, List.getD, show j < l.length by omega])⟩
    have hin : ∀ j, j < m → l.getD j 0 = n → l.contains n = true := fun j hj e => by
      rw [List.contains_iff_mem, ← e, show l.getD j 0 = l[j] from by simp [List.getD, show j < l.length by omega]]
      exact List.getElem_mem _
    have hout : (∀ j, j < m → l.getD j 0 ≠ n) → l.contains n = false := fun h => by
      rw [Bool.eq_false_iff, ne_eq, List.contains_iff_mem]
      intro hm
      obtain ⟨j, hj, e⟩ := List.mem_iff_getElem.1 hm
      exact h j (by omega) (by simp [List.getD, hj, e])
    have HAT := Lib.hid hat; have HIN := Lib.hid hin; have HOUT := Lib.hid hout
    clear hat hin hout h2 h3 h4 h6
    go_enter Tryd.func26, Tryd.ntmps26
    go_wp2_with fail
    go_loopw [8] (fun z wr => ∃ j : Nat, z = .int .i64 (j : Nat) ∧ j ≤ m ∧ (∀ i, i < j → l.getD i 0 ≠ n) ∧ Below w.heap.size w wr) (fun z _ => m - (intOf z).toNat)
    case atStart => exact ⟨0, rfl, by omega, fun i hi => absurd hi (Nat.not_lt_zero i), Below.refl _ _⟩
    case round =>
      obtain ⟨j, rfl, hj, hno, hwr⟩ := hrel
      have HNO := Lib.hid hno; have HWR := Lib.hid hwr
      clear hno hwr
      by_cases hlt : j < m
      · obtain ⟨b, off, rfl, hc⟩ := HAT.out j hlt
        have hcell := hc wr HWR.out
        have hjI : (j : Int) < m := by omega
        clear hc
        by_cases hx : l.getD j 0 = n
        · have hy := HIN.out j hlt hx
          have HY := Lib.hid hy
          rw [hx] at hcell
          clear hx hy HIN HOUT HAT
          go_wp2_with fail
          go_ret
          exact ⟨⟨_, rfl, by rw [HY.out]; simp⟩, HWR.out⟩
        · have hne : ((n : Int) == ((l.getD j 0 : Nat) : Int)) = false := by rw [beq_eq_false_iff_ne]; omega
          have HNE := Lib.hid hx
          generalize hgx : l.getD j 0 = x at *
          have HGX := Lib.hid hgx
          clear hx hgx
          go_wp2_with fail
          go_roundw
          case rel => exact ⟨j + 1, by go_num, by omega, fun i hi => by
            by_cases e : i < j
            · exact HNO.out i e
            · obtain rfl : i = j := by omega
              rw [HGX.out]; exact HNE.out, HWR.out⟩
          case measure => simp [intOf]; omega
      · obtain rfl : j = m := by omega
        have hy := HOUT.out HNO.out
        have HY := Lib.hid hy
        clear hy HIN HOUT HAT HNO
        go_wp2_with fail
        go_ret
        exact ⟨⟨_, rfl, by rw [HY.out]; rfl⟩, HWR.out⟩
  have HI := Lib.hid hI
  clear hI h2 h3 h4 h6
  go_enter Tryd.func11, Tryd.ntmps11
  go_wp2_with fail
  refine HI.out.mono ?_
  rintro e w2 ⟨⟨z, rfl, hz⟩, hb2⟩
  have HB2 := Lib.hid hb2; have HZ := Lib.hid hz
  clear hb2 hz HI
  go_wp2_with fail
  go_ret
  exact ⟨by rw [← HZ.out]; rfl, HB2.out⟩
def LoadPost (l : Lg) (n : Int) (w : World) (e : Ending) (w' : World) : Prop :=
  (∃ v, e = .returned (.tuple #[.string (ldD l n).1, v, .int .i64 (ldE l n)]) ∧ IsNats w' v (ldD l n).2) ∧ Below w.heap.size w w'
theorem load_no {l : Lg} {n : Int} {w w' : World} (hr : rightL l = true) (h : ldF l 41 n ⟨#[]⟩ [] = none) (hb : Below w.heap.size w w') : LoadPost l n w (.returned (.tuple #[.string ⟨#[]⟩, .slice none 0 0, .int .i64 32])) w' := by
  refine ⟨⟨.slice none 0 0, ?_, ?_⟩, hb⟩
  · unfold ldD ldE ldO; rw [if_pos hr, if_pos hr, h]; rfl
  · unfold ldD ldO; rw [if_pos hr, h]; exact nats_nil w'
theorem load_yes {l : Lg} {n : Int} {w w' : World} {d : ByteArray} {x : List Nat} {v : Value} (hr : rightL l = true) (h : ldF l 41 n ⟨#[]⟩ [] = some (d, x)) (hx : IsNats w' v x) (hb : Below w.heap.size w w') : LoadPost l n w (.returned (.tuple #[.string d, v, .int .i64 0])) w' := by
  refine ⟨⟨v, ?_, ?_⟩, hb⟩
  · unfold ldD ldE ldO; rw [if_pos hr, if_pos hr, h]; rfl
  · unfold ldD ldO; rw [if_pos hr, h]; exact hx
theorem empL (b : ByteArray) : b.toList.isEmpty = decide (b.size = 0) := by
  rw [ByteArray.toList_eq]
  rcases b with ⟨⟨l⟩⟩
  cases l with
  | nil => rfl
  | cons x l => symm; exact decide_eq_false (by simp [ByteArray.size])
theorem ba_empty {b : ByteArray} (h : b.size = 0) : b = ⟨#[]⟩ := by
  rcases b with ⟨⟨l⟩⟩
  cases l with
  | nil => rfl
  | cons x l => exact absurd h (by simp [ByteArray.size])
theorem own_keep2 {w w' : World} {base : Nat} {e : TypeId} {size : Nat} {v : Value} {n : Nat} {xs : List Value} (h : w.ownsRow base e size v n xs) (hb : Below w.heap.size w w') : w'.ownsRow base e size v n xs := by
  refine ⟨h.1, h.2.imp id ?_⟩
  rintro ⟨g, cap, cur, rfl, hg, hh, hr⟩
  exact ⟨g, cap, cur, rfl, hg, (hb.block g (lt_of_block hh)).trans hh, hr⟩
set_option maxRecDepth 100000 in
set_option maxHeartbeats 8000000 in
theorem blobLoad (v : Value) (l : Lg) (n : Int) (w : World) (h : IsLog w v l) (hp : l.pend.length ≤ 1000000) (hn : i64ok n) :
    Calls Tryd.prog 5 #[v, .int .i64 n] w (LoadPost l n w) := by
  obtain ⟨i0, hi, hz0, hz1, hz2⟩ := info_parts infoInt
  obtain ⟨x1, x2, x3, x4, x5, x6, rfl, _⟩ := id h.form
  obtain ⟨B, hB⟩ : ∃ B, w.heap.size = B := ⟨_, rfl⟩
  have hR := Lib.hid (fun u (hu : Below w.heap.size w u) => wlRight _ l u (h.below hu))
  have hPA := Lib.hid (fun u (x : Int) (hu : Below w.heap.size w u) => blobPartAt _ l x u (h.below hu) hp)
  have hbk := heap_alloc_new w (.cells #[.slice x1 l.secs.length x2, .slice x3 l.pend.length x4, .int .i64 l.left, .int .i64 l.epoch, .int .i64 l.seq, .int .i64 l.used, .slice x5 l.dirty.length x6] 29)
  have hal := (Below.refl w.heap.size w).alloc (Nat.le_refl _) (.cells #[.slice x1 l.secs.length x2, .slice x3 l.pend.length x4, .int .i64 l.left, .int .i64 l.epoch, .int .i64 l.seq, .int .i64 l.used, .slice x5 l.dirty.length x6] 29)
  rw [hB] at hbk
  have HBK := Lib.hid hbk; have HAL := Lib.hid hal; have HBQ := Lib.hid hB
  have HIN := Lib.hid hn
  clear h hbk hal hB hn
  go_enter Tryd.func5, Tryd.ntmps5
  go_upto_region 1 with fail
  (try rw [HBQ.out])
  obtain ⟨u, hU⟩ : ∃ u, w.alloc (.cells #[.slice x1 l.secs.length x2, .slice x3 l.pend.length x4, .int .i64 l.left, .int .i64 l.epoch, .int .i64 l.seq, .int .i64 l.used, .slice x5 l.dirty.length x6] 29) = u := ⟨_, rfl⟩
  rw [hU] at HBK HAL ⊢
  clear hU
  have d0 := below_cell (Below.refl _ u) HBK.out 0 rfl
  have d1 := below_cell (Below.refl _ u) HBK.out 1 rfl
  have d2 := below_cell (Below.refl _ u) HBK.out 2 rfl
  have d3 := below_cell (Below.refl _ u) HBK.out 3 rfl
  have d4 := below_cell (Below.refl _ u) HBK.out 4 rfl
  have d5 := below_cell (Below.refl _ u) HBK.out 5 rfl
  have d6 := below_cell (Below.refl _ u) HBK.out 6 rfl
  by_cases hr : rightL l = true
  rotate_left
  · have hr' : rightL l = false := by simpa using hr
    have hRu := hR.out u HAL.out
    rw [hr'] at hRu
    have HRU := Lib.hid hRu
    have hpost : ∀ w', Below w.heap.size w w' → LoadPost l n w (.returned (.tuple #[.string ⟨#[]⟩, .slice none 0 0, .int .i64 1])) w' := fun w' hb => by
      refine ⟨⟨.slice none 0 0, ?_, ?_⟩, hb⟩
      · unfold ldD ldE ldO; rw [if_neg hr, if_neg hr]; rfl
      · unfold ldD ldO; rw [if_neg hr]; exact nats_nil w'
    have HPO := Lib.hid hpost
    clear hRu hpost hr hr'
    go_wp2_with (first | (go_at_call 9; refine HRU.out.mono ?_; rintro e w1 ⟨rfl, hb⟩))
    refine bodyPost_ret (results_tmp3 rfl _ _ _) rfl ?_
    exact HPO.out _ (HAL.out.trans (hb.mono HAL.out.size))
  · have hRu := hR.out u HAL.out
    rw [hr] at hRu
    have HRU := Lib.hid hRu; have HRR := Lib.hid hr
    obtain ⟨R, hRR⟩ : ∃ R, ldF l 41 n ⟨#[]⟩ [] = R := ⟨_, rfl⟩
    have HRE := Lib.hid hRR
    clear hRu hr hRR
    go_wp2_with (first | (go_at_call 9; refine HRU.out.mono ?_; rintro e w1 ⟨rfl, hb⟩))
    have HB1 := Lib.hid (HAL.out.trans (hb.mono HAL.out.size))
    have HK1 := Lib.hid ((hb.block _ (lt_of_block HBK.out)).trans HBK.out)
    clear hb HBK HAL d0 d1 d2 d3 d4 d5 d6 HRU
    go_loopw [7, 8, 9] (fun z7 z8 z9 wr => ∃ (d : ByteArray) (A : Option Addr) (c : Nat) (ss : List Nat) (x : Int), z7 = .string d ∧ z8 = .slice A ss.length c ∧ z9 = .int .i64 x ∧ ss.length ≤ 40 ∧ d.size ≤ 500 * ss.length ∧ Hid (i64ok x) ∧ Hid (wr.ownsRow w.heap.size 3 1 (.slice A ss.length c) ss.length (ss.map natV)) ∧ Hid (ldF l (41 - ss.length) x d ss = R) ∧ Hid (Below w.heap.size w wr) ∧ Hid (wr.heap[B]? = some (.cells #[.slice x1 l.secs.length x2, .slice x3 l.pend.length x4, .int .i64 l.left, .int .i64 l.epoch, .int .i64 l.seq, .int .i64 l.used, .slice x5 l.dirty.length x6] 29 (0, 0)))) (fun _ z8 _ _ => 41 - lenV z8)
    case atStart => exact ⟨⟨#[]⟩, none, 0, [], n, rfl, rfl, rfl, by simp, by simp [ByteArray.size], HIN, Lib.hid (World.ownsRow_nil _ _ _ _), HRE, HB1, HK1⟩
    case round =>
      clear HIN HB1 HK1
      obtain ⟨d, A, c, ss, x, rfl, rfl, rfl, hs40, hds, HIX, HO, HL, HB1, HK1⟩ := hrel
      obtain ⟨m, hm⟩ : ∃ m, ss.length = m := ⟨_, rfl⟩
      have HM := Lib.hid hm
      rw [hm] at HO HL hs40 hds ⊢
      have hpa := hPA.out _ x HB1.out
      have d0 := below_cell (Below.refl _ wr) HK1.out 0 rfl
      have d1 := below_cell (Below.refl _ wr) HK1.out 1 rfl
      have d2 := below_cell (Below.refl _ wr) HK1.out 2 rfl
      have d3 := below_cell (Below.refl _ wr) HK1.out 3 rfl
      have d4 := below_cell (Below.refl _ wr) HK1.out 4 rfl
      have d5 := below_cell (Below.refl _ wr) HK1.out 5 rfl
      have d6 := below_cell (Below.refl _ wr) HK1.out 6 rfl
      have hmI : (m : Int) ≤ 40 := by omega
      cases hf : fitP l x with
      | false =>
        have hst : stepP l x ss = false := by unfold stepP; rw [hf]; rfl
        have hno : R = none := by rw [← HL.out]; exact ldF_no hst _ _
        have HN := Lib.hid hno
        unfold PartPost at hpa
        rw [hf] at hpa
        have HPX := Lib.hid hpa
        clear hpa hm hst hno hf HL HO
        go_upto_region 7 with (first | (go_at_call 10; refine HPX.out.mono ?_; rintro e w2 ⟨⟨pa, pb, rfl, _⟩, hb2⟩))
        have hbb := HB1.out.trans (hb2.mono HB1.out.size)
        clear hb2
        by_cases hm0 : 0 < m
        · have hm0I : (0 : Int) < m := by omega
          cases hpb : pb.toList.isEmpty with
          | false =>
            have hpb2 : (pb.toList == []) = false := by rw [← hpb]; cases pb.toList <;> rfl
            go_wp2_with fail
            refine bodyPost_ret (results_tmp3 rfl _ _ _) rfl ?_
            exact load_no HRR.out (HRE.out.trans HN.out) hbb
          | true =>
            have hpb2 : (pb.toList == []) = true := by rw [← hpb]; cases pb.toList <;> rfl
            go_wp2_with fail
            refine bodyPost_ret (results_tmp3 rfl _ _ _) rfl ?_
            exact load_no HRR.out (HRE.out.trans HN.out) hbb
        · obtain rfl : m = 0 := by omega
          cases hpb : pb.toList.isEmpty with
          | false =>
            have hpb2 : (pb.toList == []) = false := by rw [← hpb]; cases pb.toList <;> rfl
            go_wp2_with fail
            refine bodyPost_ret (results_tmp3 rfl _ _ _) rfl ?_
            exact load_no HRR.out (HRE.out.trans HN.out) hbb
          | true =>
            have hpb2 : (pb.toList == []) = true := by rw [← hpb]; cases pb.toList <;> rfl
            go_wp2_with fail
            refine bodyPost_ret (results_tmp3 rfl _ _ _) rfl ?_
            exact load_no HRR.out (HRE.out.trans HN.out) hbb
      | true =>
        obtain ⟨_, h54, hxs, h256, hbz, hnx, _, _⟩ := fit_facts hf
        obtain ⟨X, rfl⟩ : ∃ X : Nat, x = X := ⟨x.toNat, by omega⟩
        obtain ⟨BP, hBP⟩ : ∃ BP, bodyP (tellsW l (X : Int)) = BP := ⟨_, rfl⟩
        obtain ⟨N, hN⟩ : ∃ N, nextP (tellsW l (X : Int)) = N := ⟨_, rfl⟩
        have hX : X ≤ 256 := by omega
        have hst : stepP l (X : Int) ss = (!(decide (BP.size = 0) && decide (0 < m)) && !ss.contains X && decide (m ≠ 40)) := by
          unfold stepP
          rw [hf, hBP, hm, Bool.true_and]
          rfl
        have hgo0 : ∀ f, stepP l (X : Int) ss = true → ldF l (f + 1) X d ss = if N = 0 then some (d ++ BP, ss ++ [X]) else ldF l f (N : Int) (d ++ BP) (ss ++ [X]) := fun f h => by
          by_cases hz : N = 0
          · rw [if_pos hz, ldF_end h (by rw [hN]; exact hz), hBP]; rfl
          · rw [if_neg hz, ldF_go h (by rw [hN]; exact hz), hBP, hN]; rfl
        unfold PartPost at hpa
        rw [hf, hBP, hN] at hpa
        rw [hBP] at hbz
        rw [hN] at hnx
        have HPX := Lib.hid hpa; have HST := Lib.hid hst; have HGO := Lib.hid hgo0
        clear hpa hst hgo0 hf hBP hN h54 hxs h256
        have hnI : (N : Int) ≤ 65535 := by omega
        have hXI : (X : Int) ≤ 256 := by omega
        go_upto_region 7 with (first | (go_at_call 10; refine HPX.out.mono ?_; rintro e w2 ⟨⟨pa, pb, rfl, hpab⟩, hb2⟩; obtain ⟨e1, e2⟩ := hpab rfl; subst e1; have e3 := e2.symm; clear e2; subst e3; clear hpab))
        have hbb := HB1.out.trans (hb2.mono HB1.out.size)
        have HO2 := Lib.hid (own_keep2 HO.out hb2)
        have HK2 := Lib.hid ((hb2.block _ (lt_of_block HK1.out)).trans HK1.out)
        have HBB := Lib.hid hbb
        clear hb2 hbb HO HK1 HB1 HPX d0 d1 d2 d3 d4 d5 d6
        have HCT := Lib.hid (natContains w2 A m c ss X (own_reads1 HO2.out hm))
        by_cases hemp : BP.size = 0 ∧ 0 < m
        · have hno : R = none := by
            rw [← HL.out]
            refine ldF_no ?_ _ _
            rw [HST.out, decide_eq_true hemp.1, decide_eq_true hemp.2]; rfl
          have HN := Lib.hid hno
          have hpb : BP.toList.isEmpty = true := by rw [empL]; exact decide_eq_true hemp.1
          have hpb2 : (BP.toList == []) = true := by rw [← hpb]; cases BP.toList <;> rfl
          have hm0I : (0 : Int) < m := by omega
          have hm0N : 0 < m := hemp.2
          have hbb := HBB.out
          clear hno hemp hm
          go_wp2_with fail
          refine bodyPost_ret (results_tmp3 rfl _ _ _) rfl ?_
          exact load_no HRR.out (HRE.out.trans HN.out) hbb
        · have hE : (decide (BP.size = 0) && decide (0 < m)) = false := by
            rw [← Bool.decide_and]; exact decide_eq_false hemp
          rw [hE] at HST
          have HST2 := Lib.hid (show stepP l (X : Int) ss = (!ss.contains X && decide (m ≠ 40)) from HST.out)
          clear HST
          obtain ⟨bE, hbE⟩ : ∃ bE, BP.toList.isEmpty = bE := ⟨_, rfl⟩
          have hpb2 : (BP.toList == []) = bE := by rw [← hbE]; cases BP.toList <;> rfl
          have hme : bE = true → ¬ 0 < m := fun h1 h2 => hemp ⟨by
            rw [h1, empL] at hbE
            exact of_decide_eq_true hbE, h2⟩
          clear hemp hE
          go_cut [13] (fun s13 wx => s13 = .bool false ∧ wx = w2)
          case first =>
            by_cases hm0 : 0 < m
            · have hm0I : (0 : Int) < m := by omega
              cases bE with
              | true => exact absurd hm0 (hme rfl)
              | false =>
                go_wp2_with fail
                go_meet
                exact ⟨rfl, rfl⟩
            · have hm0I : ¬ (0 : Int) < m := by omega
              cases bE with
              | true =>
                go_wp2_with fail
                go_meet
                exact ⟨by first | rfl | simp, rfl⟩
              | false =>
                go_wp2_with fail
                go_meet
                exact ⟨rfl, rfl⟩
          case rest =>
            obtain ⟨rfl, rfl⟩ := hcut
            clear hme hpb2 hbE
            have hcx := HCT.out
            cases hct : ss.contains X with
            | true =>
              have hno : R = none := by
                rw [← HL.out]
                refine ldF_no ?_ _ _
                rw [HST2.out, hct]; rfl
              have HN := Lib.hid hno
              rw [hct] at hcx
              have HCT2 := Lib.hid hcx
              clear hno hct hcx HCT hm
              go_wp2_with (first | (go_at_call 11; refine HCT2.out.mono ?_; rintro e w3 ⟨rfl, hb3⟩))
              have hbb := HBB.out.trans (hb3.mono HBB.out.size)
              refine bodyPost_ret (results_tmp3 rfl _ _ _) rfl ?_
              exact load_no HRR.out (HRE.out.trans HN.out) hbb
            | false =>
              rw [hct] at hcx
              have HCT2 := Lib.hid hcx
              by_cases h40 : m = 40
              · have hno : R = none := by
                  rw [← HL.out]
                  refine ldF_no ?_ _ _
                  rw [HST2.out, hct, h40]; rfl
                have HN := Lib.hid hno
                clear hno hct hcx HCT hm
                subst h40
                go_wp2_with (first | (go_at_call 11; refine HCT2.out.mono ?_; rintro e w3 ⟨rfl, hb3⟩))
                have hbb := HBB.out.trans (hb3.mono HBB.out.size)
                refine bodyPost_ret (results_tmp3 rfl _ _ _) rfl ?_
                exact load_no HRR.out (HRE.out.trans HN.out) hbb
              · have h40I : ¬ (m : Int) = 40 := by omega
                have h40B : ((m : Int) == 40) = false := by rw [beq_eq_false_iff_ne]; omega
                have h40N : (m == 40) = false := by rw [beq_eq_false_iff_ne]; exact h40
                have hg := HGO.out (40 - m) (by rw [HST2.out, hct, decide_eq_true h40]; rfl)
                rw [show 40 - m + 1 = 41 - m by omega, HL.out] at hg
                have HG := Lib.hid hg
                have hadd := add_run (P := Tryd.prog) d BP _ rfl (by omega)
                have hds2 : (d ++ BP).size ≤ 500 * (m + 1) := by rw [ByteArray.size_append]; omega
                generalize d ++ BP = D2 at hadd HG hds2
                clear hg hct hcx HCT HGO HST2 HL
                go_wp2_with (first
                  | (go_at_call 11; refine HCT2.out.mono ?_; rintro e w3 ⟨rfl, hb3⟩)
                  | (at_builtin; go_must (refine wpList_push2 _ _ 31 3 (.int .i64 (X : Nat)) (own_keep2 HO2.out hb3) (HBB.out.trans (hb3.mono HBB.out.size)) (Nat.le_refl _) Tryd.underlying31 hi hz0 hz1 hz2 rfl rfl rfl rfl rfl rfl ?c1 ?_)))
                case c1 => omega
                intro v' w4 hown4 hbel4 hkeep
                have hk4 := hkeep B _ _ ((hb3.block _ (lt_of_block HK2.out)).trans HK2.out) (by decide)
                have hmap : ss.map natV ++ [.int .i64 (X : Nat)] = (ss ++ [X]).map natV := by simp [natV]
                rw [hmap] at hown4
                obtain ⟨A4, c4, rfl, _, _⟩ := own_form1 hown4
                have HO4 := Lib.hid hown4; have HB4 := Lib.hid hbel4; have HK4 := Lib.hid hk4
                have hlen : (ss ++ [X]).length = m + 1 := by rw [List.length_append, hm]; rfl
                have HLEN := Lib.hid hlen
                clear hkeep hk4 hown4 hbel4 hmap hlen hb3 HO2 HK2 HBB hm
                by_cases hz : N = 0
                · rw [if_pos hz] at HG
                  subst hz
                  go_wp2_with fail
                  refine bodyPost_ret (results_tmp3 rfl _ _ _) rfl ?_
                  exact load_yes HRR.out (HRE.out.trans HG.out) (own_reads1 HO4.out HLEN.out) HB4.out
                · rw [if_neg hz] at HG
                  have hzB : ((N : Int) == 0) = false := by simpa using hz
                  have hzN : (N == 0) = false := by simpa using hz
                  go_wp2_with fail
                  exact ⟨⟨D2, A4, c4, ss ++ [X], (N : Int), rfl, by rw [HLEN.out], rfl, by rw [HLEN.out]; omega, by rw [HLEN.out]; exact hds2, Lib.hid (by constructor <;> omega), Lib.hid (by rw [HLEN.out]; exact HO4.out), Lib.hid (by rw [HLEN.out, show 41 - (m + 1) = 40 - m by omega]; exact HG.out.symm), HB4, HK4⟩, by simp [lenV]; omega⟩
end Go.Proofs.YtimiooiaohfelaaDoor
