/- wal.Open, begun: the greatest number of a row; a transaction's images as writes. -/
import Derived.Test.YthnmnnlbglpjaaaGreatDoorRf5A
import Derived.Test.YthnmnnlbglpjaaaGreatDoorPk3
namespace Go.Proofs.YthnmnnlbglpjaaaGreatDoor
open Go.RowKit
set_option linter.unusedVariables false
set_option linter.unusedSimpArgs false

theorem reads1_form {w : World} {v : Value} {l : List Int} (h : Reads1 encI w v l) : ∃ a c, v = .slice a l.length c ∧ l.length ≤ c ∧ c ≤ 9223372036854775807 ∧ ∀ u : World, Below w.heap.size w u → ∀ i : Nat, i < l.length → ∃ b off, a = some ⟨b, off, none⟩ ∧ b < u.heap.size ∧ u.cell? ⟨b, off + i, none⟩ = some (.int .i64 (l.getD i 0)) := by
  obtain ⟨a, len, cap, rfl, rfl, h1, h2, hat⟩ := h
  refine ⟨a, cap, rfl, h1, h2, fun u hu i hi => ?_⟩
  obtain ⟨b, off, rfl, hb, hc⟩ := hat.resolve_left (by omega)
  refine ⟨b, off, rfl, Nat.lt_of_lt_of_le hb hu.size, (hu.cell (p := ⟨b, off + i, none⟩) hb).trans ?_⟩
  rw [hc i hi]
  simp [List.getD, hi, encI]
set_option maxRecDepth 100000 in
theorem maxInts (v : Value) (l : List Int) (w : World) (h : Reads1 encI w v l) (h0 : l.length ≠ 0) (hl : l.length ≤ 1000) :
    Calls Tryz.prog 77 #[v] w fun e w' => (∃ m, e = .returned (.int .i64 m) ∧ m ∈ l ∧ ∀ x ∈ l, x ≤ m) ∧ w = w' := by
  obtain ⟨a, c, rfl, hc1, hc2, hat⟩ := reads1_form h
  obtain ⟨n, hn⟩ : ∃ n, l.length = n := ⟨_, rfl⟩
  have HAT := Lib.hid (hat w (Below.refl _ _))
  rw [hn] at HAT hc1 h0 hl ⊢
  have HN := Lib.hid hn
  have hn1 : ¬ (n : Int) < 1 := by omega
  have hcI : (n : Int) ≤ c := by omega
  have hcI2 : (c : Int) ≤ 9223372036854775807 := by omega
  have hnI : (n : Int) ≤ 1000 := by omega
  have h0n : (0 : Int) < n := by omega
  obtain ⟨b, off, rfl, hb, p0⟩ := HAT.out 0 (by omega)
  rw [Nat.add_zero] at p0
  have HM : ∀ i, i < n → l.getD i 0 ∈ l := fun i hi => by
    have : i < l.length := by rw [hn]; exact hi
    simp [List.getD, this]
  have HM := Lib.hid HM
  clear h hat hn
  go_enter Tryz.func77, Tryz.ntmps77
  go_upto_region 4 with fail
  go_wp2_with fail
  go_loop [3, 4] (fun z3 z4 => ∃ (i : Nat) (m : Int), 1 ≤ i ∧ i ≤ n ∧ z4 = .int .i64 i ∧ z3 = .int .i64 m ∧ Hid (m ∈ l ∧ ∀ j, j < i → l.getD j 0 ≤ m)) (fun _ z4 => n - (intOf z4).toNat)
  case atStart => exact ⟨1, _, Nat.le_refl _, by omega, rfl, rfl, Lib.hid ⟨HM.out 0 (by omega), fun j hj => by (have hj0 : j = 0 := (by omega)); subst hj0; simp⟩⟩
  case round =>
    clear p0
    obtain ⟨i, m, hi1, hin, rfl, rfl, HI⟩ := hrel
    by_cases hlt : i < n
    · have hiI : (i : Int) < n := by omega
      obtain ⟨b2, off2, he, hb2, p1⟩ := HAT.out i hlt
      have he2 : b = b2 ∧ off = off2 := by injection he with he; injection he with h1 h2; exact ⟨h1, h2⟩
      obtain ⟨rfl, rfl⟩ := he2
      have hmem := HM.out i hlt
      obtain ⟨y, hy⟩ : ∃ y, l.getD i 0 = y := ⟨_, rfl⟩
      rw [hy] at p1 hmem
      have HY := Lib.hid hy; have HME := Lib.hid hmem
      clear hy hmem he hb2
      obtain ⟨q, hq⟩ : ∃ q, (if m < y then y else m) = q := ⟨_, rfl⟩
      have hq2 : max m y = q := by rw [← hq]; split <;> omega
      have hq3 : m ≤ q ∧ y ≤ q ∧ (q = m ∨ q = y) := by rw [← hq]; split <;> omega
      have HQ := Lib.hid hq3
      clear hq3
      go_wp2_with fail
      go_round
      case rel => exact ⟨i + 1, q, by omega, by omega, by go_num, rfl, Lib.hid ⟨by rcases HQ.out.2.2 with h | h; rw [h]; exact HI.out.1; rw [h]; exact HME.out, fun j hj => by
        have hq := HQ.out
        by_cases hji : j < i
        · have := HI.out.2 j hji; omega
        · obtain rfl : j = i := by omega
          rw [HY.out]; omega⟩⟩
      case measure => simp [intOf]; omega
    · obtain rfl : i = n := by omega
      have hnl : ¬ (i : Int) < i := by omega
      go_wp2_with fail
      go_ret
      refine ⟨⟨m, rfl, HI.out.1, fun x hx => ?_⟩, rfl⟩
      obtain ⟨j, hj, rfl⟩ := List.mem_iff_getElem.1 hx
      have := HI.out.2 j (by rw [← HN.out]; exact hj)
      rw [show l.getD j 0 = l[j] from by simp [List.getD, hj]] at this
      exact this
theorem img_wraps (u : Int) (U i n : Nat) (hu : u = U) (h : U + n ≤ 40) (hi : i < n) : wrap64 (13 + u) = 13 + u ∧ wrap64 (13 + u + (i : Int)) = ((13 + U + i : Nat) : Int) := by
  refine ⟨IntWalk.wrap64_in _ ⟨by omega, by omega⟩, ?_⟩
  rw [IntWalk.wrap64_in (13 + u + (i : Int)) ⟨by omega, by omega⟩]; omega
/-- a transaction's images, as writes -/
def imgW (l : Lg) (ts : List Int) : List Wrt := (List.range ts.length).map (fun i : Nat => ⟨ts.getD i 0, l.secs.getD (13 + l.used.toNat + i) ⟨#[]⟩⟩)
theorem imgW_len (l : Lg) (ts : List Int) : (imgW l ts).length = ts.length := by simp [imgW]
theorem imgW_snoc (l : Lg) (ts : List Int) (i : Nat) (h : i < ts.length) : wcells ((imgW l ts).take (i + 1)) = wcells ((imgW l ts).take i) ++ [.int .i64 (ts.getD i 0), .string (l.secs.getD (13 + l.used.toNat + i) ⟨#[]⟩)] := by
  have hil : i < (imgW l ts).length := by rw [imgW_len]; exact h
  rw [List.take_add_one, wcells_append]
  simp [imgW, h, wcells]
set_option maxRecDepth 100000 in
set_option maxHeartbeats 1000000 in
theorem wlImages (v tv : Value) (l : Lg) (ts : List Int) (w : World) (h : IsLog w v l) (ht : Reads1 encI w tv ts) (hu : 0 ≤ l.used ∧ l.used + ts.length ≤ 40) (hs : 53 ≤ l.secs.length) (hb : ∀ t ∈ ts, i64ok t) :
    Calls Tryz.prog 45 #[v, tv] w fun e w' => ∃ v', e = .returned v' ∧ IsWrts w' v' (imgW l ts) ∧ Below w.heap.size w w' := by
  obtain ⟨hNI', hNI, hzI0, hzI1, hzI2⟩ := info_parts infoWrt
  obtain ⟨x1, x2, x3, x4, x5, x6, rfl, ⟨g1, g2⟩, ⟨_, _⟩, ⟨_, _⟩, hSS, _⟩ := id h.form
  obtain ⟨ta, tc, rfl, ht1, ht2, hat⟩ := reads1_form ht
  obtain ⟨n, hn⟩ : ∃ n, ts.length = n := ⟨_, rfl⟩
  have HN := Lib.hid hn
  have HAT := Lib.hid hat
  have HSN : Hid (∀ i, i < n → wcells ((imgW l ts).take (i + 1)) = wcells ((imgW l ts).take i) ++ [.int .i64 (ts.getD i 0), .string (l.secs.getD (13 + l.used.toNat + i) ⟨#[]⟩)]) := Lib.hid (fun i hi => imgW_snoc l ts i (by rw [hn]; exact hi))
  have hsz : ∀ s ∈ l.secs, s.size ≤ 9223372036854775807 := by obtain ⟨_, _, _, _, _, _, _, hh, _⟩ := hSS; exact hh
  have HALL : Hid (∀ x ∈ imgW l ts, x.bounded) := Lib.hid (fun x hx => by
    unfold imgW at hx
    obtain ⟨i, hi, rfl⟩ := List.mem_map.1 hx
    have hil : i < ts.length := List.mem_range.1 hi
    refine ⟨hb _ (by simp [List.getD, hil]), ?_⟩
    show (l.secs.getD (13 + l.used.toNat + i) ⟨#[]⟩).size ≤ _
    by_cases hk : 13 + l.used.toNat + i < l.secs.length
    · rw [show l.secs.getD (13 + l.used.toNat + i) ⟨#[]⟩ = l.secs[13 + l.used.toNat + i] from by simp [List.getD, hk]]
      exact hsz _ (List.getElem_mem hk)
    · rw [show l.secs.getD (13 + l.used.toNat + i) ⟨#[]⟩ = ⟨#[]⟩ from by simp [List.getD, Nat.le_of_not_lt hk]]
      show 0 ≤ _; omega)
  have HSE : Hid (∀ u : World, Below w.heap.size w u → ∀ k : Nat, k < l.secs.length → ∃ b off, x1 = some ⟨b, off, none⟩ ∧ b < u.heap.size ∧ u.cell? ⟨b, off + k, none⟩ = some (.string (l.secs.getD k ⟨#[]⟩))) := Lib.hid (by
    intro u hu k hk
    obtain ⟨a9, n9, c9, hv9, _, _, _, _, hat9⟩ := hSS.below hu
    injection hv9 with t1 t2 t3
    subst t1 t2 t3
    obtain ⟨b, off, rfl, hbb, hc⟩ := hat9.resolve_left (by omega)
    exact ⟨b, off, rfl, hbb, hc k hk⟩)
  rw [hn] at ht1 hu
  rw [hn] at HAT
  (try rw [hn])
  obtain ⟨U, hU0⟩ : ∃ U : Nat, l.used = U := ⟨l.used.toNat, by omega⟩
  have hUt : l.used.toNat = U := by omega
  rw [hUt] at HSN
  have hU40 : U + n ≤ 40 := by omega
  have hnI : (n : Int) ≤ 40 := by omega
  have hnc : (n : Int) ≤ tc := by omega
  have htI : (tc : Int) ≤ 9223372036854775807 := by omega
  have hblk := heap_alloc_new w (.cells #[.slice x1 l.secs.length x2, .slice x3 l.pend.length x4, .int .i64 l.left, .int .i64 l.epoch, .int .i64 l.seq, .int .i64 l.used, .slice x5 l.dirty.length x6] 29)
  have hal := (Below.refl w.heap.size w).alloc (Nat.le_refl _) (.cells #[.slice x1 l.secs.length x2, .slice x3 l.pend.length x4, .int .i64 l.left, .int .i64 l.epoch, .int .i64 l.seq, .int .i64 l.used, .slice x5 l.dirty.length x6] 29)
  obtain ⟨B, hB⟩ : ∃ B, w.heap.size = B := ⟨_, rfl⟩
  rw [hB] at hblk
  have hSl : (l.secs.length : Int) ≤ 9223372036854775807 := by omega
  obtain ⟨N, hNN⟩ : ∃ N, l.secs.length = N := ⟨_, rfl⟩
  rw [hNN] at hblk hal HSE hs g1
  (try rw [hNN])
  have hsI : (53 : Int) ≤ N := by omega
  have hNx : (N : Int) ≤ x2 := by omega
  have hx2 : (x2 : Int) ≤ 9223372036854775807 := by omega
  obtain ⟨us, hus⟩ : ∃ us, l.used = us := ⟨_, rfl⟩
  rw [hus] at hblk hal hu hU0
  (try rw [hus])
  clear hus
  have HBK := Lib.hid hblk; have HAL := Lib.hid hal; have HBQ := Lib.hid hB; have HU0 := Lib.hid hU0
  clear h ht hat hn hsz hSS hb hUt hblk hal hB hNN hU0
  go_enter Tryz.func45, Tryz.ntmps45
  go_upto_region 1 with fail
  (try rw [HBQ.out])
  obtain ⟨W1, hU⟩ : ∃ W1, w.alloc (.cells #[.slice x1 N x2, .slice x3 l.pend.length x4, .int .i64 l.left, .int .i64 l.epoch, .int .i64 l.seq, .int .i64 us, .slice x5 l.dirty.length x6] 29) = W1 := ⟨_, rfl⟩
  have hz1 : W1.heap.size = B + 1 := by rw [← hU, World.size_alloc, HBQ.out]
  rw [hU] at HBK HAL ⊢
  have HZ1 := Lib.hid hz1
  clear hU hz1
  go_wp2_with fail
  go_loopw [5, 10] (fun vo z wr => ∃ (i : Nat), i ≤ n ∧ z = .int .i64 i ∧ Hid (wr.ownsRow (B + 1) 46 2 vo i (wcells ((imgW l ts).take i))) ∧ Hid (Below (B + 1) W1 wr)) (fun _ z _ => n - (intOf z).toNat)
  case atStart => exact ⟨0, Nat.zero_le _, rfl, Lib.hid (World.ownsRow_nil W1 (B + 1) _ 2), Lib.hid (by rw [← HZ1.out]; exact Below.refl _ _)⟩
  case round =>
    obtain ⟨i, hin, rfl, HO, HW⟩ := hrel
    have hWw := HAL.out.trans (HW.out.mono (by rw [HBQ.out]; omega))
    have hz2 : B + 1 ≤ wr.heap.size := by have := HW.out.size; rw [HZ1.out] at this; exact this
    by_cases hlt : i < n
    · have hiI : (i : Int) < n := by omega
      obtain ⟨tb, tof, rfl, htb, p0⟩ := HAT.out wr hWw i hlt
      obtain ⟨sb, so, rfl, hsb, q0⟩ := HSE.out wr hWw (13 + U + i) (by omega)
      have hsn := HSN.out i hlt
      obtain ⟨T, hT⟩ : ∃ T, ts.getD i 0 = T := ⟨_, rfl⟩
      obtain ⟨S, hS⟩ : ∃ S, l.secs.getD (13 + U + i) ⟨#[]⟩ = S := ⟨_, rfl⟩
      rw [hT] at p0 hsn
      rw [hS] at q0 hsn
      have hbk := (HW.out.block _ (by omega)).trans HBK.out
      have b0 := below_cell (Below.refl _ wr) hbk 0 rfl
      have b5 := below_cell (Below.refl _ wr) hbk 5 rfl
      have hKN : ((13 + U + i : Nat) : Int) < N := by omega
      have hw1 : 13 + us + (i : Int) = ((13 + U + i : Nat) : Int) := by have := HU0.out; omega
      have hw2 : ((13 + U + i : Nat) : Int) ≤ 60 := by omega
      generalize 13 + U + i = K at *
      have HSN2 := Lib.hid hsn
      clear hsn hT hS hbk hsb htb hWw
      go_wp2_with (first | (at_builtin; go_must (refine wpList_pushE (m := 1) (news := [.int .i64 T, .string S]) _ _ 23 46 (Or.inl HO.out) HW.out (Nat.le_of_eq HZ1.out.symm) Tryz.underlying23 hNI hzI0 hzI1 hzI2 rfl (by decide) rfl rfl (by rfl) (by rfl) (by rfl) (by decide) (by simp [Value.oneCell']) ?c1 ?_)))
      case c1 => exact ⟨by omega, by omega⟩
      intro v6 w6 hown6 hb6 hg6
      rw [← HSN2.out] at hown6
      have HOW6 := Lib.hid hown6; have HB6 := Lib.hid hb6
      clear hown6 hb6 hg6 p0 q0 b0 b5
      go_wp2_with fail
      go_roundw
      case rel => exact ⟨i + 1, by omega, by go_num, HOW6, HB6⟩
      case measure => simp [intOf]; omega
    · obtain rfl : i = n := by omega
      have hnl : ¬ (i : Int) < i := by omega
      rw [show (imgW l ts).take i = imgW l ts from List.take_of_length_le (by rw [imgW_len, HN.out]; exact Nat.le_refl _)] at HO
      have HWW := Lib.hid hWw
      clear hWw
      go_wp2_with fail
      go_ret
      exact ⟨_, rfl, own_wrts HO.out HALL.out, HWW.out⟩
end Go.Proofs.YthnmnnlbglpjaaaGreatDoor
