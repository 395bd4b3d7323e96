/- entry.Right and what it calls. -/
import Derived.Test.YtfpfcjgdihlieaaEnt
import Derived.WalkLawsBesides
namespace Go.Proofs.Ytfpfcjgdihlieaa
open Go.RowKit
set_option linter.unusedVariables false

theorem secFits (n : Int) (w : World) : Calls Try.prog 50 #[.int .i64 n] w fun e w' => e = .returned (.bool (secOk n)) ∧ w = w' := by
  have h : secOk n = decide (54 ≤ n ∧ n ≤ 255) := rfl
  have H := Lib.hid h
  clear h
  by_cases h1 : 54 ≤ n
  · by_cases h2 : n ≤ 255
    · have h3 : n < 256 := by omega
      rw [decide_eq_true ⟨h1, h2⟩] at H
      go_enter Try.func50, Try.ntmps50
      go_wp2_with fail
      go_ret
      exact ⟨by rw [H.out]; rfl, rfl⟩
    · have h3 : ¬ n < 256 := by omega
      rw [decide_eq_false (by omega)] at H
      go_enter Try.func50, Try.ntmps50
      go_wp2_with fail
      go_ret
      exact ⟨by rw [H.out]; rfl, rfl⟩
  · rw [decide_eq_false (by omega)] at H
    go_enter Try.func50, Try.ntmps50
    go_wp2_with fail
    go_ret
    exact ⟨by rw [H.out]; rfl, rfl⟩
theorem secFits_is (n : Int) (r : Bool) (h : secOk n = r) (w : World) : Calls Try.prog 50 #[.int .i64 n] w fun e w' => e = .returned (.bool r) ∧ w = w' := h ▸ secFits n w
theorem ver_ways (v : Vr) : (verOk v = false ∧ ¬ 1 ≤ v.no) ∨ (1 ≤ v.no ∧ verOk v = false ∧ ¬ v.no ≤ 65534) ∨ (1 ≤ v.no ∧ v.no ≤ 65534 ∧ verOk v = false ∧ secOk v.src = false) ∨
    (1 ≤ v.no ∧ v.no ≤ 65534 ∧ secOk v.src = true ∧ verOk v = false ∧ secOk v.flt = false) ∨ (1 ≤ v.no ∧ v.no ≤ 65534 ∧ secOk v.src = true ∧ secOk v.flt = true ∧ verOk v = false ∧ (v.src != v.flt) = false) ∨
    (1 ≤ v.no ∧ v.no ≤ 65534 ∧ secOk v.src = true ∧ secOk v.flt = true ∧ (v.src != v.flt) = true ∧ verOk v = false ∧ ¬ 0 ≤ v.byt) ∨
    (1 ≤ v.no ∧ v.no ≤ 65534 ∧ secOk v.src = true ∧ secOk v.flt = true ∧ (v.src != v.flt) = true ∧ 0 ≤ v.byt ∧ verOk v = false ∧ ¬ v.byt ≤ 2000) ∨
    (1 ≤ v.no ∧ v.no ≤ 65534 ∧ secOk v.src = true ∧ secOk v.flt = true ∧ (v.src != v.flt) = true ∧ 0 ≤ v.byt ∧ v.byt ≤ 2000 ∧ verOk v = false ∧ ¬ 1 ≤ v.ins) ∨
    (1 ≤ v.no ∧ v.no ≤ 65534 ∧ secOk v.src = true ∧ secOk v.flt = true ∧ (v.src != v.flt) = true ∧ 0 ≤ v.byt ∧ v.byt ≤ 2000 ∧ 1 ≤ v.ins ∧ verOk v = false ∧ ¬ v.ins ≤ 4096) ∨
    (1 ≤ v.no ∧ v.no ≤ 65534 ∧ secOk v.src = true ∧ secOk v.flt = true ∧ (v.src != v.flt) = true ∧ 0 ≤ v.byt ∧ v.byt ≤ 2000 ∧ 1 ≤ v.ins ∧ v.ins ≤ 4096 ∧ verOk v = true) := by
  unfold verOk
  by_cases h1 : 1 ≤ v.no
  case neg => simp [h1]
  by_cases h2 : v.no ≤ 65534
  case neg => simp [h1, h2]
  by_cases h3 : secOk v.src = true
  case neg => simp [h1, h2, h3]
  by_cases h4 : secOk v.flt = true
  case neg => simp [h1, h2, h3, h4]
  by_cases h5 : v.src = v.flt
  case pos => simp [h1, h2, h4, h5]
  by_cases h6 : 0 ≤ v.byt
  case neg => simp [h1, h2, h3, h4, h5, h6]
  by_cases h7 : v.byt ≤ 2000
  case neg => simp [h1, h2, h3, h4, h5, h6, h7]
  by_cases h8 : 1 ≤ v.ins
  case neg => simp [h1, h2, h3, h4, h5, h6, h7, h8]
  by_cases h9 : v.ins ≤ 4096 <;> simp [h1, h2, h3, h4, h5, h6, h7, h8, h9]
set_option maxRecDepth 100000 in
set_option maxHeartbeats 1000000 in
theorem verFits (v : Vr) (w : World) : Calls Try.prog 42 #[v.val] w fun e w' => e = .returned (.bool (verOk v)) ∧ Below w.heap.size w w' := by
  have hw := ver_ways v
  unfold Vr.val
  generalize verOk v = r at *
  obtain ⟨no, src, flt, byt, ins⟩ := v
  simp only at hw ⊢
  rcases hw with ⟨hr, g1⟩ | ⟨g1, hr, g2⟩ | ⟨g1, g2, hr, hs⟩ | ⟨g1, g2, hs, hr, hf⟩ | ⟨g1, g2, hs, hf, hr, g5⟩ | ⟨g1, g2, hs, hf, g5, hr, g6⟩ | ⟨g1, g2, hs, hf, g5, g6, hr, g7⟩ | ⟨g1, g2, hs, hf, g5, g6, g7, hr, g8⟩ | ⟨g1, g2, hs, hf, g5, g6, g7, g8, hr, g9⟩ | ⟨g1, g2, hs, hf, g5, g6, g7, g8, g9, hr⟩
  all_goals
    subst hr
    (try have HA := Lib.hid hs)
    (try have HB := Lib.hid hf)
    (try clear hs)
    (try clear hf)
    go_enter Try.func42, Try.ntmps42
    go_wp2_with (first | (go_at_call 50; (first | (with_reducible refine (secFits_is src _ HA.out _).mono ?_) | (with_reducible refine (secFits_is flt _ HB.out _).mono ?_)); rintro e w' ⟨rfl, rfl⟩))
    go_ret
    refine ⟨?_, (Below.refl _ _).alloc (Nat.le_refl _) _⟩
    first | rfl | (show Ending.returned (.bool (decide (ins ≤ 4096))) = _; rw [decide_eq_false (by omega)])
theorem verFits_is (no src flt byt ins : Int) (r : Bool) (h : verOk ⟨no, src, flt, byt, ins⟩ = r) (w : World) : Calls Try.prog 42 #[.agg #[.int .i64 no, .int .i64 src, .int .i64 flt, .int .i64 byt, .int .i64 ins]] w fun e w' => e = .returned (.bool r) ∧ Below w.heap.size w w' := h ▸ verFits ⟨no, src, flt, byt, ins⟩ w
theorem ver_drop (cur nxt : Int) (l : List Vr) (i : Nat) (hi : i < l.length) (last : Int) (c : Bool) :
    verLoop cur nxt last c (l.drop i) = (verOk (l.getD i vrZ) && decide (last < (l.getD i vrZ).no) && verLoop cur nxt (l.getD i vrZ).no (c || decide ((l.getD i vrZ).no = cur)) (l.drop (i + 1))) := by
  rw [List.drop_eq_getElem_cons hi, verLoop, show l.getD i vrZ = l[i] from by simp [List.getD, hi]]
theorem getD_mem {α : Type} (l : List α) (i : Nat) (z : α) (hi : i < l.length) : l.getD i z ∈ l := by
  rw [show l.getD i z = l[i] from by simp [List.getD, hi]]; exact List.getElem_mem hi
set_option maxRecDepth 100000 in
set_option maxHeartbeats 1000000 in
theorem entFits (e : En) (v : Value) (w : World) (h : IsEn w v e) : Calls Try.prog 28 #[v] w fun e' w' => e' = .returned (.bool (entOk e)) ∧ Below w.heap.size w w' := by
  obtain ⟨⟨hb0, hb1, hb2⟩, k, rfl, a, n, cap, rfl, hl, hc1, hc2, hbd, hnil, hat⟩ := h
  obtain ⟨name, cur, nxt, vers⟩ := e
  simp only at hb0 hb1 hb2 hl hbd hat ⊢
  unfold i64ok at hb1 hb2
  have hE : entOk ⟨name, cur, nxt, vers⟩ = (decide (1 ≤ name.size ∧ name.size ≤ 12 ∧ 1 ≤ vers.length ∧ vers.length ≤ 6) && verLoop cur nxt 0 false vers) := rfl
  generalize entOk ⟨name, cur, nxt, vers⟩ = r at *
  rw [hl] at hE
  have hB := heap_alloc_new w (.cells #[.string name, .int .i64 cur, .int .i64 nxt, .slice a n cap] 36)
  have hw := (Below.refl w.heap.size w).alloc (Nat.le_refl _) (.cells #[.string name, .int .i64 cur, .int .i64 nxt, .slice a n cap] 36)
  by_cases hz : 1 ≤ name.size ∧ name.size ≤ 12 ∧ 1 ≤ n ∧ n ≤ 6
  case neg =>
    rw [decide_eq_false hz, Bool.false_and] at hE
    subst hE
    have hz' : ((name.size : Int) < 1) ∨ (¬ ((name.size : Int) < 1) ∧ 12 < (name.size : Int)) ∨ (¬ ((name.size : Int) < 1) ∧ ¬ 12 < (name.size : Int) ∧ (n : Int) < 1) ∨ (¬ ((name.size : Int) < 1) ∧ ¬ 12 < (name.size : Int) ∧ ¬ (n : Int) < 1 ∧ 6 < (n : Int)) := by omega
    clear hz hat hbd hl hB
    rcases hz' with z1 | ⟨z1, z2⟩ | ⟨z1, z2, z3⟩ | ⟨z1, z2, z3, z4⟩
    all_goals
      go_enter Try.func28, Try.ntmps28
      go_wp2_with fail
      go_ret
      exact ⟨rfl, hw⟩
  obtain ⟨z1, z2, z3, z4⟩ := hz
  rw [decide_eq_true ⟨z1, z2, z3, z4⟩, Bool.true_and] at hE
  obtain ⟨b, off, rfl, hblt, hat⟩ := hat.resolve_left (by omega)
  have y1 : ¬ ((name.size : Int) < 1) := by omega
  have y2 : ¬ 12 < (name.size : Int) := by omega
  have y3 : ¬ (n : Int) < 1 := by omega
  have y4 : ¬ 6 < (n : Int) := by omega
  have y5 : (n : Int) ≤ 6 := by omega
  have HE := Lib.hid hE; have HL := Lib.hid hl; have HAT := Lib.hid hat; have HBD := Lib.hid hbd; have HB := Lib.hid hB; have HW := Lib.hid hw
  clear hE hl hat hbd hB hw z1 z2 z3 z4
  go_enter Try.func28, Try.ntmps28
  go_upto_region 3 with fail
  obtain ⟨w1, hW⟩ : ∃ w1, w.alloc (.cells #[.string name, .int .i64 cur, .int .i64 nxt, .slice (some ⟨b, off, none⟩) n cap] 36) = w1 := ⟨_, rfl⟩
  rw [hW] at HB HW ⊢
  clear hW
  have c3 := below_cell (Below.refl _ w1) HB.out 3 rfl
  go_wp2_with fail
  clear c3
  go_loopw [3, 4, 32] (fun x y z wr => ∃ (i : Nat) (last : Int) (c : Bool), i ≤ n ∧ z = .int .i64 i ∧ x = .int .i64 last ∧ y = .bool c ∧ (-9223372036854775808 ≤ last ∧ last ≤ 9223372036854775807) ∧ Hid (r = verLoop cur nxt last c (vers.drop i)) ∧ Hid (wr.heap[w.heap.size]? = some (.cells #[.string name, .int .i64 cur, .int .i64 nxt, .slice (some ⟨b, off, none⟩) n cap] 36 (0, 0))) ∧ Hid (Below w.heap.size w wr)) (fun _ _ z _ => n - (intOf z).toNat)
  case atStart => exact ⟨0, 0, false, Nat.zero_le _, rfl, rfl, rfl, by omega, HE, HB, HW⟩
  case round =>
    clear HE HB HW
    obtain ⟨i, last, c, hin, rfl, rfl, rfl, hlast, HE, HB, HW⟩ := hrel
    by_cases hlt : i < n
    · have hltI : (i : Int) < n := by omega
      have hd := ver_drop cur nxt vers i (by rw [HL.out]; exact hlt) last c
      obtain ⟨v0, v1, v2, v3, v4⟩ := (HAT.out i hlt).below HW.out hblt
      obtain ⟨b0, b1, b2, b3, b4⟩ := HBD.out _ (getD_mem vers i vrZ (by rw [HL.out]; exact hlt))
      generalize vers.getD i vrZ = v at *
      obtain ⟨no, src, flt, byt, ins⟩ := v
      unfold i64ok at b0 b1 b2 b3 b4
      simp only at hd v0 v1 v2 v3 v4 b0 b1 b2 b3 b4
      generalize hr : verOk ⟨no, src, flt, byt, ins⟩ = ok at *
      have HR := Lib.hid hr; have HD := Lib.hid hd
      have hn := heap_alloc_new wr (.cells #[.int .i64 no, .int .i64 src, .int .i64 flt, .int .i64 byt, .int .i64 ins] 42)
      have ho := (heap_alloc_old wr (.cells #[.int .i64 no, .int .i64 src, .int .i64 flt, .int .i64 byt, .int .i64 ins] 42) (lt_of_block HB.out)).trans HB.out
      have hw := HW.out.alloc (HW.out.size) (.cells #[.int .i64 no, .int .i64 src, .int .i64 flt, .int .i64 byt, .int .i64 ins] 42)
      have HN := Lib.hid hn; have HO := Lib.hid ho; have HW2 := Lib.hid hw
      clear hr hd hn ho hw HB HW
      go_upto_region 7 with fail
      obtain ⟨w2, hW⟩ : ∃ w2, wr.alloc (.cells #[.int .i64 no, .int .i64 src, .int .i64 flt, .int .i64 byt, .int .i64 ins] 42) = w2 := ⟨_, rfl⟩
      obtain ⟨V, hV⟩ : ∃ V, wr.heap.size = V := ⟨_, rfl⟩
      rw [hW] at HN HO HW2 ⊢
      rw [hV] at HN
      (try rw [hV])
      clear hW hV v0 v1 v2 v3 v4
      have q0 := below_cell (Below.refl _ w2) HN.out 0 rfl
      have q1 := below_cell (Below.refl _ w2) HN.out 1 rfl
      have q2 := below_cell (Below.refl _ w2) HN.out 2 rfl
      have q3 := below_cell (Below.refl _ w2) HN.out 3 rfl
      have q4 := below_cell (Below.refl _ w2) HN.out 4 rfl
      go_wp2_with fail
      refine (verFits_is no src flt byt ins ok HR.out _).mono ?_
      rintro e' w3 ⟨rfl, hb3⟩
      have hn3 := (hb3.block _ (lt_of_block HN.out)).trans HN.out
      have ho3 := (hb3.block _ (lt_of_block HO.out)).trans HO.out
      have hw3 := HW2.out.trans (hb3.mono HW2.out.size)
      clear q0 q1 q2 q3 q4 hb3 HN HO HW2
      have q0 := below_cell (Below.refl _ w3) hn3 0 rfl
      have p1 := below_cell (Below.refl _ w3) ho3 1 rfl
      have HN := Lib.hid hn3; have HO := Lib.hid ho3; have HW := Lib.hid hw3
      clear hn3 ho3 hw3
      cases ok with
      | false =>
        have hf : r = false := by rw [HE.out, HD.out]; rfl
        subst hf
        go_wp2_with fail
        go_ret
        exact ⟨rfl, HW.out⟩
      | true =>
        by_cases hle : no ≤ last
        · have hf : r = false := by rw [HE.out, HD.out, decide_eq_false (by omega)]; rfl
          subst hf
          go_wp2_with fail
          go_ret
          exact ⟨rfl, HW.out⟩
        · have hf : r = verLoop cur nxt no (c || decide (no = cur)) (vers.drop (i + 1)) := by rw [HE.out, HD.out, decide_eq_true (by omega)]; rfl
          have HF := Lib.hid hf
          clear hf
          cases c with
          | true =>
            go_wp2_with fail
            go_roundw
            case rel => exact ⟨i + 1, no, true, by omega, by go_num, rfl, rfl, b0, HF, HO, HW⟩
            case measure => simp [intOf]; omega
          | false =>
            by_cases hcur : no = cur
            · have hq : (no == cur) = true := by simpa using hcur
              rw [decide_eq_true hcur] at HF
              have HC := Lib.hid hcur
              clear hcur
              go_wp2_with fail
              go_roundw
              case rel => exact ⟨i + 1, no, true, by omega, by go_num, rfl, rfl, b0, HF, HO, HW⟩
              case measure => simp [intOf]; omega
            · have hq : (no == cur) = false := by simpa using hcur
              rw [decide_eq_false hcur] at HF
              clear hcur
              go_wp2_with fail
              go_roundw
              case rel => exact ⟨i + 1, no, false, by omega, by go_num, rfl, rfl, b0, HF, HO, HW⟩
              case measure => simp [intOf]; omega
    · have hin : i = n := by omega
      have hd : vers.drop i = [] := List.drop_eq_nil_of_le (by rw [HL.out]; omega)
      rw [hd] at HE
      have HF : Hid (r = (c && decide (last < nxt ∧ nxt ≤ 65535))) := Lib.hid HE.out
      have p2 := below_cell (Below.refl _ wr) HB.out 2 rfl
      have hnl : ¬ (i : Int) < n := by omega
      clear HE hd hin
      cases c with
      | false =>
        obtain rfl : r = false := HF.out
        clear HF
        go_wp2_with fail
        go_ret
        exact ⟨rfl, HW.out⟩
      | true =>
        by_cases g1 : last < nxt
        · by_cases g2 : nxt ≤ 65535
          · obtain rfl : r = true := by rw [HF.out, decide_eq_true ⟨g1, g2⟩]; rfl
            clear HF
            go_wp2_with fail
            go_ret
            exact ⟨rfl, HW.out⟩
          · obtain rfl : r = false := by rw [HF.out, decide_eq_false (by omega)]; rfl
            clear HF
            go_wp2_with fail
            go_ret
            refine ⟨?_, HW.out⟩
            first | rfl | (show Ending.returned (.bool (decide (nxt ≤ 65535))) = _; rw [decide_eq_false (by omega)])
        · obtain rfl : r = false := by rw [HF.out, decide_eq_false (by omega)]; rfl
          clear HF
          go_wp2_with fail
          go_ret
          exact ⟨rfl, HW.out⟩
end Go.Proofs.Ytfpfcjgdihlieaa
