/- word.Walk. -/
import Derived.Test.YtcejhfpdajbdcaaOp
import Derived.Outline
namespace Go.Proofs.Ytcejhfpdajbdcaa
open Go.RowKit
set_option linter.unusedVariables false

def wrongF : Fin4 := ⟨0, 0, false, true⟩
def isJump (k : Int) : Bool := decide (k = 3) || decide (k = 4) || decide (k = 5) || decide (k = 7)
/-- where steps end that go on at a place with a number -/
def walkW (l : List Stp) (s : ByteArray) (p a : Nat) : Fin4 :=
  if h : p < l.length then
    if (l.getD p stpZ).kind = 1 then (if wordOk (l.getD p stpZ).k then walkW l s (p + 1) (getL (cutL s (l.getD p stpZ).k 4)) else wrongF)
    else if (l.getD p stpZ).kind = 2 then walkW l s (p + 1) (a &&& (l.getD p stpZ).k)
    else if (l.getD p stpZ).kind = 6 then walkW l s (p + 1) a
    else if (l.getD p stpZ).kind = 8 then ⟨0, (l.getD p stpZ).k, true, false⟩
    else if isJump (l.getD p stpZ).kind then
      match hj : beh l p ((l.getD p stpZ).goal a) with
      | none => ⟨(l.getD p stpZ).goal a, 0, false, false⟩
      | some j => walkW l s (j + 1) a
    else wrongF
  else ⟨-1, 0, false, false⟩
termination_by l.length - p
decreasing_by
  · omega
  · omega
  · omega
  · have := beh_bound _ _ _ _ hj; omega
def walkR (l : List Stp) (s : ByteArray) : Fin4 := if s.size = 64 then walkW l s 0 0 else wrongF
theorem walkW_end (l : List Stp) (s : ByteArray) (p a : Nat) (h : ¬ p < l.length) : walkW l s p a = ⟨-1, 0, false, false⟩ := by rw [walkW, dif_neg h]
theorem walkW_jump (l : List Stp) (s : ByteArray) (p a : Nat) (h : p < l.length) (o : Stp) (ho : o = l.getD p stpZ) (hk : isJump o.kind = true) :
    walkW l s p a = match beh l p (o.goal a) with | none => ⟨o.goal a, 0, false, false⟩ | some j => walkW l s (j + 1) a := by
  subst ho
  have hk' : (l.getD p stpZ).kind = 3 ∨ (l.getD p stpZ).kind = 4 ∨ (l.getD p stpZ).kind = 5 ∨ (l.getD p stpZ).kind = 7 := by
    simpa [isJump, or_assoc] using hk
  rw [walkW, dif_pos h, if_neg (by omega), if_neg (by omega), if_neg (by omega), if_neg (by omega), if_pos hk]
  split <;> rename_i hj <;> rw [hj]
theorem below4 {B g : Nat} {a u : World} (h : Below B a u) (hg : B ≤ g) (v0 v1 v2 v3 : Value) :
    Below B a ((((u.setCell ⟨g, 0, none⟩ v0).setCell ⟨g, 1, none⟩ v1).setCell ⟨g, 2, none⟩ v2).setCell ⟨g, 3, none⟩ v3) :=
  (((h.setCell (p := ⟨g, 0, none⟩) hg _).setCell (p := ⟨g, 1, none⟩) hg _).setCell (p := ⟨g, 2, none⟩) hg _).setCell (p := ⟨g, 3, none⟩) hg _
theorem block4 {g : Nat} {u : World} {T : TypeId} {x0 x1 x2 x3 : Value} (h : u.heap[g]? = some (.cells #[x0, x1, x2, x3] T (0, 0))) (v0 v1 v2 v3 : Value) :
    ((((u.setCell ⟨g, 0, none⟩ v0).setCell ⟨g, 1, none⟩ v1).setCell ⟨g, 2, none⟩ v2).setCell ⟨g, 3, none⟩ v3).heap[g]? = some (.cells #[v0, v1, v2, v3] T (0, 0)) :=
  block_set (block_set (block_set (block_set h 0 _) 1 _) 2 _) 3 _
theorem and_u32 (a b : Nat) (ha : a ≤ 4294967295) (hb : b ≤ 4294967295) : a &&& b ≤ 4294967295 := by
  have := Nat.and_le_left (n := a) (m := b)
  omega

set_option maxRecDepth 100000 in
set_option maxHeartbeats 2000000 in
theorem wordWalk_64 (v : Value) (l : List Stp) (s : ByteArray) (w : World) (h : IsOps w v l) (hs : s.size = 64) :
    Calls Try.prog 18 #[v, .string s] w fun e w' => e = .returned (walkW l s 0 0).value ∧ Below w.heap.size w w' := by
  have hbnd := h.bnd
  have HBE := Lib.hid (fun p label u hu hp => wordBehind_any v l p label u hu hp)
  have HH := Lib.hid h
  obtain ⟨a, len, cap, rfl, hlen, hc1, hc2, _, hn, hat⟩ := h
  have hlI : (len : Int) ≤ 9223372036854775807 := by omega
  have hsz : ((s.size : Int) != 64) = false := by rw [bne_eq_false_iff_eq]; omega
  have HAT := Lib.hid hat; have HL := Lib.hid hlen; have HBD := Lib.hid hbnd; have HSZ := Lib.hid hs
  obtain ⟨R, eR⟩ : ∃ R, walkW l s 0 0 = R := ⟨_, rfl⟩
  rw [eR]
  have HR := Lib.hid eR
  clear hat hlen hbnd hs eR hn
  go_enter Try.func18, Try.ntmps18
  go_wp2_with fail
  generalize hW : w.alloc (.cells #[.int .i64 0, .int .u32 0, .bool false, .bool false] 48) = W
  have hblk : W.heap[w.heap.size]? = some (.cells #[.int .i64 0, .int .u32 0, .bool false, .bool false] 48 (0, 0)) := by rw [← hW]; exact heap_alloc_new w _
  have hbel : Below w.heap.size w W := by rw [← hW]; exact (Below.refl _ _).alloc (Nat.le_refl _) _
  have hws : w.heap.size < W.heap.size := lt_of_block hblk
  clear hW
  have HB := Lib.hid hblk
  clear hblk
  go_loopw [5, 6] (fun x c wr => ∃ p a : Nat, p ≤ len ∧ a ≤ 4294967295 ∧ c = .int .i64 (p : Nat) ∧ x = .int .u32 (a : Nat) ∧ walkW l s p a = R ∧ Below W.heap.size W wr) (fun _ c _ => len - (intOf c).toNat)
  case atStart => exact ⟨0, 0, by omega, by omega, rfl, rfl, HR.out, Below.refl _ _⟩
  case round =>
    obtain ⟨p, x, hp, hx, rfl, rfl, hwk, hwr⟩ := hrel
    have HWK := Lib.hid hwk
    have hxI : (x : Int) ≤ 4294967295 := by omega
    clear hwk
    have hbl := (hwr.block _ hws).trans HB.out
    have HBL := Lib.hid hbl
    clear hbl
    by_cases hlt : p < len
    · obtain ⟨b, off, rfl, hb, hat⟩ := HAT.out.resolve_left (by omega)
      have hpl : p < l.length := by have := HL.out; omega
      obtain ⟨c0, c1, c2, c3⟩ := (hat p hlt).below (hbel.trans (hwr.mono hbel.size)) hb
      obtain ⟨o, eo⟩ : ∃ o, o = l.getD p stpZ := ⟨_, rfl⟩
      have hob : o.bounded := by
        rw [eo, show l.getD p stpZ = l[p] from by simp [List.getD, hpl]]
        exact HBD.out _ (List.getElem_mem hpl)
      rw [← eo] at c0 c1 c2 c3
      have HO := Lib.hid eo; have HOB := Lib.hid hob
      have hpI : (p : Int) < len := by omega
      clear hat eo hob
      obtain ⟨kind, k, t, f⟩ := o
      have hkb : (k : Int) ≤ 4294967295 := by have := HOB.out.2.1; dsimp only at this; omega
      dsimp only at c0 c1 c2 c3
      have q0 := fun ob => below_cell (v := .int .i64 0) ((Below.refl wr.heap.size wr).alloc (Nat.le_refl _) ob) HBL.out 0 rfl
      have q1 := fun ob => below_cell (v := .int .u32 0) ((Below.refl wr.heap.size wr).alloc (Nat.le_refl _) ob) HBL.out 1 rfl
      have q2 := fun ob => below_cell (v := .bool false) ((Below.refl wr.heap.size wr).alloc (Nat.le_refl _) ob) HBL.out 2 rfl
      have q3 := fun ob => below_cell (v := .bool false) ((Below.refl wr.heap.size wr).alloc (Nat.le_refl _) ob) HBL.out 3 rfl
      have hal := fun ob => (heap_alloc_old wr ob (lt_of_block HBL.out)).trans HBL.out
      have f0 := fun ob => block_frozen (hal ob) 0
      have f1 := fun ob => block_frozen (hal ob) 1
      have f2 := fun ob => block_frozen (hal ob) 2
      have f3 := fun ob => block_frozen (hal ob) 3
      have HAL := Lib.hid hal
      clear hal
      have hwa := hwr.alloc hwr.size (.cells #[.int .i64 kind, .int .u32 k, .int .i64 t, .int .i64 f] 67)
      by_cases h1 : kind = 1
      · subst h1
        have hst : walkW l s p x = if wordOk k then walkW l s (p + 1) (getL (cutL s k 4)) else wrongF := by
          rw [walkW, dif_pos hpl, ← HO.out, if_pos rfl]
        rw [HWK.out] at hst
        have hww := fun u => vmWord_any s k u HSZ.out (by omega)
        unfold wordV4 at hww
        cases hok : wordOk k
        · rw [hok] at hst hww
          have HST := Lib.hid hst; have HWW := Lib.hid hww
          clear hst hww hok
          go_wp2_with fail
          refine (HWW.out _).mono ?_
          rintro e w' ⟨rfl, rfl⟩
          go_wp2_with fail
          refine bodyPost_ret (v := .agg #[.int .i64 0, .int .u32 0, .bool false, .bool true]) (results_cell_row rfl _ _ w.heap.size 48 #[.int .i64 0, .int .u32 0, .bool false, .bool true] (0, 0) _ rfl (block4 (HAL.out _) _ _ _ _) Try.underlying48 rfl (by kernel_rfl)) rfl ⟨?_, below4 (hbel.trans (hwa.mono hbel.size)) (Nat.le_refl _) _ _ _ _⟩
          rw [HST.out]; rfl
        · rw [hok] at hst hww
          simp only [if_true] at hst hww
          have hy := wordL_le s k (by have := (wordOk_iff k).1 hok; have := HSZ.out; omega)
          have HST := Lib.hid hst; have HWW := Lib.hid hww
          clear hst hww hok
          generalize getL (cutL s k 4) = y at *
          go_wp2_with fail
          refine (HWW.out _).mono ?_
          rintro e w' ⟨rfl, rfl⟩
          go_wp2_with fail
          go_roundw
          case rel => exact ⟨p + 1, y, by omega, hy, by go_num, rfl, HST.out.symm, hwa⟩
          case measure => simp [intOf]; omega
      · by_cases h2 : kind = 2
        · subst h2
          have hst : walkW l s p x = walkW l s (p + 1) (x &&& k) := by
            rw [walkW, dif_pos hpl, ← HO.out, if_neg (by dsimp only; omega), if_pos rfl]
          rw [HWK.out] at hst
          have hand := u32_and_nat x k (by omega) (by omega)
          have hle := and_u32 x k (by omega) (by omega)
          have HST := Lib.hid hst
          clear hst h1
          generalize x &&& k = y at *
          go_wp2_with fail
          go_roundw
          case rel => exact ⟨p + 1, y, by omega, hle, by go_num, by first | rfl | rw [hand], HST.out.symm, hwa⟩
          case measure => simp [intOf]; omega
        · by_cases h6 : kind = 6
          · subst h6
            have hst : walkW l s p x = walkW l s (p + 1) x := by
              rw [walkW, dif_pos hpl, ← HO.out, if_neg (by dsimp only; omega), if_neg (by dsimp only; omega), if_pos rfl]
            rw [HWK.out] at hst
            have HST := Lib.hid hst
            clear hst h1 h2
            go_wp2_with fail
            go_roundw
            case rel => exact ⟨p + 1, x, by omega, hx, by go_num, rfl, HST.out.symm, hwa⟩
            case measure => simp [intOf]; omega
          · by_cases h8 : kind = 8
            · subst h8
              have hst : walkW l s p x = ⟨0, k, true, false⟩ := by
                rw [walkW, dif_pos hpl, ← HO.out, if_neg (by dsimp only; omega), if_neg (by dsimp only; omega), if_neg (by dsimp only; omega), if_pos rfl]
              rw [HWK.out] at hst
              have HST := Lib.hid hst
              clear hst h1 h2 h6
              go_wp2_with fail
              refine bodyPost_ret (v := .agg #[.int .i64 0, .int .u32 (k : Nat), .bool true, .bool false]) (results_cell_row rfl _ _ w.heap.size 48 #[.int .i64 0, .int .u32 (k : Nat), .bool true, .bool false] (0, 0) _ rfl (block4 (HAL.out _) _ _ _ _) Try.underlying48 rfl (by kernel_rfl)) rfl ⟨?_, below4 (hbel.trans (hwa.mono hbel.size)) (Nat.le_refl _) _ _ _ _⟩
              rw [HST.out]; rfl
            · by_cases hj : isJump kind = true
              · have hst := walkW_jump l s p x hpl _ HO.out hj
                rw [HWK.out] at hst
                have hGo := fun u => wordGoal_any ⟨kind, k, t, f⟩ x u HOB.out (by omega)
                have HGO := Lib.hid hGo
                clear hGo
                have hk4 : kind = 3 ∨ kind = 4 ∨ kind = 5 ∨ kind = 7 := by simpa [isJump, or_assoc] using hj
                generalize Stp.goal ⟨kind, k, t, f⟩ x = g at *
                have hbb := beh_bound l p g
                have HBB := Lib.hid hbb
                have hBe := fun u hu => HBE.out p g u hu hpl
                generalize beh l p g = r at *
                have HST := Lib.hid hst; have HBV := Lib.hid hBe
                clear hst hbb hBe h1 h2 h6 h8 hj HBE
                have hgoI : ∀ u, Calls Try.prog 38 #[.agg #[.int .i64 kind, .int .u32 k, .int .i64 t, .int .i64 f], .int .u32 x] u fun e w' => e = .returned (.int .i64 g) ∧ Below u.heap.size u w' := HGO.out
                have HGI := Lib.hid hgoI
                clear hgoI HGO
                cases r with
                | none =>
                  unfold behV at HBV
                  rcases hk4 with rfl | rfl | rfl | rfl
                  all_goals
                    go_wp2_with fail
                    refine (HGI.out _).mono ?_
                    rintro e w2 ⟨rfl, hb2⟩
                    have hw2 := hwa.trans (hb2.mono hwa.size)
                    have hbl2 := (hw2.block _ hws).trans HB.out
                    have q0 := by have := cell_of_row _ _ 0 _ _ _ hbl2; exact this
                    have q1 := by have := cell_of_row _ _ 1 _ _ _ hbl2; exact this
                    have q2 := by have := cell_of_row _ _ 2 _ _ _ hbl2; exact this
                    have q3 := by have := cell_of_row _ _ 3 _ _ _ hbl2; exact this
                    have f0 := block_frozen hbl2 0
                    have f1 := block_frozen hbl2 1
                    have f2 := block_frozen hbl2 2
                    have f3 := block_frozen hbl2 3
                    have HBL2 := Lib.hid hbl2
                    clear hbl2 hb2
                    go_wp2_with fail
                    refine (HBV.out _ (HH.out.below (hbel.trans (hw2.mono hbel.size)))).mono ?_
                    rintro e w' ⟨rfl, rfl⟩
                    go_wp2_with fail
                    refine bodyPost_ret (v := .agg #[.int .i64 g, .int .u32 0, .bool false, .bool false]) (results_cell_row rfl _ _ w.heap.size 48 #[.int .i64 g, .int .u32 0, .bool false, .bool false] (0, 0) _ rfl (block4 (HBL2.out) _ _ _ _) Try.underlying48 rfl (by kernel_rfl)) rfl ⟨?_, below4 (hbel.trans (hw2.mono hbel.size)) (Nat.le_refl _) _ _ _ _⟩
                    rw [HST.out]; rfl
                | some j =>
                  unfold behV at HBV
                  simp only [Option.getD_some, Option.isSome_some] at HBV
                  have hj1 := HBB.out j rfl
                  have hj2 : j < len := by have := HL.out; omega
                  have hjI : (j : Int) < len := by omega
                  have hj3 := hj1.1
                  clear hj1
                  rcases hk4 with rfl | rfl | rfl | rfl
                  all_goals
                    go_wp2_with fail
                    refine (HGI.out _).mono ?_
                    rintro e w2 ⟨rfl, hb2⟩
                    have hw2 := hwa.trans (hb2.mono hwa.size)
                    clear hb2
                    go_wp2_with fail
                    refine (HBV.out _ (HH.out.below (hbel.trans (hw2.mono hbel.size)))).mono ?_
                    rintro e w' ⟨rfl, rfl⟩
                    go_wp2_with fail
                    go_roundw
                    case rel => exact ⟨j + 1, x, by omega, hx, by go_num, rfl, HST.out.symm, hw2⟩
                    case measure => simp [intOf]; omega
              · have hst : walkW l s p x = wrongF := by
                  rw [walkW, dif_pos hpl, ← HO.out, if_neg h1, if_neg h2, if_neg h6, if_neg h8, if_neg hj]
                rw [HWK.out] at hst
                have hk4 : ¬ (kind = 3 ∨ kind = 4 ∨ kind = 5 ∨ kind = 7) := fun h => hj (by simpa [isJump, or_assoc] using h)
                have b1 : (kind == 1) = false := by rw [beq_eq_false_iff_ne]; exact h1
                have b2 : (kind == 2) = false := by rw [beq_eq_false_iff_ne]; exact h2
                have b3 : (kind == 3) = false := by rw [beq_eq_false_iff_ne]; omega
                have b4 : (kind == 4) = false := by rw [beq_eq_false_iff_ne]; omega
                have b5 : (kind == 5) = false := by rw [beq_eq_false_iff_ne]; omega
                have b6 : (kind == 6) = false := by rw [beq_eq_false_iff_ne]; exact h6
                have b7 : (kind == 7) = false := by rw [beq_eq_false_iff_ne]; omega
                have b8 : (kind == 8) = false := by rw [beq_eq_false_iff_ne]; exact h8
                have HST := Lib.hid hst
                clear hst h1 h2 h6 h8 hj hk4
                go_wp2_with fail
                refine bodyPost_ret (v := .agg #[.int .i64 0, .int .u32 0, .bool false, .bool true]) (results_cell_row rfl _ _ w.heap.size 48 #[.int .i64 0, .int .u32 0, .bool false, .bool true] (0, 0) _ rfl (block4 (HAL.out _) _ _ _ _) Try.underlying48 rfl (by kernel_rfl)) rfl ⟨?_, below4 (hbel.trans (hwa.mono hbel.size)) (Nat.le_refl _) _ _ _ _⟩
                rw [HST.out]; rfl
    · obtain rfl : p = len := by omega
      have hst : walkW l s p x = ⟨-1, 0, false, false⟩ := walkW_end _ _ _ _ (by have := HL.out; omega)
      rw [HWK.out] at hst
      have HST := Lib.hid hst
      have q0 := by have := cell_of_row _ _ 0 _ _ _ HBL.out; exact this
      have q1 := by have := cell_of_row _ _ 1 _ _ _ HBL.out; exact this
      have q2 := by have := cell_of_row _ _ 2 _ _ _ HBL.out; exact this
      have q3 := by have := cell_of_row _ _ 3 _ _ _ HBL.out; exact this
      have f0 := block_frozen HBL.out 0
      have f1 := block_frozen HBL.out 1
      have f2 := block_frozen HBL.out 2
      have f3 := block_frozen HBL.out 3
      clear hst
      go_wp2_with fail
      refine bodyPost_ret (v := .agg #[.int .i64 (-1), .int .u32 0, .bool false, .bool false]) (results_cell_row rfl _ _ w.heap.size 48 #[.int .i64 (-1), .int .u32 0, .bool false, .bool false] (0, 0) _ rfl (block4 (HBL.out) _ _ _ _) Try.underlying48 rfl (by kernel_rfl)) rfl ⟨?_, below4 (hbel.trans (hwr.mono hbel.size)) (Nat.le_refl _) _ _ _ _⟩
      rw [HST.out]; rfl

theorem wordWalk_any (v : Value) (l : List Stp) (s : ByteArray) (w : World) (h : IsOps w v l) :
    Calls Try.prog 18 #[v, .string s] w fun e w' => e = .returned (walkR l s).value ∧ Below w.heap.size w w' := by
  by_cases hs : s.size = 64
  · have e1 : walkR l s = walkW l s 0 0 := by unfold walkR; rw [if_pos hs]
    rw [e1]
    exact wordWalk_64 v l s w h hs
  · have e1 : walkR l s = wrongF := by unfold walkR; rw [if_neg hs]
    rw [e1]
    obtain ⟨a, len, cap, rfl, _⟩ := h
    have hsz : ((s.size : Int) != 64) = true := by rw [bne_iff_ne]; omega
    clear hs e1
    go_enter Try.func18, Try.ntmps18
    go_wp2_with fail
    exact bodyPost_ret (v := wrongF.value) (results_cell_row rfl _ _ w.heap.size 48 #[.int .i64 0, .int .u32 0, .bool false, .bool true] (0, 0) _ rfl (heap_alloc_new w _) Try.underlying48 rfl (by kernel_rfl)) rfl ⟨rfl, (Below.refl _ _).alloc (Nat.le_refl _) _⟩
end Go.Proofs.Ytcejhfpdajbdcaa
