/- frame.read, where an answer is read. -/
import Derived.Test.YtmanlogclbbgaaaFr8
import Derived.Test.YtmanlogclbbgaaaFr24
namespace Go.Proofs.Ytmanlogclbbgaaa
open Go.RowKit
set_option linter.unusedVariables false

theorem BoxA.kept {w w' : World} {b B X : Nat} {r : Rp} (h : BoxA w b B r) (hg : w.grownBy w' (some X)) (hX : X < b) (hXB : X ≠ B) : BoxA w' b B r := by
  obtain ⟨v, xs, h1, h2, h3⟩ := h
  exact ⟨v, xs, (hg.block B (lt_of_block h1) (fun e => absurd (Option.some.inj e) (by omega))).trans h1, h2.kept hg (.inr (fun e => absurd (h2.lt X e).1 (by omega))), h3.kept hg (.inl hX)⟩
theorem BoxA.base {w : World} {b b' B : Nat} {r : Rp} (h : BoxA w b B r) (hb : b' ≤ b) : BoxA w b' B r := by
  obtain ⟨v, xs, h1, h2, h3⟩ := h
  refine ⟨v, xs, h1, own_base h2 hb, h3.1, fun j hj => ?_⟩
  obtain ⟨a, c, d, k, f, g⟩ := h3.2 j hj
  exact ⟨a, c, d, k, f, own_base g hb⟩
def rrOk (s : ByteArray) : Bool := decide (openE s = 0) && (prRp (openS s)).isSome
def RrPost (B : Nat) (s : ByteArray) (w : World) (e : Ending) (w' : World) : Prop :=
  ∃ r', r'.bounded ∧ e = .returned (.bool (rrOk s)) ∧ BoxA w' w.heap.size B r' ∧ (rrOk s = true → ∃ q, prRp (openS s) = some (r', q)) ∧ w.grownBy w' (some B)
set_option maxRecDepth 100000 in
set_option maxHeartbeats 4000000 in
theorem frReadR (s : ByteArray) (B : Nat) (w : World) (hB : w.heap[B]? = some (boxA rpZ (.slice none 0 0))) (hs : s.size ≤ 3000) :
    Calls Try.prog 27 #[.string s, .func (.func 41) #[] #[.pointer (some ⟨B, 0, none⟩)]] w (RrPost B s w) := by
  have hmf : ∀ (fn : Fn) (first cap : Array Value) (w : World), (Instr.makeFunc fn first cap).run Try.prog w = .ok (.func fn first cap) w := fun _ _ _ _ => rfl
  have HO := Lib.hid (fun u => crcOpen_any s u (by omega))
  have hBw : B < w.heap.size := lt_of_block hB
  have b0 := heap_alloc_new w (.cells #[.bool false] 4)
  have HB := Lib.hid hB
  clear hB
  by_cases hE : openE s = 0
  case neg =>
    have hok : rrOk s = false := by unfold rrOk; rw [decide_eq_false hE]; rfl
    have hfin : ∀ u, Below w.heap.size w u → RrPost B s w (.returned (.bool false)) u := fun u hu =>
      ⟨rpZ, rpZ_bounded, by rw [hok], boxZ ((hu.block B hBw).trans HB.out), (fun h => by rw [hok] at h; exact absurd h (by decide)), grown_below B hu⟩
    have HFIN := Lib.hid hfin
    have hq : (openE s != 0) = true := by simpa using hE
    generalize openE s = E at *
    generalize openS s = t at *
    clear hE hok hfin
    go_enter_defers Try.func27, Try.ntmps27
    go_wp2_with fail
    refine (HO.out _).mono ?_
    rintro e w1 ⟨rfl, hb1⟩
    have b1 := (hb1.block _ (lt_of_block b0)).trans b0
    have c1 := below_cell (Below.refl _ _) b1 0 rfl
    have f1 := block_frozen b1 0
    have b2 := block_set b1 0 (.bool false)
    have c2 := below_cell (Below.refl _ _) b2 0 rfl
    have hbT := ((Below.refl w.heap.size w).alloc (Nat.le_refl _) (.cells #[.bool false] 4)).trans (hb1.mono (by simp))
    have HFN := Lib.hid (HFIN.out _ (hbT.setCell (p := ⟨w.heap.size, 0, none⟩) (Nat.le_refl _) (.bool false)))
    clear b0 b1 hb1 hbT HFIN
    go_wp2_with fail
    simp [bodyPostD, Leaves, results, Try.results27, go_sem, c2]
    exact HFN.out
  rw [hE] at HO
  obtain ⟨t, ht⟩ : ∃ t, openS s = t := ⟨_, rfl⟩
  have hts : t.size ≤ 3000 := by
    rw [← ht]; unfold openS
    rw [if_pos hE, ByteArray.size_extract]; omega
  have hokp : rrOk s = (prRp t).isSome := by unfold rrOk; rw [hE, ht]; rfl
  rw [ht] at HO
  obtain ⟨O, hOO⟩ : ∃ O, prRp t = O := ⟨_, rfl⟩
  have HC := Lib.hid (fun R u h hq => frReplyFields t R B u h hq hts)
  have hpost : ∀ (r' : Rp) (u : World), r'.bounded → (∀ r q, O = some (r, q) → r' = r) → BoxA u w.heap.size B r' → w.grownBy u (some B) → RrPost B s w (.returned (.bool O.isSome)) u := fun r' u hb h1 h2 h3 =>
    ⟨r', hb, by rw [hokp, hOO], h2, (fun h => by
      rw [hokp, hOO] at h
      cases O with
      | none => exact absurd h (by decide)
      | some qr => obtain ⟨q, r⟩ := qr; exact ⟨r, by rw [ht, hOO, h1 q r rfl]⟩), h3⟩
  rw [hOO] at HC
  have HPO := Lib.hid hpost
  clear hE ht hokp hOO hpost
  go_enter_defers Try.func27, Try.ntmps27
  go_wp2_with fail
  refine (HO.out _).mono ?_
  rintro e w1 ⟨rfl, hb1⟩
  have b1 := (hb1.block _ (lt_of_block b0)).trans b0
  have hbT := ((Below.refl w.heap.size w).alloc (Nat.le_refl _) (.cells #[.bool false] 4)).trans (hb1.mono (by simp))
  have hq1 : (w1.alloc (.cells #[.string t, .int .i64 0] 83)).heap[B]? = some (boxA rpZ (.slice none 0 0)) := (heap_alloc_old w1 _ (lt_of_block ((hbT.block B hBw).trans HB.out))).trans ((hbT.block B hBw).trans HB.out)
  have hz1 := hb1.size
  rw [World.size_alloc] at hz1
  have hN2 := (heap_alloc_old w1 (.cells #[.string t, .int .i64 0] 83) (lt_of_block b1)).trans b1
  have hR2 : Rd w1.heap.size t 0 (w1.alloc (.cells #[.string t, .int .i64 0] 83)) := heap_alloc_new w1 _
  have hb2 := hbT.alloc (by omega) (.cells #[.string t, .int .i64 0] 83)
  have HB2 := Lib.hid hb2; have HN2 := Lib.hid hN2
  clear b0 b1 hbT hb1 hb2 hN2
  go_wp2_with fail
  refine (HC.out _ _ hR2 hq1).mono ?_
  obtain ⟨R, hR⟩ : ∃ R, w1.heap.size = R := ⟨_, rfl⟩
  have hz2 : (w1.alloc (.cells #[.string t, .int .i64 0] 83)).heap.size = R + 1 := by rw [World.size_alloc, hR]
  rw [hR] at hR2 hz1
  simp only [hR]
  have hBR : B ≠ R := by omega
  have hNR : w.heap.size ≠ R := by omega
  rintro e w3 ⟨hG, r', hbd, hbox, hm⟩
  rw [hz2] at hbox
  have hg3 : w.grownBy w3 (some B) := ⟨hG.os.trans HB2.out.os, hG.tape.trans HB2.out.tape, hG.output.trans HB2.out.output, Nat.le_trans HB2.out.size hG.size, fun k hk hr =>
    (hG.block k (Nat.lt_of_lt_of_le hk HB2.out.size) (by omega) (fun e => hr (by rw [e]))).trans (HB2.out.block k hk)⟩
  have hN3 := (hG.block _ (lt_of_block HN2.out) hNR (by omega)).trans HN2.out
  have hNB : w.heap.size ≠ B := by omega
  have hle : w.heap.size ≤ R + 1 := by omega
  have hlt : w.heap.size < R + 1 := by omega
  cases O with
  | none =>
    have hm : e = .panicked endP := hm
    subst hm
    have HFIN := Lib.hid (HPO.out r' ((w3.alloc (.cells #[] 98)).setCell ⟨w.heap.size, 0, none⟩ (.bool false)) hbd (fun r q h => by cases h)
      ((hbox.kept (grown_set (World.grownBy_alloc w3 (.cells #[] 98) (some w.heap.size)) 0 (.bool false)) hlt hNB).base hle)
      (grown_new (grown_alloc hg3 _) (Nat.le_refl _) 0 (.bool false)))
    clear HPO HC HO hG hbox hg3 hR2 hq1
    go_wp2_with fail
    exact readDoor hN3 (by rfl) HFIN.out
  | some qr =>
    obtain ⟨q, r⟩ := qr
    obtain ⟨rfl, rfl, _⟩ := hm
    have c5 := below_cell (Below.refl _ _) hN3 0 rfl
    have f5 := block_frozen hN3 0
    have hN6 := block_set hN3 0 (.bool true)
    have HFIN := Lib.hid (HPO.out r' (w3.setCell ⟨w.heap.size, 0, none⟩ (.bool true)) hbd (fun a b h => by cases h; rfl)
      ((hbox.kept (grown_set (R := w.heap.size) (w := w3) ⟨rfl, rfl, rfl, Nat.le_refl _, fun _ _ _ => rfl⟩ 0 (.bool true)) hlt hNB).base hle)
      (grown_new hg3 (Nat.le_refl _) 0 (.bool true)))
    clear HPO HC HO hG hbox hg3 hR2 hq1 hN3
    go_wp2_with fail
    exact readDoorRet hN6 (by rfl) HFIN.out
end Go.Proofs.Ytmanlogclbbgaaa
