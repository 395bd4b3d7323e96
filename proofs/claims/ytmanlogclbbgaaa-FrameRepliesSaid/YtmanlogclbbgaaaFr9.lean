/- frame.read, where a request is read. -/
import Derived.Test.YtmanlogclbbgaaaFr8
namespace Go.Proofs.Ytmanlogclbbgaaa
open Go.RowKit
set_option linter.unusedVariables false

def rdOk (s : ByteArray) : Bool := decide (openE s = 0) && (prAsk (openS s)).isSome
def RdPost (q0 : Asq) (B : Nat) (s : ByteArray) (w : World) (e : Ending) (w' : World) : Prop :=
  ∃ q', e = .returned (.bool (rdOk s)) ∧ AsqAt w' B q' ∧ (rdOk s = true → ∃ r, prAsk (openS s) = some (q', r)) ∧ (rdOk s = false → q' = q0) ∧ w.grownBy w' (some B)
set_option maxRecDepth 100000 in
set_option maxHeartbeats 4000000 in
theorem frRead (s : ByteArray) (B : Nat) (q0 : Asq) (w : World) (hB : AsqAt w B q0) (hs : s.size ≤ 3000) :
    Calls Try.prog 27 #[.string s, .func (.func 28) #[] #[.pointer (some ⟨B, 0, none⟩)]] w (RdPost q0 B s w) := by
  have hmf : ∀ (fn : Fn) (first cap : Array Value) (w : World), (Instr.makeFunc fn first cap).run Try.prog w = .ok (.func fn first cap) w := fun _ _ _ _ => rfl
  have HO := Lib.hid (fun u => crcOpen_any s u (by omega))
  have hBw : B < w.heap.size := lt_of_block hB
  have b0 := heap_alloc_new w (.cells #[.bool false] 4)
  have HB := Lib.hid hB
  clear hB
  by_cases hE : openE s = 0
  case neg =>
    have hok : rdOk s = false := by unfold rdOk; rw [decide_eq_false hE]; rfl
    have hfin : ∀ u, Below w.heap.size w u → RdPost q0 B s w (.returned (.bool false)) u := fun u hu =>
      ⟨q0, by rw [hok], (hu.block B hBw).trans HB.out, (fun h => by rw [hok] at h; exact absurd h (by decide)), (fun _ => rfl), grown_below B hu⟩
    have HFIN := Lib.hid hfin
    have hq : (openE s != 0) = true := by simpa using hE
    generalize openE s = E at *
    generalize openS s = t at *
    clear hE hok hfin
    go_enter_defers Try.func27, Try.ntmps27
    go_wp2_with fail
    refine (HO.out _).mono ?_
    rintro e w1 ⟨rfl, hb1⟩
    have b1 := (hb1.block _ (lt_of_block b0)).trans b0
    have c1 := below_cell (Below.refl _ _) b1 0 rfl
    have f1 := block_frozen b1 0
    have b2 := block_set b1 0 (.bool false)
    have c2 := below_cell (Below.refl _ _) b2 0 rfl
    have hbT := ((Below.refl w.heap.size w).alloc (Nat.le_refl _) (.cells #[.bool false] 4)).trans (hb1.mono (by simp))
    have HFN := Lib.hid (HFIN.out _ (hbT.setCell (p := ⟨w.heap.size, 0, none⟩) (Nat.le_refl _) (.bool false)))
    clear b0 b1 hb1 hbT HFIN
    go_wp2_with fail
    simp [bodyPostD, Leaves, results, Try.results27, go_sem, c2]
    exact HFN.out
  rw [hE] at HO
  obtain ⟨t, ht⟩ : ∃ t, openS s = t := ⟨_, rfl⟩
  have hts : t.size ≤ 3000 := by
    rw [← ht]; unfold openS
    rw [if_pos hE, ByteArray.size_extract]; omega
  have hokp : rdOk s = (prAsk t).isSome := by unfold rdOk; rw [hE, ht]; rfl
  rw [ht] at HO
  obtain ⟨O, hOO⟩ : ∃ O, prAsk t = O := ⟨_, rfl⟩
  have HC := Lib.hid (fun R q u h hq => frAskFields t R B q u h hq hts)
  have hpost : ∀ (q' : Asq) (u : World), (∀ q r, O = some (q, r) → q' = q) → (O = none → q' = q0) → AsqAt u B q' → w.grownBy u (some B) → RdPost q0 B s w (.returned (.bool O.isSome)) u := fun q' u h1 h0 h2 h3 =>
    ⟨q', by rw [hokp, hOO], h2, (fun h => by
      rw [hokp, hOO] at h
      cases O with
      | none => exact absurd h (by decide)
      | some qr => obtain ⟨q, r⟩ := qr; exact ⟨r, by rw [ht, hOO, h1 q r rfl]⟩), (fun h => by
      rw [hokp, hOO] at h
      cases O with
      | none => exact h0 rfl
      | some qr => exact absurd h (by simp)), h3⟩
  rw [hOO] at HC
  have HPO := Lib.hid hpost
  clear hE ht hokp hOO hpost
  go_enter_defers Try.func27, Try.ntmps27
  go_wp2_with fail
  refine (HO.out _).mono ?_
  rintro e w1 ⟨rfl, hb1⟩
  have b1 := (hb1.block _ (lt_of_block b0)).trans b0
  have hbT := ((Below.refl w.heap.size w).alloc (Nat.le_refl _) (.cells #[.bool false] 4)).trans (hb1.mono (by simp))
  have hq1 : AsqAt (w1.alloc (.cells #[.string t, .int .i64 0] 83)) B q0 := (heap_alloc_old w1 _ (lt_of_block ((hbT.block B hBw).trans HB.out))).trans ((hbT.block B hBw).trans HB.out)
  have hz1 := hb1.size
  rw [World.size_alloc] at hz1
  have hN2 := (heap_alloc_old w1 (.cells #[.string t, .int .i64 0] 83) (lt_of_block b1)).trans b1
  have hR2 : Rd w1.heap.size t 0 (w1.alloc (.cells #[.string t, .int .i64 0] 83)) := heap_alloc_new w1 _
  have hb2 := hbT.alloc (by omega) (.cells #[.string t, .int .i64 0] 83)
  have HB2 := Lib.hid hb2; have HN2 := Lib.hid hN2
  clear b0 b1 hbT hb1 hb2 hN2
  go_wp2_with fail
  refine (HC.out _ _ _ hR2 hq1).mono ?_
  obtain ⟨R, hR⟩ : ∃ R, w1.heap.size = R := ⟨_, rfl⟩
  rw [hR] at hR2 hz1
  simp only [hR]
  have hBR : B ≠ R := by omega
  have hNR : w.heap.size ≠ R := by omega
  have hgrow : ∀ u, (w1.alloc (.cells #[.string t, .int .i64 0] 83)).grownBy u (some R) → Below w.heap.size w u := fun u hu => HB2.out.grown hu HB2.out.size (fun k hk => by injection hk with hk; omega)
  cases O with
  | none =>
    rintro e w3 ⟨rfl, hg3⟩
    have hb3 := hgrow _ hg3
    have hN3 := (hg3.block _ (lt_of_block HN2.out) (fun e => hNR (Option.some.inj e))).trans HN2.out
    have hfin := HPO.out q0 ((w3.alloc (.cells #[] 98)).setCell ⟨w.heap.size, 0, none⟩ (.bool false)) (fun q r h => by cases h) (fun _ => rfl)
      ((((hb3.alloc hb3.size _).setCell (p := ⟨w.heap.size, 0, none⟩) (Nat.le_refl _) _).block B hBw).trans HB.out) (grown_below B ((hb3.alloc hb3.size _).setCell (p := ⟨w.heap.size, 0, none⟩) (Nat.le_refl _) _))
    have HFIN := Lib.hid hfin
    clear hfin HPO HC HO hgrow hg3 hb3 hR2 hq1
    go_wp2_with fail
    exact readDoor hN3 (by rfl) HFIN.out
  | some qr =>
    obtain ⟨q, r⟩ := qr
    rintro e w3 ⟨rfl, w4, hR4, hg4, rfl⟩
    have hb4 := hgrow _ hg4
    have hN4 := (hg4.block _ (lt_of_block HN2.out) (fun e => hNR (Option.some.inj e))).trans HN2.out
    have hB4 := (hb4.block B hBw).trans HB.out
    have hN5 := (setRow_other w4 B w.heap.size #[.int .i64 q.kind, .string q.name, .int .i64 q.no, .string q.source, .string q.record] (by omega)).trans hN4
    have hB5 := setRow_heap w4 B _ #[.int .i64 q.kind, .string q.name, .int .i64 q.no, .string q.source, .string q.record] _ _ hB4
    have hg5 : w.grownBy (w4.setRow B #[.int .i64 q.kind, .string q.name, .int .i64 q.no, .string q.source, .string q.record]) (some B) :=
      ⟨hb4.os, hb4.tape, hb4.output, by rw [setRow_size]; exact hb4.size, fun k hk hr => by
        rw [setRow_other w4 B k _ (fun e => hr (by rw [e]))]
        exact hb4.block k hk⟩
    generalize w4.setRow B #[.int .i64 q.kind, .string q.name, .int .i64 q.no, .string q.source, .string q.record] = w5 at *
    have c5 := below_cell (Below.refl _ _) hN5 0 rfl
    have f5 := block_frozen hN5 0
    have hN6 := block_set hN5 0 (.bool true)
    have hB6 := (Below.heap_setCell w5 ⟨w.heap.size, 0, none⟩ (.bool true) B (by show B ≠ w.heap.size; omega)).trans hB5
    have hg6 : w.grownBy (w5.setCell ⟨w.heap.size, 0, none⟩ (.bool true)) (some B) :=
      ⟨hg5.os, hg5.tape, hg5.output, by rw [World.size_setCell]; exact hg5.size, fun k hk hr => by
        rw [Below.heap_setCell _ _ _ _ (by show k ≠ w.heap.size; omega)]
        exact hg5.block k hk hr⟩
    have HFIN := Lib.hid (HPO.out q (w5.setCell ⟨w.heap.size, 0, none⟩ (.bool true)) (fun q' r' h => by cases h; rfl) (fun h => by cases h) hB6 hg6)
    clear HPO HC HO hgrow hg4 hb4 hR2 hq1 hR4 hN4 hB4 hN5 hB5 hg5 hg6 hB6
    go_wp2_with fail
    exact readDoorRet hN6 (by rfl) HFIN.out
end Go.Proofs.Ytmanlogclbbgaaa
