/- frame's reader: number, text. -/
import Derived.Test.YtmanlogclbbgaaaFr1
import Derived.Test.YtmanlogclbbgaaaLeGet
import Derived.Test.YtmanlogclbbgaaaLeCut
import Derived.WalkSmall
namespace Go.Proofs.Ytmanlogclbbgaaa
open Go.RowKit
set_option linter.unusedVariables false

def numA (s : ByteArray) (p k : Nat) : Int := IntKind.i64.wrap ((getL (cutL s p k) : Nat) : Int)
/-- the panic of a reader whose bytes end too early -/
def endP : List PanicEntry := [{ v := .iface 98 (.agg #[]), recovered := false }]
/-- a reader stands at a place -/
def Rd (R : Nat) (s : ByteArray) (p : Nat) (w : World) : Prop := w.heap[R]? = some (.cells #[.string s, .int .i64 (p : Nat)] 83 (0, 0))
theorem grown_below {w w' : World} (R : Nat) (h : Below w.heap.size w w') : w.grownBy w' (some R) := ⟨h.os, h.tape, h.output, h.size, fun k hk _ => h.block k hk⟩
theorem grown_trans {w w1 w2 : World} {R : Option Nat} (h1 : w.grownBy w1 R) (h2 : w1.grownBy w2 R) : w.grownBy w2 R :=
  ⟨h2.os.trans h1.os, h2.tape.trans h1.tape, h2.output.trans h1.output, Nat.le_trans h1.size h2.size, fun k hk hr => (h2.block k (Nat.lt_of_lt_of_le hk h1.size) hr).trans (h1.block k hk hr)⟩
theorem grown_set {w w1 : World} {R : Nat} (h : w.grownBy w1 (some R)) (j : Nat) (v : Value) : w.grownBy (w1.setCell ⟨R, j, none⟩ v) (some R) :=
  ⟨h.os, h.tape, h.output, by rw [World.size_setCell]; exact h.size, fun k hk hr => by
    rw [Below.heap_setCell _ _ _ _ (fun e => hr (by rw [e]))]
    exact h.block k hk hr⟩
theorem getL_8 (s : ByteArray) (p k : Nat) (hk : k ≤ 8) : getL (cutL s p k) ≤ 18446744073709551615 := by
  have h1 := getL_lt (cutL s p k)
  have h2 : (cutL s p k).length ≤ 8 := Nat.le_trans (List.length_take_le _ _) hk
  have h3 : 256 ^ (cutL s p k).length ≤ 256 ^ 8 := Nat.pow_le_pow_right (by omega) h2
  rw [show (256 : Nat) ^ 8 = 18446744073709551616 by decide] at h3
  omega
set_option maxRecDepth 100000 in
theorem rdMoved_ok (s : ByteArray) (p q R : Nat) (w : World) (h : Rd R s p w) : Calls Try.prog 52 #[.pointer (some ⟨R, 0, none⟩), .int .i64 (q : Nat), .int .i64 0] w fun e w' => e = .returned (.tuple #[]) ∧ w' = w.setCell ⟨R, 1, none⟩ (.int .i64 (q : Nat)) := by
  unfold Rd at h
  have c1 := below_cell (Below.refl _ w) h 1 rfl
  have f1 := block_frozen h 1
  clear h
  go_enter Try.func52, Try.ntmps52
  go_wp2_with fail
  go_end0
  exact ⟨rfl, rfl⟩
def PanPost (w : World) (e : Ending) (w' : World) : Prop := e = .panicked endP ∧ w = w'
set_option maxRecDepth 100000 in
theorem rdMoved_bad (q x : Int) (R : Nat) (w : World) (h : x ≠ 0) : Calls Try.prog 52 #[.pointer (some ⟨R, 0, none⟩), .int .i64 q, .int .i64 x] w (PanPost w) := by
  have hx : (x != 0) = true := by simpa using h
  clear h
  go_enter Try.func52, Try.ntmps52
  go_wp2_with fail
  exact ⟨rfl, rfl, rfl⟩
set_option maxRecDepth 100000 in
theorem rdNumber_ok (s : ByteArray) (p k R : Nat) (w : World) (h : Rd R s p w) (hs : s.size ≤ 3000) (hk1 : 1 ≤ k) (hk2 : k ≤ 8) (hp : p + k ≤ s.size) :
    Calls Try.prog 29 #[.pointer (some ⟨R, 0, none⟩), .int .i64 (k : Nat)] w fun e w' => e = .returned (.int .i64 (numA s p k)) ∧ Rd R s (p + k) w' ∧ w.grownBy w' (some R) := by
  have hg := getL_8 s p k hk2
  have HG := Lib.hid (fun u => leGet_ok s p k u (by omega) hk1 (by omega) hp)
  have H := Lib.hid h
  have hnum : IntKind.i64.wrap ((getL (cutL s p k) : Nat) : Int) = numA s p k := rfl
  generalize numA s p k = N at *
  generalize getL (cutL s p k) = g at *
  unfold Rd at h
  have c0 := keep_at h 0 rfl
  have c1 := keep_at h 1 rfl
  have hgI : (g : Int) ≤ 18446744073709551615 := by omega
  clear h hg
  go_enter Try.func29, Try.ntmps29
  go_wp2_with fail
  refine wp_region_keep (w0 := w) (by kernel_rfl) (by kernel_rfl) (Below.refl _ _) ?_
  repeat (go_big_quiet_step ((go_at_call 51; exact keepSame (HG.out _))))
  refine wpQuiet_nil ?_
  intro _ hw'
  obtain ⟨x, rfl⟩ := hw'
  have hx := (x.below.block _ (lt_of_block H.out)).trans H.out
  have HX := Lib.hid hx; have HB := Lib.hid x.below
  clear hx c0 c1
  go_wp2_with fail
  refine (rdMoved_ok s p (p + k) R x.val HX.out).mono ?_
  rintro e w' ⟨rfl, rfl⟩
  have HF := Lib.hid (block_set HX.out 1 (.int .i64 ((p + k : Nat) : Int)))
  have HGG := Lib.hid (grown_set (grown_below R HB.out) 1 (.int .i64 ((p + k : Nat) : Int)))
  go_wp2_with fail
  go_ret
  exact ⟨rfl, HF.out, HGG.out⟩
def BadPost (R : Nat) (w : World) (e : Ending) (w' : World) : Prop := e = .panicked endP ∧ w.grownBy w' (some R)
set_option maxRecDepth 100000 in
theorem rdNumber_bad (s : ByteArray) (p k R : Nat) (w : World) (h : Rd R s p w) (hs : s.size ≤ 3000) (hk1 : 1 ≤ k) (hk2 : k ≤ 8) (hpp : p ≤ 1000000) (hp : ¬ p + k ≤ s.size) :
    Calls Try.prog 29 #[.pointer (some ⟨R, 0, none⟩), .int .i64 (k : Nat)] w (BadPost R w) := by
  have HG := Lib.hid (fun u => leGet_short s p k u (by omega) (by omega) (by omega) (by omega) (by omega) (by omega))
  have H := Lib.hid h
  unfold Rd at h
  have c0 := keep_at h 0 rfl
  have c1 := keep_at h 1 rfl
  clear h
  go_enter Try.func29, Try.ntmps29
  go_wp2_with fail
  refine wp_region_keep (w0 := w) (by kernel_rfl) (by kernel_rfl) (Below.refl _ _) ?_
  repeat (go_big_quiet_step ((go_at_call 51; exact keepSame (HG.out _))))
  refine wpQuiet_nil ?_
  intro _ hw'
  obtain ⟨x, rfl⟩ := hw'
  have HB := Lib.hid x.below
  clear c0 c1
  go_wp2_with fail
  refine (rdMoved_bad 0 3 R x.val (by decide)).mono ?_
  rintro e w' ⟨rfl, rfl⟩
  go_wp2_with fail
  exact ⟨rfl, rfl, grown_below R HB.out⟩
set_option maxRecDepth 100000 in
theorem rdText_ok (s : ByteArray) (p R : Nat) (w : World) (h : Rd R s p w) (hs : s.size ≤ 3000) (hpp : p ≤ 1000000) (hc : cutE s p = 0) :
    Calls Try.prog 30 #[.pointer (some ⟨R, 0, none⟩)] w fun e w' => e = .returned (.string (cutS s p)) ∧ Rd R s (cutT s p).toNat w' ∧ w.grownBy w' (some R) := by
  have HG := Lib.hid (fun u => leCut_any s p u (by omega) (by omega))
  rw [hc] at HG
  have hT : ((cutT s p).toNat : Int) = cutT s p := by
    have := getN_2 s p
    unfold cutT
    split <;> omega
  obtain ⟨q, hq⟩ : ∃ q, (cutT s p).toNat = q := ⟨_, rfl⟩
  rw [hq] at hT ⊢
  rw [← hT] at HG
  have H := Lib.hid h
  generalize cutS s p = S at *
  unfold Rd at h
  have c0 := keep_at h 0 rfl
  have c1 := keep_at h 1 rfl
  clear h hc hT hq
  go_enter Try.func30, Try.ntmps30
  go_wp2_with fail
  refine wp_region_keep (w0 := w) (by kernel_rfl) (by kernel_rfl) (Below.refl _ _) ?_
  repeat (go_big_quiet_step ((go_at_call 53; exact keepSame (HG.out _))))
  refine wpQuiet_nil ?_
  intro _ hw'
  obtain ⟨x, rfl⟩ := hw'
  have hx := (x.below.block _ (lt_of_block H.out)).trans H.out
  have HX := Lib.hid hx; have HB := Lib.hid x.below
  clear hx c0 c1
  go_wp2_with fail
  refine (rdMoved_ok s p q R x.val HX.out).mono ?_
  rintro e w' ⟨rfl, rfl⟩
  have HF := Lib.hid (block_set HX.out 1 (.int .i64 (q : Nat)))
  have HGG := Lib.hid (grown_set (grown_below R HB.out) 1 (.int .i64 (q : Nat)))
  go_wp2_with fail
  go_ret
  exact ⟨rfl, HF.out, HGG.out⟩
set_option maxRecDepth 100000 in
theorem rdText_bad (s : ByteArray) (p R : Nat) (w : World) (h : Rd R s p w) (hs : s.size ≤ 3000) (hpp : p ≤ 1000000) (hc : cutE s p ≠ 0) :
    Calls Try.prog 30 #[.pointer (some ⟨R, 0, none⟩)] w (BadPost R w) := by
  have HG := Lib.hid (fun u => leCut_any s p u (by omega) (by omega))
  have HC := Lib.hid hc
  have H := Lib.hid h
  generalize cutE s p = E at *
  generalize cutS s p = S at *
  generalize cutT s p = T at *
  unfold Rd at h
  have c0 := keep_at h 0 rfl
  have c1 := keep_at h 1 rfl
  clear h hc
  go_enter Try.func30, Try.ntmps30
  go_wp2_with fail
  refine wp_region_keep (w0 := w) (by kernel_rfl) (by kernel_rfl) (Below.refl _ _) ?_
  repeat (go_big_quiet_step ((go_at_call 53; exact keepSame (HG.out _))))
  refine wpQuiet_nil ?_
  intro _ hw'
  obtain ⟨x, rfl⟩ := hw'
  have HB := Lib.hid x.below
  clear c0 c1
  go_wp2_with fail
  refine (rdMoved_bad T E R x.val HC.out).mono ?_
  rintro e w' ⟨rfl, rfl⟩
  go_wp2_with fail
  exact ⟨rfl, rfl, grown_below R HB.out⟩
end Go.Proofs.Ytmanlogclbbgaaa
