/- The reference's reader: number of any size, text, with an error or none. -/
import Derived.Test.YtmanlogclbbgaaaFr6
import Derived.Test.YtmanlogclbbgaaaRef01Cut
namespace Go.Proofs.Ytmanlogclbbgaaa
open Go.RowKit
set_option linter.unusedVariables false

/-- the reference's reader stands at a place, with an error or none -/
def RdR (R : Nat) (s : ByteArray) (p x : Int) (w : World) : Prop := w.heap[R]? = some (.cells #[.string s, .int .i64 p, .int .i64 x] 60 (0, 0))
def NextPost (R : Nat) (s : ByteArray) (g p x : Int) (w : World) (e : Ending) (w' : World) : Prop := e = .returned (.int .u64 g) ∧ RdR R s p x w' ∧ w.grownBy w' (some R)
theorem rgrown_below {w w' : World} (R : Nat) (h : Below w.heap.size w w') : w.grownBy w' (some R) := ⟨h.os, h.tape, h.output, h.size, fun k hk _ => h.block k hk⟩
theorem rgrown_set {w w1 : World} {R : Nat} (h : w.grownBy w1 (some R)) (j : Nat) (v : Value) : w.grownBy (w1.setCell ⟨R, j, none⟩ v) (some R) :=
  ⟨h.os, h.tape, h.output, by rw [World.size_setCell]; exact h.size, fun k hk hr => by
    rw [Below.heap_setCell _ _ _ _ (fun e => hr (by rw [e]))]
    exact h.block k hk hr⟩
set_option maxRecDepth 100000 in
theorem rNext_err (s : ByteArray) (p x k : Int) (R : Nat) (w : World) (h : RdR R s p x w) (hx : x ≠ 0) :
    Calls Try.prog 32 #[.pointer (some ⟨R, 0, none⟩), .int .i64 k] w (NextPost R s 0 p x w) := by
  have H := Lib.hid h
  unfold RdR at h
  have c2 := below_cell (Below.refl _ w) h 2 rfl
  have hq : (x != 0) = true := by simpa using hx
  clear h hx
  go_enter Try.func32, Try.ntmps32
  go_wp2_with fail
  go_ret
  exact ⟨rfl, H.out, rgrown_below R (Below.refl _ _)⟩
set_option maxRecDepth 100000 in
set_option maxHeartbeats 1000000 in
theorem rNext_any (s : ByteArray) (p k : Int) (R : Nat) (w : World) (h : RdR R s p 0 w) (hs : s.size ≤ 3000) (hp2 : p ≤ 1000000) :
    Calls Try.prog 32 #[.pointer (some ⟨R, 0, none⟩), .int .i64 k] w (NextPost R s (getN s p k) (getT s p k) (getE s p k) w) := by
  have H := Lib.hid h
  have HG := Lib.hid (fun u => refGet_any s p k u (by omega) (by omega))
  generalize getN s p k = g at *
  generalize getT s p k = t at *
  generalize getE s p k = x at *
  unfold RdR at h
  have c0 := below_cell (Below.refl _ w) h 0 rfl
  have c1 := below_cell (Below.refl _ w) h 1 rfl
  have c2 := below_cell (Below.refl _ w) h 2 rfl
  have d0 := keep_at h 0 rfl
  have d1 := keep_at h 1 rfl
  clear h
  go_enter Try.func32, Try.ntmps32
  go_upto_region 3 with fail
  refine wp_region_keep (w0 := w) (by kernel_rfl) (by kernel_rfl) (Below.refl _ _) ?_
  repeat (go_big_quiet_step ((go_at_call 54; exact keepSame (HG.out _))))
  refine wpQuiet_nil ?_
  intro _ hw'
  obtain ⟨y, rfl⟩ := hw'
  have hx := (y.below.block _ (lt_of_block H.out)).trans H.out
  have HB := Lib.hid y.below
  have f1 := block_frozen hx 1
  have e1 := below_cell (Below.refl _ _) hx 1 rfl
  have hx2 := block_set hx 1 (.int .i64 t)
  have f2 := block_frozen hx2 2
  have e2 := below_cell (Below.refl _ _) hx2 2 rfl
  have HX := Lib.hid (block_set hx2 2 (.int .i64 x))
  clear hx hx2 c0 c1 c2 d0 d1 HG
  have HGR := Lib.hid (rgrown_set (rgrown_set (rgrown_below R HB.out) 1 (.int .i64 t)) 2 (.int .i64 x))
  go_wp2_with fail
  go_ret
  exact ⟨rfl, HX.out, HGR.out⟩
def TextPost (R : Nat) (s : ByteArray) (t : ByteArray) (p x : Int) (w : World) (e : Ending) (w' : World) : Prop := e = .returned (.string t) ∧ RdR R s p x w' ∧ w.grownBy w' (some R)
set_option maxRecDepth 100000 in
set_option maxHeartbeats 1000000 in
theorem rText_any (s : ByteArray) (p : Int) (R : Nat) (w : World) (h : RdR R s p 0 w) (hs : s.size ≤ 3000) (hp2 : p ≤ 1000000) :
    Calls Try.prog 33 #[.pointer (some ⟨R, 0, none⟩)] w (TextPost R s (cutS s p) (cutT s p) (cutE s p) w) := by
  have H := Lib.hid h
  have HG := Lib.hid (fun u => refCut_any s p u (by omega) (by omega))
  generalize cutS s p = g at *
  generalize cutT s p = t at *
  generalize cutE s p = x at *
  unfold RdR at h
  have c0 := below_cell (Below.refl _ w) h 0 rfl
  have c1 := below_cell (Below.refl _ w) h 1 rfl
  have c2 := below_cell (Below.refl _ w) h 2 rfl
  have d0 := keep_at h 0 rfl
  have d1 := keep_at h 1 rfl
  clear h
  go_enter Try.func33, Try.ntmps33
  go_upto_region 3 with fail
  refine wp_region_keep (w0 := w) (by kernel_rfl) (by kernel_rfl) (Below.refl _ _) ?_
  repeat (go_big_quiet_step ((go_at_call 55; exact keepSame (HG.out _))))
  refine wpQuiet_nil ?_
  intro _ hw'
  obtain ⟨y, rfl⟩ := hw'
  have hx := (y.below.block _ (lt_of_block H.out)).trans H.out
  have HB := Lib.hid y.below
  have f1 := block_frozen hx 1
  have e1 := below_cell (Below.refl _ _) hx 1 rfl
  have hx2 := block_set hx 1 (.int .i64 t)
  have f2 := block_frozen hx2 2
  have e2 := below_cell (Below.refl _ _) hx2 2 rfl
  have HX := Lib.hid (block_set hx2 2 (.int .i64 x))
  clear hx hx2 c0 c1 c2 d0 d1 HG
  have HGR := Lib.hid (rgrown_set (rgrown_set (rgrown_below R HB.out) 1 (.int .i64 t)) 2 (.int .i64 x))
  go_wp2_with fail
  go_ret
  exact ⟨rfl, HX.out, HGR.out⟩
def nN (s : ByteArray) (p x k : Int) : Int := if x = 0 then getN s p k else 0
def nT (s : ByteArray) (p x k : Int) : Int := if x = 0 then getT s p k else p
def nE (s : ByteArray) (p x k : Int) : Int := if x = 0 then getE s p k else x
theorem nT_le (s : ByteArray) (p x k : Int) (hs : s.size ≤ 3000) (hp : p ≤ 1000000) : nT s p x k ≤ 1000000 := by
  unfold nT getT
  split
  · split
    · rename_i h
      have := getE_ok h
      omega
    · omega
  · exact hp
theorem rNext (s : ByteArray) (p x k : Int) (R : Nat) (w : World) (h : RdR R s p x w) (hs : s.size ≤ 3000) (hp2 : p ≤ 1000000) :
    Calls Try.prog 32 #[.pointer (some ⟨R, 0, none⟩), .int .i64 k] w (NextPost R s (nN s p x k) (nT s p x k) (nE s p x k) w) := by
  by_cases hx : x = 0
  · subst hx
    have := rNext_any s p k R w h hs hp2
    unfold nN nT nE
    rw [if_pos rfl, if_pos rfl, if_pos rfl]
    exact this
  · have := rNext_err s p x k R w h hx
    unfold nN nT nE
    rw [if_neg hx, if_neg hx, if_neg hx]
    exact this
/-- a number where there are enough bytes, and where there are not -/
theorem n_ok (s : ByteArray) (p k : Nat) (hk1 : 1 ≤ k) (hk8 : k ≤ 8) (h : p + k ≤ s.size) : nN s p 0 k = (getL (cutL s p k) : Nat) ∧ nT s p 0 k = ((p + k : Nat) : Int) ∧ nE s p 0 k = 0 := by
  have hE : getE s p k = 0 := by unfold getE; rw [if_pos (by omega), if_pos (by omega)]
  unfold nN nT nE
  rw [if_pos rfl, if_pos rfl, if_pos rfl]
  refine ⟨?_, ?_, hE⟩
  · unfold getN
    rw [if_pos hE]; rfl
  · unfold getT
    rw [if_pos hE]; omega
theorem n_bad (s : ByteArray) (p k : Nat) (h : ¬ p + k ≤ s.size) : nE s p 0 k ≠ 0 := by
  unfold nE getE
  rw [if_pos rfl]
  split
  · rw [if_neg (by omega)]; decide
  · decide
theorem n_sticky (s : ByteArray) (p x k : Int) (h : x ≠ 0) : nE s p x k ≠ 0 := by
  unfold nE
  rw [if_neg h]; exact h
theorem rText_err (s : ByteArray) (p x : Int) (R : Nat) (w : World) (h : RdR R s p x w) (hx : x ≠ 0) :
    Calls Try.prog 33 #[.pointer (some ⟨R, 0, none⟩)] w (TextPost R s ⟨#[]⟩ p x w) := by
  have H := Lib.hid h
  unfold RdR at h
  have c2 := below_cell (Below.refl _ w) h 2 rfl
  have hq : (x != 0) = true := by simpa using hx
  clear h hx
  go_enter Try.func33, Try.ntmps33
  go_wp2_with fail
  go_ret
  exact ⟨rfl, H.out, rgrown_below R (Below.refl _ _)⟩
def tS (s : ByteArray) (p x : Int) : ByteArray := if x = 0 then cutS s p else ⟨#[]⟩
def tT (s : ByteArray) (p x : Int) : Int := if x = 0 then cutT s p else p
def tE (s : ByteArray) (p x : Int) : Int := if x = 0 then cutE s p else x
theorem rText (s : ByteArray) (p x : Int) (R : Nat) (w : World) (h : RdR R s p x w) (hs : s.size ≤ 3000) (hp2 : p ≤ 1000000) :
    Calls Try.prog 33 #[.pointer (some ⟨R, 0, none⟩)] w (TextPost R s (tS s p x) (tT s p x) (tE s p x) w) := by
  by_cases hx : x = 0
  · subst hx
    have := rText_any s p R w h hs hp2
    unfold tS tT tE
    rw [if_pos rfl, if_pos rfl, if_pos rfl]
    exact this
  · have := rText_err s p x R w h hx
    unfold tS tT tE
    rw [if_neg hx, if_neg hx, if_neg hx]
    exact this
theorem cutT_le (s : ByteArray) (p : Int) (hs : s.size ≤ 3000) : 0 ≤ cutT s p ∧ cutT s p ≤ 1000000 := by
  have := getN_2 s p
  unfold cutT
  split
  · rename_i hc
    unfold cutE at hc
    split at hc
    · rename_i hh; exact absurd hc hh
    · rename_i hh
      have := getE_ok (Classical.byContradiction hh)
      split at hc
      · omega
      · cases hc
  · omega
theorem tT_le (s : ByteArray) (p x : Int) (hs : s.size ≤ 3000) (hp : p ≤ 1000000) : tT s p x ≤ 1000000 := by
  unfold tT
  split
  · exact (cutT_le s p hs).2
  · exact hp
theorem t_ok (s : ByteArray) (p : Nat) (h : cutE s p = 0) : tS s p 0 = cutS s p ∧ tT s p 0 = ((cutP s p : Nat) : Int) ∧ tE s p 0 = 0 := by
  unfold tS tT tE
  rw [if_pos rfl, if_pos rfl, if_pos rfl]
  refine ⟨rfl, ?_, h⟩
  unfold cutP cutT
  rw [if_pos h]
  have := getN_2 s p
  omega
theorem t_bad (s : ByteArray) (p : Nat) (h : cutE s p ≠ 0) : tE s p 0 ≠ 0 := by
  unfold tE
  rw [if_pos rfl]; exact h
theorem t_sticky (s : ByteArray) (p x : Int) (h : x ≠ 0) : tE s p x ≠ 0 := by
  unfold tE
  rw [if_neg h]; exact h
theorem getN_u64 (s : ByteArray) (p k : Int) : 0 ≤ getN s p k ∧ getN s p k ≤ 18446744073709551615 := by
  unfold getN
  split
  · rename_i h
    obtain ⟨h1, h2, _, _⟩ := getE_ok h
    have := getL_8 s p.toNat k.toNat (by omega)
    omega
  · omega
theorem nN_u64 (s : ByteArray) (p x k : Int) : 0 ≤ nN s p x k ∧ nN s p x k ≤ 18446744073709551615 := by
  unfold nN
  split
  · exact getN_u64 s p k
  · omega
end Go.Proofs.Ytmanlogclbbgaaa
