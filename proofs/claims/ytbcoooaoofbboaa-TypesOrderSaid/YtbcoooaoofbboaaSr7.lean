/- slices.order2Ordered, medianOrdered, medianAdjacentOrdered at numbers of 32 bits. -/
import Derived.Test.YtbcoooaoofbboaaSr2
namespace Go.Proofs.Ytbcoooaoofbboaa
open Go.RowKit Go.Sort
set_option linter.unusedVariables false
set_option linter.unusedSimpArgs false

/-- a row and a counter in a box of its own -/
def SrC (w0 : World) (g : Nat) (d : Array Int) (B s : Nat) (wr : World) : Prop := Srt w0 g d wr ∧ wr.heap[B]? = some (.cells #[.int .i64 (s : Int)] 3 (0, 0)) ∧ w0.heap.size ≤ B
theorem SrC.put {w0 : World} {g : Nat} {d : Array Int} {B s : Nat} {wr : World} (h : SrC w0 g d B s wr) (s' : Nat) : SrC w0 g d B s' (wr.setCell ⟨B, 0, none⟩ (.int .i64 (s' : Int))) :=
  ⟨h.1.new (p := ⟨B, 0, none⟩) h.2.2 _, block_set h.2.1 0 _, h.2.2⟩
theorem SrC.drewN {w0 : World} {g : Nat} {d : Array Int} {B s : Nat} {wr : World} (h : SrC w0 g d B s wr) (n : Nat) : SrC w0 g d B s (wr.drewN n) := ⟨h.1.drewN n, h.2⟩
set_option maxRecDepth 100000 in
set_option maxHeartbeats 2000000 in
theorem srOrd2 (g : Nat) (w0 : World) (d : Array Int) (n cap a b B s : Nat) (wr : World) (hS : SrC w0 g d B s wr) (hn : d.size = n) (ha : a < n) (hb : b < n) (hsz : n ≤ 1000000) (hs : s ≤ 100) :
    Calls Try.prog 73 #[.slice (some ⟨g, 0, none⟩) n cap, .int .i64 a, .int .i64 b, .pointer (some ⟨B, 0, none⟩)] wr fun e w' => e = .returned (.tuple #[.int .i64 ((order2 ltInt d a b s).1 : Nat), .int .i64 ((order2 ltInt d a b s).2.1 : Nat)]) ∧ SrC w0 g d B (order2 ltInt d a b s).2.2 w' := by
  have hO : order2 ltInt d a b s = if ltInt d[b]! d[a]! then (b, a, s + 1) else (a, b, s) := rfl
  have HN := Lib.hid hn
  have haI : (a : Int) < n := by omega
  have hbI : (b : Int) < n := by omega
  have hnI : (n : Int) ≤ 1000000 := by omega
  have hsI : (s : Int) ≤ 100 := by omega
  have pa := hS.1.cell (t := a) (by omega)
  have pb := hS.1.cell (t := b) (by omega)
  have HS := Lib.hid hS
  clear hn hS
  cases hL : ltInt d[b]! d[a]! with
  | false =>
    rw [hL] at hO
    rw [hO]
    clear hO
    go_enter Try.func73, Try.ntmps73
    go_wp2_with fail
    go_big_quiet (first | (go_at_call 62; refine Calls.quiet_of_same (srLess _ _ _)))
    have hs9 := HS.out.drewN nq
    clear HS pa pb
    rw [hL]
    go_wp2_with fail
    go_ret2
    exact ⟨rfl, hs9⟩
  | true =>
    rw [hL] at hO
    rw [hO]
    clear hO
    go_enter Try.func73, Try.ntmps73
    go_wp2_with fail
    go_big_quiet (first | (go_at_call 62; refine Calls.quiet_of_same (srLess _ _ _)))
    have hs8 := HS.out.drewN nq
    clear HS pa pb
    rw [hL]
    generalize hwq : wr.drewN nq = wq at hs8 ⊢
    clear hwq nq
    have c0 := below_cell (Below.refl _ wq) hs8.2.1 0 rfl
    have f0 := block_frozen hs8.2.1 0
    have hs9 := hs8.put (s + 1)
    have HS9 := Lib.hid hs9
    clear hs8 hs9
    go_wp2_with fail
    go_ret2
    exact ⟨rfl, HS9.out⟩
theorem ord2_lt {n : Nat} (d : Array Int) (a b s : Nat) (ha : a < n) (hb : b < n) : (order2 ltInt d a b s).1 < n ∧ (order2 ltInt d a b s).2.1 < n ∧ (order2 ltInt d a b s).2.2 ≤ s + 1 := by
  unfold order2
  split <;> exact ⟨by assumption, by assumption, by simp⟩
set_option maxRecDepth 100000 in
set_option maxHeartbeats 2000000 in
theorem srMed (g : Nat) (w0 : World) (d : Array Int) (n cap a b c B s : Nat) (wr : World) (hS : SrC w0 g d B s wr) (hn : d.size = n) (ha : a < n) (hb : b < n) (hc : c < n) (hsz : n ≤ 1000000) (hs : s ≤ 90) :
    Calls Try.prog 71 #[.slice (some ⟨g, 0, none⟩) n cap, .int .i64 a, .int .i64 b, .int .i64 c, .pointer (some ⟨B, 0, none⟩)] wr fun e w' => e = .returned (.int .i64 ((median ltInt d a b c s).1 : Nat)) ∧ SrC w0 g d B (median ltInt d a b c s).2 w' := by
  obtain ⟨R, hR⟩ : ∃ R, median ltInt d a b c s = R := ⟨_, rfl⟩
  rw [hR]
  have hl1 := ord2_lt d a b s ha hb
  have h1 := Lib.hid (fun u (hu : SrC w0 g d B s u) => srOrd2 g w0 d n cap a b B s u hu hn ha hb hsz (by omega))
  have hR1 : (let r2 := order2 ltInt d (order2 ltInt d a b s).2.1 c (order2 ltInt d a b s).2.2; let r3 := order2 ltInt d (order2 ltInt d a b s).1 r2.1 r2.2.2; (r3.2.1, r3.2.2)) = R := hR
  generalize order2 ltInt d a b s = r1 at h1 hl1 hR1
  have hl2 := ord2_lt d r1.2.1 c r1.2.2 hl1.2.1 hc
  have h2 := Lib.hid (fun u (hu : SrC w0 g d B r1.2.2 u) => srOrd2 g w0 d n cap r1.2.1 c B r1.2.2 u hu hn hl1.2.1 hc hsz (by omega))
  have hR2 : (let r3 := order2 ltInt d r1.1 (order2 ltInt d r1.2.1 c r1.2.2).1 (order2 ltInt d r1.2.1 c r1.2.2).2.2; (r3.2.1, r3.2.2)) = R := hR1
  generalize order2 ltInt d r1.2.1 c r1.2.2 = r2 at h2 hl2 hR2
  have h3 := Lib.hid (fun u (hu : SrC w0 g d B r2.2.2 u) => srOrd2 g w0 d n cap r1.1 r2.1 B r2.2.2 u hu hn hl1.1 hl2.1 hsz (by omega))
  have hR3 : ((order2 ltInt d r1.1 r2.1 r2.2.2).2.1, (order2 ltInt d r1.1 r2.1 r2.2.2).2.2) = R := hR2
  generalize order2 ltInt d r1.1 r2.1 r2.2.2 = r3 at h3 hR3
  obtain ⟨p1, p2, p3⟩ := r1
  obtain ⟨q1, q2, q3⟩ := r2
  obtain ⟨t1, t2, t3⟩ := r3
  subst hR3
  have HS := Lib.hid hS
  clear hR hR1 hR2 hl1 hl2 hn hS
  go_enter Try.func71, Try.ntmps71
  go_wp2_with fail
  refine (h1.out _ HS.out).mono ?_
  rintro e w1 ⟨rfl, hs1⟩
  have HS1 := Lib.hid hs1
  clear hs1 HS
  go_wp2_with fail
  refine (h2.out _ HS1.out).mono ?_
  rintro e w2 ⟨rfl, hs2⟩
  have HS2 := Lib.hid hs2
  clear hs2 HS1
  go_wp2_with fail
  refine (h3.out _ HS2.out).mono ?_
  rintro e w3 ⟨rfl, hs3⟩
  clear HS2
  go_wp2_with fail
  go_ret
  exact ⟨rfl, hs3⟩
set_option maxRecDepth 100000 in
set_option maxHeartbeats 2000000 in
theorem srAdj (g : Nat) (w0 : World) (d : Array Int) (n cap a B s : Nat) (wr : World) (hS : SrC w0 g d B s wr) (hn : d.size = n) (ha0 : 1 ≤ a) (ha : a + 1 < n) (hsz : n ≤ 1000000) (hs : s ≤ 90) :
    Calls Try.prog 70 #[.slice (some ⟨g, 0, none⟩) n cap, .int .i64 a, .pointer (some ⟨B, 0, none⟩)] wr fun e w' => e = .returned (.int .i64 ((medianAdjacent ltInt d a s).1 : Nat)) ∧ SrC w0 g d B (medianAdjacent ltInt d a s).2 w' := by
  obtain ⟨a1, rfl⟩ : ∃ a1, a = a1 + 1 := ⟨a - 1, by omega⟩
  have h := srMed g w0 d n cap a1 (a1 + 1) (a1 + 1 + 1) B s wr hS hn (by omega) (by omega) (by omega) hsz hs
  have hm : medianAdjacent ltInt d (a1 + 1) s = median ltInt d a1 (a1 + 1) (a1 + 1 + 1) s := rfl
  rw [hm]
  have H := Lib.hid h
  have haI : (a1 : Int) + 1 + 1 < n := by omega
  have hnI : (n : Int) ≤ 1000000 := by omega
  clear h hS hm
  generalize median ltInt d a1 (a1 + 1) (a1 + 1 + 1) s = R at H ⊢
  obtain ⟨r1, r2⟩ := R
  go_enter Try.func70, Try.ntmps70
  go_wp2_with fail
  refine Calls.mono (by exact H.out) ?_
  rintro e w3 ⟨rfl, hs3⟩
  go_wp2_with fail
  go_ret
  exact ⟨rfl, hs3⟩
end Go.Proofs.Ytbcoooaoofbboaa
