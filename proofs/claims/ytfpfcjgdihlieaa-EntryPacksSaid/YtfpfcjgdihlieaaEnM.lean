/- The reference's reader: an entry. -/
import Derived.Test.YtfpfcjgdihlieaaEnN
import Derived.Test.YtfpfcjgdihlieaaEnE
namespace Go.Proofs.Ytfpfcjgdihlieaa
open Go.RowKit
set_option linter.unusedVariables false

/-- what the reference's reader has read -/
def ReadPost (R : Nat) (s : ByteArray) (o : Option (En × Nat)) (w : World) (e : Ending) (w' : World) : Prop :=
  match o with
  | some (en, q) => ∃ k, e = .returned (.agg #[.string en.name, .int .i64 en.cur, .int .i64 en.nxt, k]) ∧ w'.ownsRow w.heap.size 42 5 k en.vers.length (vrCells en.vers) ∧ RdR R s q 0 w' ∧ w.grownBy w' (some R)
  | none => ∃ (nm : ByteArray) (c n : Int) (ka : Option Addr) (kn kc : Nat) (p x : Int), e = .returned (.agg #[.string nm, .int .i64 c, .int .i64 n, .slice ka kn kc]) ∧ x ≠ 0 ∧ RdR R s p x w' ∧ w.grownBy w' (some R)
theorem own_put {w : World} {base : Nat} {e : TypeId} {size : Nat} {v : Value} {n : Nat} {xs : List Value} (h : w.ownsRow base e size v n xs) {B : Nat} (hB : v.ownBlock ≠ some B) (i : Nat) (x : Value) : (w.setCell ⟨B, i, none⟩ x).ownsRow base e size v n xs :=
  h.kept (row := some B) ⟨rfl, rfl, rfl, by simp [World.setCell], fun k _ hk => Below.heap_setCell _ _ _ _ (fun e => hk (by simp [e]))⟩ (.inr hB)
theorem u64_i64 (g : Int) (h : 0 ≤ g ∧ g ≤ 65535) : IntKind.i64.wrap g = g := by simp [IntKind.wrap, IntKind.signed, IntKind.bits]; omega
theorem five (s : ByteArray) (P : Nat) (m1 m2 m3 m4 m5 q1 q2 q3 q4 q5 y1 y2 y3 y4 y5 : Int)
    (hm1 : nN s P 0 2 = m1) (hq1 : nT s P 0 2 = q1) (hy1 : nE s P 0 2 = y1)
    (hm2 : nN s q1 y1 2 = m2) (hq2 : nT s q1 y1 2 = q2) (hy2 : nE s q1 y1 2 = y2)
    (hm3 : nN s q2 y2 2 = m3) (hq3 : nT s q2 y2 2 = q3) (hy3 : nE s q2 y2 2 = y3)
    (hm4 : nN s q3 y3 2 = m4) (hq4 : nT s q3 y3 2 = q4) (hy4 : nE s q3 y3 2 = y4)
    (hm5 : nN s q4 y4 2 = m5) (hq5 : nT s q4 y4 2 = q5) (hy5 : nE s q4 y4 2 = y5) :
    (P + 10 ≤ s.size → y5 = 0 ∧ q5 = ((P + 10 : Nat) : Int) ∧ m1 = numA s P 2 ∧ m2 = numA s (P + 2) 2 ∧ m3 = numA s (P + 4) 2 ∧ m4 = numA s (P + 6) 2 ∧ m5 = numA s (P + 8) 2) ∧ (¬ P + 10 ≤ s.size → y5 ≠ 0) := by
  have ok : ∀ (a : Nat) (m q y : Int), nN s (a : Nat) 0 2 = m → nT s (a : Nat) 0 2 = q → nE s (a : Nat) 0 2 = y → a + 2 ≤ s.size → m = numA s a 2 ∧ q = ((a + 2 : Nat) : Int) ∧ y = 0 := by
    intro a m q y h1 h2 h3 h
    obtain ⟨u1, u2, u3⟩ := n_ok s a 2 (by omega) (by omega) h
    exact ⟨h1.symm.trans u1, h2.symm.trans u2, h3.symm.trans u3⟩
  have bad : ∀ (a : Nat) (y : Int), nE s (a : Nat) 0 2 = y → ¬ a + 2 ≤ s.size → y ≠ 0 := fun a y h1 h => h1 ▸ n_bad s a 2 h
  have stick : ∀ (a x y : Int), nE s a x 2 = y → x ≠ 0 → y ≠ 0 := fun a x y h1 h => h1 ▸ n_sticky s a x 2 h
  by_cases h1 : P + 2 ≤ s.size
  case neg => exact ⟨fun h => by omega, fun _ => stick _ _ _ hy5 (stick _ _ _ hy4 (stick _ _ _ hy3 (stick _ _ _ hy2 (bad _ _ hy1 h1))))⟩
  obtain ⟨a1, b1, c1⟩ := ok P m1 q1 y1 hm1 hq1 hy1 h1
  subst b1 c1
  by_cases h2 : P + 2 + 2 ≤ s.size
  case neg => exact ⟨fun h => by omega, fun _ => stick _ _ _ hy5 (stick _ _ _ hy4 (stick _ _ _ hy3 (bad _ _ hy2 h2)))⟩
  obtain ⟨a2, b2, c2⟩ := ok (P + 2) m2 q2 y2 hm2 hq2 hy2 h2
  subst b2 c2
  by_cases h3 : P + 2 + 2 + 2 ≤ s.size
  case neg => exact ⟨fun h => by omega, fun _ => stick _ _ _ hy5 (stick _ _ _ hy4 (bad _ _ hy3 h3))⟩
  obtain ⟨a3, b3, c3⟩ := ok (P + 2 + 2) m3 q3 y3 hm3 hq3 hy3 h3
  subst b3 c3
  by_cases h4 : P + 2 + 2 + 2 + 2 ≤ s.size
  case neg => exact ⟨fun h => by omega, fun _ => stick _ _ _ hy5 (bad _ _ hy4 h4)⟩
  obtain ⟨a4, b4, c4⟩ := ok (P + 2 + 2 + 2) m4 q4 y4 hm4 hq4 hy4 h4
  subst b4 c4
  by_cases h5 : P + 2 + 2 + 2 + 2 + 2 ≤ s.size
  case neg => exact ⟨fun h => by omega, fun _ => bad _ _ hy5 h5⟩
  obtain ⟨a5, b5, c5⟩ := ok (P + 2 + 2 + 2 + 2) m5 q5 y5 hm5 hq5 hy5 h5
  refine ⟨fun _ => ⟨c5, by rw [b5], a1, a2, a3, a4, a5⟩, fun h => by omega⟩
set_option maxRecDepth 100000 in
set_option maxHeartbeats 4000000 in
theorem refRead (s : ByteArray) (p R : Nat) (w : World) (h : RdR R s p 0 w) (hs : s.size ≤ 3000) (hpp : p ≤ 1000000) :
    Calls Try.prog 27 #[.pointer (some ⟨R, 0, none⟩)] w (ReadPost R s (prEnt s p) w) := by
  obtain ⟨iI, hNI, hzI0, hzI1, hzI2⟩ := info_parts infoVr
  have hRw : R < w.heap.size := lt_of_block h
  have hal := (Below.refl w.heap.size w).alloc (Nat.le_refl _) (.cells #[.string ⟨#[]⟩, .int .i64 0, .int .i64 0, .slice none 0 0] 36)
  have hrd1 : RdR R s p 0 (w.alloc (.cells #[.string ⟨#[]⟩, .int .i64 0, .int .i64 0, .slice none 0 0] 36)) := (hal.block R hRw).trans h
  have hg1 := grown_below R hal
  have hZ1 := heap_alloc_new w (.cells #[.string ⟨#[]⟩, .int .i64 0, .int .i64 0, .slice none 0 0] 36)
  have HZ := Lib.hid hZ1; have HG := Lib.hid hg1
  clear hal hZ1 hg1 h
  -- the text
  have hT1 : cutT s p ≤ 1000000 ∧ 0 ≤ cutT s p := by
    have := getN_2 s p
    unfold cutT
    split
    · rename_i hc
      unfold cutE at hc
      split at hc
      · rename_i hh; exact absurd hc hh
      · split at hc
        · omega
        · cases hc
    · omega
  have hfacts : (cutE s p ≠ 0 → prEnt s p = none) ∧ (cutE s p = 0 → prEnt s p = (if (cutT s p).toNat + 5 ≤ s.size then (if (cutT s p).toNat + 5 + 10 * getL (cutL s ((cutT s p).toNat + 4) 1) ≤ s.size then some (⟨cutS s p, numA s (cutT s p).toNat 2, numA s ((cutT s p).toNat + 2) 2, versL s ((cutT s p).toNat + 5) (getL (cutL s ((cutT s p).toNat + 4) 1))⟩, (cutT s p).toNat + 5 + 10 * getL (cutL s ((cutT s p).toNat + 4) 1)) else none) else none)) :=
    ⟨fun h => by unfold prEnt; rw [if_neg h], fun h => by unfold prEnt; rw [if_pos h]⟩
  have HT := Lib.hid (fun u hu => rText_any s p R u hu hs (by omega))
  generalize prEnt s p = PR at *
  generalize cutS s p = name at *
  generalize cutE s p = x0 at *
  generalize cutT s p = t0 at *
  obtain ⟨hT2, hT3⟩ := hT1
  obtain ⟨a1, ha1⟩ := Int.eq_ofNat_of_zero_le hT3
  subst ha1
  simp only [Int.toNat_natCast] at hfacts
  -- the three numbers behind it
  obtain ⟨g1, hg1⟩ : ∃ g1, nN s a1 x0 2 = g1 := ⟨_, rfl⟩
  obtain ⟨p1, hp1⟩ : ∃ p1, nT s a1 x0 2 = p1 := ⟨_, rfl⟩
  obtain ⟨x1, hx1⟩ : ∃ x1, nE s a1 x0 2 = x1 := ⟨_, rfl⟩
  obtain ⟨g2, hg2⟩ : ∃ g2, nN s p1 x1 2 = g2 := ⟨_, rfl⟩
  obtain ⟨p2, hp2⟩ : ∃ p2, nT s p1 x1 2 = p2 := ⟨_, rfl⟩
  obtain ⟨x2, hx2⟩ : ∃ x2, nE s p1 x1 2 = x2 := ⟨_, rfl⟩
  obtain ⟨g3, hg3⟩ : ∃ g3, nN s p2 x2 1 = g3 := ⟨_, rfl⟩
  obtain ⟨p3, hp3⟩ : ∃ p3, nT s p2 x2 1 = p3 := ⟨_, rfl⟩
  obtain ⟨x3, hx3⟩ : ∃ x3, nE s p2 x2 1 = x3 := ⟨_, rfl⟩
  have k1 : 0 ≤ g1 ∧ g1 ≤ 65535 := by rw [← hg1]; exact nN_small _ _ _ _ (by omega)
  have k2 : 0 ≤ g2 ∧ g2 ≤ 65535 := by rw [← hg2]; exact nN_small _ _ _ _ (by omega)
  have k3 : 0 ≤ g3 ∧ g3 ≤ 65535 := by rw [← hg3]; exact nN_small _ _ _ _ (by omega)
  have l1 : p1 ≤ 1000000 := by rw [← hp1]; exact nT_le _ _ _ _ hs hT2
  have l2 : p2 ≤ 1000000 := by rw [← hp2]; exact nT_le _ _ _ _ hs l1
  have l3 : p3 ≤ 1000000 := by rw [← hp3]; exact nT_le _ _ _ _ hs l2
  have HN1 := Lib.hid (fun u hu => rNext s a1 x0 2 R u hu hs hT2)
  have HN2 := Lib.hid (fun u hu => rNext s p1 x1 2 R u hu hs l1)
  have HN3 := Lib.hid (fun u hu => rNext s p2 x2 1 R u hu hs l2)
  rw [hg1, hp1, hx1] at HN1
  rw [hg2, hp2, hx2] at HN2
  rw [hg3, hp3, hx3] at HN3
  obtain ⟨c, hc⟩ := Int.eq_ofNat_of_zero_le k3.1
  -- what is known then
  have hknown : (x3 ≠ 0 ∧ PR = none) ∨ (x3 = 0 ∧ p3 = ((a1 + 5 + 10 * 0 : Nat) : Int) ∧ a1 + 5 ≤ s.size ∧ PR = if a1 + 5 + 10 * c ≤ s.size then some (⟨name, g1, g2, versL s (a1 + 5) c⟩, a1 + 5 + 10 * c) else none) := by
    by_cases h0 : x0 = 0
    · subst h0
      have hPR := hfacts.2 rfl
      by_cases q1 : a1 + 2 ≤ s.size
      · obtain ⟨u1, u2, u3⟩ := n_ok s a1 2 (by omega) (by omega) q1
        have u1 : nN s a1 0 2 = numA s a1 2 := u1
        have u2 : nT s a1 0 2 = ((a1 + 2 : Nat) : Int) := u2
        have u3 : nE s a1 0 2 = 0 := u3
        rw [u1] at hg1; rw [u2] at hp1; rw [u3] at hx1
        subst hp1 hx1
        by_cases q2 : a1 + 2 + 2 ≤ s.size
        · obtain ⟨u1, u2, u3⟩ := n_ok s (a1 + 2) 2 (by omega) (by omega) q2
          have u1 : nN s ((a1 + 2 : Nat) : Int) 0 2 = numA s (a1 + 2) 2 := u1
          have u2 : nT s ((a1 + 2 : Nat) : Int) 0 2 = ((a1 + 2 + 2 : Nat) : Int) := u2
          have u3 : nE s ((a1 + 2 : Nat) : Int) 0 2 = 0 := u3
          rw [u1] at hg2; rw [u2] at hp2; rw [u3] at hx2
          subst hp2 hx2
          by_cases q3 : a1 + 2 + 2 + 1 ≤ s.size
          · obtain ⟨u1, u2, u3⟩ := n_ok s (a1 + 2 + 2) 1 (by omega) (by omega) q3
            have u1 : nN s ((a1 + 2 + 2 : Nat) : Int) 0 1 = numA s (a1 + 2 + 2) 1 := u1
            have u2 : nT s ((a1 + 2 + 2 : Nat) : Int) 0 1 = ((a1 + 2 + 2 + 1 : Nat) : Int) := u2
            have u3 : nE s ((a1 + 2 + 2 : Nat) : Int) 0 1 = 0 := u3
            rw [u1] at hg3; rw [u2] at hp3; rw [u3] at hx3
            have hcc : getL (cutL s (a1 + 4) 1) = c := by
              have : (getL (cutL s (a1 + 2 + 2) 1) : Int) = c := by rw [← hc, ← hg3]; rfl
              rw [show a1 + 4 = a1 + 2 + 2 by omega]; omega
            refine .inr ⟨hx3.symm, by rw [← hp3] <;> omega, by omega, ?_⟩
            rw [hPR, if_pos (by omega), hcc, hg1, hg2]
          · refine .inl ⟨?_, by rw [hPR, if_neg (by omega)]⟩
            rw [← hx3]; exact n_bad s (a1 + 2 + 2) 1 q3
        · refine .inl ⟨?_, by rw [hPR, if_neg (by omega)]⟩
          rw [← hx3]
          refine n_sticky _ _ _ _ ?_
          rw [← hx2]; exact n_bad s (a1 + 2) 2 q2
      · refine .inl ⟨?_, by rw [hPR, if_neg (by omega)]⟩
        rw [← hx3]
        refine n_sticky _ _ _ _ ?_
        rw [← hx2]
        refine n_sticky _ _ _ _ ?_
        rw [← hx1]; exact n_bad s a1 2 q1
    · refine .inl ⟨?_, hfacts.1 h0⟩
      rw [← hx3]
      refine n_sticky _ _ _ _ ?_
      rw [← hx2]
      refine n_sticky _ _ _ _ ?_
      rw [← hx1]
      exact n_sticky _ _ _ _ h0
  have HK := Lib.hid hknown
  have hw1 := u64_i64 g1 k1
  have hw2 := u64_i64 g2 k2
  have hw3 := u64_i64 g3 k3
  subst hc
  clear hknown hfacts hg1 hp1 hx1 hg2 hp2 hx2 hg3 hp3 hx3 hT3
  go_enter Try.func27, Try.ntmps27
  go_wp2_with fail
  refine (HT.out _ hrd1).mono ?_
  rintro e' w2 ⟨rfl, hrd2, hg2⟩
  have HG2 := Lib.hid (grown_trans HG.out hg2)
  have HZ2 := Lib.hid ((hg2.block _ (lt_of_block HZ.out) (fun e => absurd (Option.some.inj e) (by omega))).trans HZ.out)
  clear hg2 HG HT HZ
  go_upto_region 2 with fail
  have HG3 := Lib.hid (grown_alloc HG2.out (.cells #[.string name, .int .i64 0, .int .i64 0, .slice none 0 0] 36))
  have hrd3 : RdR R s a1 x0 (w2.alloc (.cells #[.string name, .int .i64 0, .int .i64 0, .slice none 0 0] 36)) := (heap_alloc_old w2 _ (lt_of_block hrd2)).trans hrd2
  have HZ3 := Lib.hid ((heap_alloc_old w2 (.cells #[.string name, .int .i64 0, .int .i64 0, .slice none 0 0] 36) (lt_of_block HZ2.out)).trans HZ2.out)
  have HE3 := Lib.hid (heap_alloc_new w2 (.cells #[.string name, .int .i64 0, .int .i64 0, .slice none 0 0] 36))
  have hwE : w.heap.size < w2.heap.size := lt_of_block HZ2.out
  clear HG2 HZ2 hrd2 hrd1
  obtain ⟨w3, hW⟩ : ∃ w3, w2.alloc (.cells #[.string name, .int .i64 0, .int .i64 0, .slice none 0 0] 36) = w3 := ⟨_, rfl⟩
  obtain ⟨E, hEE⟩ : ∃ E, w2.heap.size = E := ⟨_, rfl⟩
  have hBv : w3.heap.size = E + 1 := by rw [← hW, World.size_alloc, hEE]
  rw [hW] at HG3 hrd3 HZ3 HE3 ⊢
  rw [hEE] at HE3 hwE
  (try rw [hEE])
  clear hW hEE
  have hER : E ≠ R := by omega
  have hZR : w.heap.size ≠ R := by omega
  -- cur
  go_wp2_with fail
  refine (HN1.out _ hrd3).mono ?_
  rintro e' w4 ⟨rfl, hrd4, hg4⟩
  have HE4 := (hg4.block E (lt_of_block HE3.out) (fun e => hER (Option.some.inj e))).trans HE3.out
  have HZ4 := (hg4.block _ (lt_of_block HZ3.out) (fun e => hZR (Option.some.inj e))).trans HZ3.out
  have f4 := block_frozen HE4 1
  have e4 := below_cell (Below.refl _ w4) HE4 1 rfl
  have HE5 := Lib.hid (block_set HE4 1 (.int .i64 g1))
  have HZ5 := Lib.hid ((Below.heap_setCell w4 ⟨E, 1, none⟩ (.int .i64 g1) w.heap.size (by show w.heap.size ≠ E; omega)).trans HZ4)
  have HG5 := Lib.hid (grown_new (grown_trans HG3.out hg4) (E := E) (by omega) 1 (.int .i64 g1))
  have hrd5 : RdR R s p1 x1 (w4.setCell ⟨E, 1, none⟩ (.int .i64 g1)) := (Below.heap_setCell w4 ⟨E, 1, none⟩ (.int .i64 g1) R (by show R ≠ E; omega)).trans hrd4
  have hz5 : E + 1 ≤ (w4.setCell ⟨E, 1, none⟩ (.int .i64 g1)).heap.size := by rw [World.size_setCell]; have := hg4.size; omega
  clear hg4 HE4 HZ4 hrd4 HG3 HZ3 HE3 hrd3 hBv HN1
  go_upto_region 3 with fail
  obtain ⟨w5, hW⟩ : ∃ w5, w4.setCell ⟨E, 1, none⟩ (.int .i64 g1) = w5 := ⟨_, rfl⟩
  rw [hW] at HE5 HZ5 HG5 hrd5 hz5 ⊢
  clear hW f4 e4
  -- next
  go_wp2_with fail
  refine (HN2.out _ hrd5).mono ?_
  rintro e' w6 ⟨rfl, hrd6, hg6⟩
  have HE6 := (hg6.block E (lt_of_block HE5.out) (fun e => hER (Option.some.inj e))).trans HE5.out
  have HZ6 := (hg6.block _ (lt_of_block HZ5.out) (fun e => hZR (Option.some.inj e))).trans HZ5.out
  have f6 := block_frozen HE6 2
  have e6 := below_cell (Below.refl _ w6) HE6 2 rfl
  have HE7 := Lib.hid (block_set HE6 2 (.int .i64 g2))
  have HZ7 := Lib.hid ((Below.heap_setCell w6 ⟨E, 2, none⟩ (.int .i64 g2) w.heap.size (by show w.heap.size ≠ E; omega)).trans HZ6)
  have HG7 := Lib.hid (grown_new (grown_trans HG5.out hg6) (E := E) (by omega) 2 (.int .i64 g2))
  have hrd7 : RdR R s p2 x2 (w6.setCell ⟨E, 2, none⟩ (.int .i64 g2)) := (Below.heap_setCell w6 ⟨E, 2, none⟩ (.int .i64 g2) R (by show R ≠ E; omega)).trans hrd6
  have hz7 : E + 1 ≤ (w6.setCell ⟨E, 2, none⟩ (.int .i64 g2)).heap.size := by rw [World.size_setCell]; have := hg6.size; omega
  clear hg6 HE6 HZ6 hrd6 HG5 HZ5 HE5 hrd5 hz5 HN2
  go_upto_region 4 with fail
  obtain ⟨w7, hW⟩ : ∃ w7, w6.setCell ⟨E, 2, none⟩ (.int .i64 g2) = w7 := ⟨_, rfl⟩
  rw [hW] at HE7 HZ7 HG7 hrd7 hz7 ⊢
  clear hW f6 e6
  -- how many
  go_wp2_with fail
  refine (HN3.out _ hrd7).mono ?_
  rintro e' w8 ⟨rfl, hrd8, hg8⟩
  have HE8 := Lib.hid ((hg8.block E (lt_of_block HE7.out) (fun e => hER (Option.some.inj e))).trans HE7.out)
  have HZ8 := Lib.hid ((hg8.block _ (lt_of_block HZ7.out) (fun e => hZR (Option.some.inj e))).trans HZ7.out)
  have HG8 := Lib.hid (grown_trans HG7.out hg8)
  have hz8 := Nat.le_trans hz7 hg8.size
  have HO8 := Lib.hid (World.ownsRow_nil w8 (E + 1) 42 5)
  clear hg8 HG7 HZ7 HE7 hrd7 hz7 HN3
  go_wp2_with fail
  go_loopw [5] (fun z wr => ∃ (j : Nat) (tv : Value) (p x : Int) (ys : List Value), j ≤ c ∧ z = .int .i64 j ∧ RdR R s p x wr ∧ E + 1 ≤ wr.heap.size ∧
      Hid ((x ≠ 0 ∧ PR = none) ∨ (x = 0 ∧ p = ((a1 + 5 + 10 * j : Nat) : Int) ∧ a1 + 5 + 10 * j ≤ s.size ∧ (PR = if a1 + 5 + 10 * c ≤ s.size then some (⟨name, g1, g2, versL s (a1 + 5) c⟩, a1 + 5 + 10 * c) else none) ∧ ys = vrCells (versL s (a1 + 5) j))) ∧
      Hid (w.grownBy wr (some R)) ∧ Hid (wr.heap[w.heap.size]? = some (.cells #[.string ⟨#[]⟩, .int .i64 0, .int .i64 0, .slice none 0 0] 36 (0, 0))) ∧ Hid (wr.heap[E]? = some (.cells #[.string name, .int .i64 g1, .int .i64 g2, tv] 36 (0, 0))) ∧ Hid (wr.ownsRow (E + 1) 42 5 tv j ys)) (fun z _ => c - (intOf z).toNat)
  case atStart => exact ⟨0, _, p3, x3, [], Nat.zero_le _, rfl, hrd8, hz8, Lib.hid (by
    rcases HK.out with h | ⟨h1, h2, h3, h4⟩
    · exact .inl h
    · exact .inr ⟨h1, h2, h3, h4, rfl⟩), HG8, HZ8, HE8, HO8⟩
  case round =>
    clear HG8 HZ8 HE8 HO8 hrd8 hz8 HK l3 l2 l1
    obtain ⟨j, tv, p, x, ys, hjc, rfl, hrd, hz, HK, hG, hZ, hE, hO⟩ := hrel
    obtain ⟨ta, tc, rfl, _⟩ := own_formS hO.out
    have cR := below_cell (Below.refl _ wr) (show wr.heap[R]? = _ from hrd) 2 rfl
    have hrd' := Lib.hid hrd
    by_cases hgo : j < c ∧ x = 0
    · obtain ⟨hlt, rfl⟩ := hgo
      have hltI : (j : Int) < c := by omega
      obtain ⟨hp0, hpos, hPR, hys⟩ : p = ((a1 + 5 + 10 * j : Nat) : Int) ∧ a1 + 5 + 10 * j ≤ s.size ∧ (PR = if a1 + 5 + 10 * c ≤ s.size then some (⟨name, g1, g2, versL s (a1 + 5) c⟩, a1 + 5 + 10 * c) else none) ∧ ys = vrCells (versL s (a1 + 5) j) := by
        rcases HK.out with ⟨h, _⟩ | ⟨_, h⟩
        · exact absurd rfl h
        · exact h
      obtain ⟨P0, hP0⟩ : ∃ P0, a1 + 5 + 10 * j = P0 := ⟨_, rfl⟩
      rw [hP0] at hp0 hpos
      subst hp0
      obtain ⟨m1, hm1⟩ : ∃ m, nN s (P0 : Nat) 0 2 = m := ⟨_, rfl⟩
      obtain ⟨q1, hq1⟩ : ∃ q, nT s (P0 : Nat) 0 2 = q := ⟨_, rfl⟩
      obtain ⟨y1, hy1⟩ : ∃ y, nE s (P0 : Nat) 0 2 = y := ⟨_, rfl⟩
      obtain ⟨m2, hm2⟩ : ∃ m, nN s q1 y1 2 = m := ⟨_, rfl⟩
      obtain ⟨q2, hq2⟩ : ∃ q, nT s q1 y1 2 = q := ⟨_, rfl⟩
      obtain ⟨y2, hy2⟩ : ∃ y, nE s q1 y1 2 = y := ⟨_, rfl⟩
      obtain ⟨m3, hm3⟩ : ∃ m, nN s q2 y2 2 = m := ⟨_, rfl⟩
      obtain ⟨q3, hq3⟩ : ∃ q, nT s q2 y2 2 = q := ⟨_, rfl⟩
      obtain ⟨y3, hy3⟩ : ∃ y, nE s q2 y2 2 = y := ⟨_, rfl⟩
      obtain ⟨m4, hm4⟩ : ∃ m, nN s q3 y3 2 = m := ⟨_, rfl⟩
      obtain ⟨q4, hq4⟩ : ∃ q, nT s q3 y3 2 = q := ⟨_, rfl⟩
      obtain ⟨y4, hy4⟩ : ∃ y, nE s q3 y3 2 = y := ⟨_, rfl⟩
      obtain ⟨m5, hm5⟩ : ∃ m, nN s q4 y4 2 = m := ⟨_, rfl⟩
      obtain ⟨q5, hq5⟩ : ∃ q, nT s q4 y4 2 = q := ⟨_, rfl⟩
      obtain ⟨y5, hy5⟩ : ∃ y, nE s q4 y4 2 = y := ⟨_, rfl⟩
      have b1 : 0 ≤ m1 ∧ m1 ≤ 65535 := by rw [← hm1]; exact nN_small _ _ _ _ (by omega)
      have r1 : q1 ≤ 1000000 := by rw [← hq1]; exact nT_le _ _ _ _ hs (by omega)
      have HM1 := Lib.hid (fun u hu => rNext s (P0 : Nat) 0 2 R u hu hs (by omega))
      rw [hm1, hq1, hy1] at HM1
      have v1 := u64_i64 m1 b1
      have b2 : 0 ≤ m2 ∧ m2 ≤ 65535 := by rw [← hm2]; exact nN_small _ _ _ _ (by omega)
      have r2 : q2 ≤ 1000000 := by rw [← hq2]; exact nT_le _ _ _ _ hs r1
      have HM2 := Lib.hid (fun u hu => rNext s q1 y1 2 R u hu hs r1)
      rw [hm2, hq2, hy2] at HM2
      have v2 := u64_i64 m2 b2
      have b3 : 0 ≤ m3 ∧ m3 ≤ 65535 := by rw [← hm3]; exact nN_small _ _ _ _ (by omega)
      have r3 : q3 ≤ 1000000 := by rw [← hq3]; exact nT_le _ _ _ _ hs r2
      have HM3 := Lib.hid (fun u hu => rNext s q2 y2 2 R u hu hs r2)
      rw [hm3, hq3, hy3] at HM3
      have v3 := u64_i64 m3 b3
      have b4 : 0 ≤ m4 ∧ m4 ≤ 65535 := by rw [← hm4]; exact nN_small _ _ _ _ (by omega)
      have r4 : q4 ≤ 1000000 := by rw [← hq4]; exact nT_le _ _ _ _ hs r3
      have HM4 := Lib.hid (fun u hu => rNext s q3 y3 2 R u hu hs r3)
      rw [hm4, hq4, hy4] at HM4
      have v4 := u64_i64 m4 b4
      have b5 : 0 ≤ m5 ∧ m5 ≤ 65535 := by rw [← hm5]; exact nN_small _ _ _ _ (by omega)
      have r5 : q5 ≤ 1000000 := by rw [← hq5]; exact nT_le _ _ _ _ hs r4
      have HM5 := Lib.hid (fun u hu => rNext s q4 y4 2 R u hu hs r4)
      rw [hm5, hq5, hy5] at HM5
      have v5 := u64_i64 m5 b5
      have hfive := five s P0 m1 m2 m3 m4 m5 q1 q2 q3 q4 q5 y1 y2 y3 y4 y5 hm1 hq1 hy1 hm2 hq2 hy2 hm3 hq3 hy3 hm4 hq4 hy4 hm5 hq5 hy5
      have HF := Lib.hid hfive; have HP0 := Lib.hid hP0; have HPR := Lib.hid hPR; have HYS := Lib.hid hys
      clear hm1 hq1 hy1 hm2 hq2 hy2 hm3 hq3 hy3 hm4 hq4 hy4 hm5 hq5 hy5 hfive hP0 hPR hys HK
      have hal := (Below.refl wr.heap.size wr).alloc (Nat.le_refl _) (.cells #[.int .i64 0, .int .i64 0, .int .i64 0, .int .i64 0, .int .i64 0] 42)
      have hV0 := Lib.hid (heap_alloc_new wr (.cells #[.int .i64 0, .int .i64 0, .int .i64 0, .int .i64 0, .int .i64 0] 42))
      have hE0 := Lib.hid ((hal.block E (lt_of_block hE.out)).trans hE.out)
      have hZ0 := Lib.hid ((hal.block _ (lt_of_block hZ.out)).trans hZ.out)
      have hO0 := Lib.hid (own_stay hO.out hal)
      have hG0 := Lib.hid (grown_alloc hG.out (.cells #[.int .i64 0, .int .i64 0, .int .i64 0, .int .i64 0, .int .i64 0] 42))
      have hrd0 : RdR R s P0 0 (wr.alloc (.cells #[.int .i64 0, .int .i64 0, .int .i64 0, .int .i64 0, .int .i64 0] 42)) := (hal.block R (lt_of_block hrd)).trans hrd
      have hz0 := Nat.le_trans hz hal.size
      have hOlt := fun k hk => (hO.out.lt k hk).2
      have hVz : E + 1 ≤ wr.heap.size := hz
      clear hal
      go_upto_region 9 with fail
      obtain ⟨V, hV⟩ : ∃ V, wr.heap.size = V := ⟨_, rfl⟩
      obtain ⟨u0, hW⟩ : ∃ u0, wr.alloc (.cells #[.int .i64 0, .int .i64 0, .int .i64 0, .int .i64 0, .int .i64 0] 42) = u0 := ⟨_, rfl⟩
      rw [hW] at hV0 hE0 hZ0 hO0 hG0 hrd0 hz0 ⊢
      rw [hV] at hV0 hOlt hVz
      (try rw [hV])
      clear hW hV cR hrd hrd' hE hZ hO hG hz
      have hVR : V ≠ R := by omega
      have hOV : ∀ {u : World} {b e2 sz n : Nat} {xs : List Value}, u.ownsRow b e2 sz (.slice ta j tc) n xs → (.slice ta j tc : Value).ownBlock ≠ some V := fun _ he => absurd (hOlt V he) (by omega)
      go_wp2_with fail
      refine (HM1.out _ hrd0).mono ?_
      rintro e' wn1 ⟨rfl, hrn, hgn⟩
      have hVn := (hgn.block V (lt_of_block hV0.out) (fun e => hVR (Option.some.inj e))).trans hV0.out
      have hEn := (hgn.block E (lt_of_block hE0.out) (fun e => hER (Option.some.inj e))).trans hE0.out
      have hZn := (hgn.block _ (lt_of_block hZ0.out) (fun e => hZR (Option.some.inj e))).trans hZ0.out
      have hOn := World.ownsRow.kept hO0.out hgn (.inr (fun e => absurd (hO0.out.lt R e).1 (by omega)))
      have fn := block_frozen hVn 0
      have cn := below_cell (Below.refl _ wn1) hVn 0 rfl
      have hV1 := Lib.hid (block_set hVn 0 (.int .i64 m1))
      have hE1 := Lib.hid ((Below.heap_setCell wn1 ⟨V, 0, none⟩ (.int .i64 m1) E (by show E ≠ V; omega)).trans hEn)
      have hZ1 := Lib.hid ((Below.heap_setCell wn1 ⟨V, 0, none⟩ (.int .i64 m1) w.heap.size (by show w.heap.size ≠ V; omega)).trans hZn)
      have hO1 := Lib.hid (own_put hOn (hOV hOn) 0 (.int .i64 m1))
      have hG1 := Lib.hid (grown_new (grown_trans hG0.out hgn) (E := V) (by omega) 0 (.int .i64 m1))
      have hrd1 : RdR R s q1 y1 (wn1.setCell ⟨V, 0, none⟩ (.int .i64 m1)) := (Below.heap_setCell wn1 ⟨V, 0, none⟩ (.int .i64 m1) R (by show R ≠ V; omega)).trans hrn
      have hz1 : E + 1 ≤ (wn1.setCell ⟨V, 0, none⟩ (.int .i64 m1)).heap.size := by rw [World.size_setCell]; exact Nat.le_trans hz0 hgn.size
      clear hgn hVn hEn hZn hOn hrn hV0 hE0 hZ0 hO0 hG0 hrd0 hz0 HM1
      go_upto_region 10 with fail
      obtain ⟨u1, hW⟩ : ∃ u1, wn1.setCell ⟨V, 0, none⟩ (.int .i64 m1) = u1 := ⟨_, rfl⟩
      rw [hW] at hV1 hE1 hZ1 hO1 hG1 hrd1 hz1 ⊢
      clear hW fn cn
      go_wp2_with fail
      refine (HM2.out _ hrd1).mono ?_
      rintro e' wn2 ⟨rfl, hrn, hgn⟩
      have hVn := (hgn.block V (lt_of_block hV1.out) (fun e => hVR (Option.some.inj e))).trans hV1.out
      have hEn := (hgn.block E (lt_of_block hE1.out) (fun e => hER (Option.some.inj e))).trans hE1.out
      have hZn := (hgn.block _ (lt_of_block hZ1.out) (fun e => hZR (Option.some.inj e))).trans hZ1.out
      have hOn := World.ownsRow.kept hO1.out hgn (.inr (fun e => absurd (hO1.out.lt R e).1 (by omega)))
      have fn := block_frozen hVn 1
      have cn := below_cell (Below.refl _ wn2) hVn 1 rfl
      have hV2 := Lib.hid (block_set hVn 1 (.int .i64 m2))
      have hE2 := Lib.hid ((Below.heap_setCell wn2 ⟨V, 1, none⟩ (.int .i64 m2) E (by show E ≠ V; omega)).trans hEn)
      have hZ2 := Lib.hid ((Below.heap_setCell wn2 ⟨V, 1, none⟩ (.int .i64 m2) w.heap.size (by show w.heap.size ≠ V; omega)).trans hZn)
      have hO2 := Lib.hid (own_put hOn (hOV hOn) 1 (.int .i64 m2))
      have hG2 := Lib.hid (grown_new (grown_trans hG1.out hgn) (E := V) (by omega) 1 (.int .i64 m2))
      have hrd2 : RdR R s q2 y2 (wn2.setCell ⟨V, 1, none⟩ (.int .i64 m2)) := (Below.heap_setCell wn2 ⟨V, 1, none⟩ (.int .i64 m2) R (by show R ≠ V; omega)).trans hrn
      have hz2 : E + 1 ≤ (wn2.setCell ⟨V, 1, none⟩ (.int .i64 m2)).heap.size := by rw [World.size_setCell]; exact Nat.le_trans hz1 hgn.size
      clear hgn hVn hEn hZn hOn hrn hV1 hE1 hZ1 hO1 hG1 hrd1 hz1 HM2
      go_upto_region 11 with fail
      obtain ⟨u2, hW⟩ : ∃ u2, wn2.setCell ⟨V, 1, none⟩ (.int .i64 m2) = u2 := ⟨_, rfl⟩
      rw [hW] at hV2 hE2 hZ2 hO2 hG2 hrd2 hz2 ⊢
      clear hW fn cn
      go_wp2_with fail
      refine (HM3.out _ hrd2).mono ?_
      rintro e' wn3 ⟨rfl, hrn, hgn⟩
      have hVn := (hgn.block V (lt_of_block hV2.out) (fun e => hVR (Option.some.inj e))).trans hV2.out
      have hEn := (hgn.block E (lt_of_block hE2.out) (fun e => hER (Option.some.inj e))).trans hE2.out
      have hZn := (hgn.block _ (lt_of_block hZ2.out) (fun e => hZR (Option.some.inj e))).trans hZ2.out
      have hOn := World.ownsRow.kept hO2.out hgn (.inr (fun e => absurd (hO2.out.lt R e).1 (by omega)))
      have fn := block_frozen hVn 2
      have cn := below_cell (Below.refl _ wn3) hVn 2 rfl
      have hV3 := Lib.hid (block_set hVn 2 (.int .i64 m3))
      have hE3 := Lib.hid ((Below.heap_setCell wn3 ⟨V, 2, none⟩ (.int .i64 m3) E (by show E ≠ V; omega)).trans hEn)
      have hZ3 := Lib.hid ((Below.heap_setCell wn3 ⟨V, 2, none⟩ (.int .i64 m3) w.heap.size (by show w.heap.size ≠ V; omega)).trans hZn)
      have hO3 := Lib.hid (own_put hOn (hOV hOn) 2 (.int .i64 m3))
      have hG3 := Lib.hid (grown_new (grown_trans hG2.out hgn) (E := V) (by omega) 2 (.int .i64 m3))
      have hrd3 : RdR R s q3 y3 (wn3.setCell ⟨V, 2, none⟩ (.int .i64 m3)) := (Below.heap_setCell wn3 ⟨V, 2, none⟩ (.int .i64 m3) R (by show R ≠ V; omega)).trans hrn
      have hz3 : E + 1 ≤ (wn3.setCell ⟨V, 2, none⟩ (.int .i64 m3)).heap.size := by rw [World.size_setCell]; exact Nat.le_trans hz2 hgn.size
      clear hgn hVn hEn hZn hOn hrn hV2 hE2 hZ2 hO2 hG2 hrd2 hz2 HM3
      go_upto_region 12 with fail
      obtain ⟨u3, hW⟩ : ∃ u3, wn3.setCell ⟨V, 2, none⟩ (.int .i64 m3) = u3 := ⟨_, rfl⟩
      rw [hW] at hV3 hE3 hZ3 hO3 hG3 hrd3 hz3 ⊢
      clear hW fn cn
      go_wp2_with fail
      refine (HM4.out _ hrd3).mono ?_
      rintro e' wn4 ⟨rfl, hrn, hgn⟩
      have hVn := (hgn.block V (lt_of_block hV3.out) (fun e => hVR (Option.some.inj e))).trans hV3.out
      have hEn := (hgn.block E (lt_of_block hE3.out) (fun e => hER (Option.some.inj e))).trans hE3.out
      have hZn := (hgn.block _ (lt_of_block hZ3.out) (fun e => hZR (Option.some.inj e))).trans hZ3.out
      have hOn := World.ownsRow.kept hO3.out hgn (.inr (fun e => absurd (hO3.out.lt R e).1 (by omega)))
      have fn := block_frozen hVn 3
      have cn := below_cell (Below.refl _ wn4) hVn 3 rfl
      have hV4 := Lib.hid (block_set hVn 3 (.int .i64 m4))
      have hE4 := Lib.hid ((Below.heap_setCell wn4 ⟨V, 3, none⟩ (.int .i64 m4) E (by show E ≠ V; omega)).trans hEn)
      have hZ4 := Lib.hid ((Below.heap_setCell wn4 ⟨V, 3, none⟩ (.int .i64 m4) w.heap.size (by show w.heap.size ≠ V; omega)).trans hZn)
      have hO4 := Lib.hid (own_put hOn (hOV hOn) 3 (.int .i64 m4))
      have hG4 := Lib.hid (grown_new (grown_trans hG3.out hgn) (E := V) (by omega) 3 (.int .i64 m4))
      have hrd4 : RdR R s q4 y4 (wn4.setCell ⟨V, 3, none⟩ (.int .i64 m4)) := (Below.heap_setCell wn4 ⟨V, 3, none⟩ (.int .i64 m4) R (by show R ≠ V; omega)).trans hrn
      have hz4 : E + 1 ≤ (wn4.setCell ⟨V, 3, none⟩ (.int .i64 m4)).heap.size := by rw [World.size_setCell]; exact Nat.le_trans hz3 hgn.size
      clear hgn hVn hEn hZn hOn hrn hV3 hE3 hZ3 hO3 hG3 hrd3 hz3 HM4
      go_upto_region 13 with fail
      obtain ⟨u4, hW⟩ : ∃ u4, wn4.setCell ⟨V, 3, none⟩ (.int .i64 m4) = u4 := ⟨_, rfl⟩
      rw [hW] at hV4 hE4 hZ4 hO4 hG4 hrd4 hz4 ⊢
      clear hW fn cn
      go_wp2_with fail
      refine (HM5.out _ hrd4).mono ?_
      rintro e' wn5 ⟨rfl, hrn, hgn⟩
      have hVn := (hgn.block V (lt_of_block hV4.out) (fun e => hVR (Option.some.inj e))).trans hV4.out
      have hEn := (hgn.block E (lt_of_block hE4.out) (fun e => hER (Option.some.inj e))).trans hE4.out
      have hZn := (hgn.block _ (lt_of_block hZ4.out) (fun e => hZR (Option.some.inj e))).trans hZ4.out
      have hOn := World.ownsRow.kept hO4.out hgn (.inr (fun e => absurd (hO4.out.lt R e).1 (by omega)))
      have fn := block_frozen hVn 4
      have cn := below_cell (Below.refl _ wn5) hVn 4 rfl
      have hV5 := Lib.hid (block_set hVn 4 (.int .i64 m5))
      have hE5 := Lib.hid ((Below.heap_setCell wn5 ⟨V, 4, none⟩ (.int .i64 m5) E (by show E ≠ V; omega)).trans hEn)
      have hZ5 := Lib.hid ((Below.heap_setCell wn5 ⟨V, 4, none⟩ (.int .i64 m5) w.heap.size (by show w.heap.size ≠ V; omega)).trans hZn)
      have hO5 := Lib.hid (own_put hOn (hOV hOn) 4 (.int .i64 m5))
      have hG5 := Lib.hid (grown_new (grown_trans hG4.out hgn) (E := V) (by omega) 4 (.int .i64 m5))
      have hrd5 : RdR R s q5 y5 (wn5.setCell ⟨V, 4, none⟩ (.int .i64 m5)) := (Below.heap_setCell wn5 ⟨V, 4, none⟩ (.int .i64 m5) R (by show R ≠ V; omega)).trans hrn
      have hz5 : E + 1 ≤ (wn5.setCell ⟨V, 4, none⟩ (.int .i64 m5)).heap.size := by rw [World.size_setCell]; exact Nat.le_trans hz4 hgn.size
      clear hgn hVn hEn hZn hOn hrn hV4 hE4 hZ4 hO4 hG4 hrd4 hz4 HM5
      go_upto_region 14 with fail
      obtain ⟨u5, hW⟩ : ∃ u5, wn5.setCell ⟨V, 4, none⟩ (.int .i64 m5) = u5 := ⟨_, rfl⟩
      rw [hW] at hV5 hE5 hZ5 hO5 hG5 hrd5 hz5 ⊢
      clear hW fn cn
      have qe := below_cell (Below.refl _ u5) hE5.out 3 rfl
      have qv0 := below_cell (Below.refl _ u5) hV5.out 0 rfl
      have qv1 := below_cell (Below.refl _ u5) hV5.out 1 rfl
      have qv2 := below_cell (Below.refl _ u5) hV5.out 2 rfl
      have qv3 := below_cell (Below.refl _ u5) hV5.out 3 rfl
      have qv4 := below_cell (Below.refl _ u5) hV5.out 4 rfl
      go_wp2_with (first | (at_builtin; go_must (refine wpList_push _ _ 34 42 (news := [.int .i64 m1, .int .i64 m2, .int .i64 m3, .int .i64 m4, .int .i64 m5]) hO5.out (Below.refl _ _) hz5 Try.underlying34 hNI hzI0 hzI1 hzI2 rfl (by decide) rfl rfl (by rfl) (by rfl) (by rfl) (by intro u hu; simp only [List.mem_cons, List.not_mem_nil, or_false] at hu; rcases hu with rfl | rfl | rfl | rfl | rfl <;> rfl) ⟨by omega, by omega⟩ ?_)))
      intro v6 w6 hown6 hb6
      obtain ⟨ta6, tc6, rfl, _⟩ := own_formS hown6
      have hE6 := (hb6.block E (by omega)).trans hE5.out
      have qe6 := below_cell (Below.refl _ w6) hE6 3 rfl
      have fe6 := block_frozen hE6 3
      have hE7 := Lib.hid (block_set hE6 3 (.slice ta6 (j + 1) tc6))
      have hZ7 := Lib.hid ((Below.heap_setCell w6 ⟨E, 3, none⟩ (.slice ta6 (j + 1) tc6) w.heap.size (by show w.heap.size ≠ E; omega)).trans ((hb6.block _ (by omega)).trans hZ5.out))
      have hO7 := Lib.hid (ownsRow_setCell_below (a := ⟨E, 3, none⟩) hown6 (by show E < E + 1; omega) (.slice ta6 (j + 1) tc6))
      have hG7 := Lib.hid (grown_new (below_grown hG5.out hb6 (by omega)) (E := E) (by omega) 3 (.slice ta6 (j + 1) tc6))
      have hrd7 : RdR R s q5 y5 (w6.setCell ⟨E, 3, none⟩ (.slice ta6 (j + 1) tc6)) := (Below.heap_setCell w6 ⟨E, 3, none⟩ (.slice ta6 (j + 1) tc6) R (by show R ≠ E; omega)).trans ((hb6.block R (by omega)).trans hrd5)
      have hz7 : E + 1 ≤ (w6.setCell ⟨E, 3, none⟩ (.slice ta6 (j + 1) tc6)).heap.size := by rw [World.size_setCell]; exact Nat.le_trans hz5 hb6.size
      have HKN : Hid ((y5 ≠ 0 ∧ PR = none) ∨ (y5 = 0 ∧ q5 = ((a1 + 5 + 10 * (j + 1) : Nat) : Int) ∧ a1 + 5 + 10 * (j + 1) ≤ s.size ∧ (PR = if a1 + 5 + 10 * c ≤ s.size then some (⟨name, g1, g2, versL s (a1 + 5) c⟩, a1 + 5 + 10 * c) else none) ∧ ys ++ [.int .i64 m1, .int .i64 m2, .int .i64 m3, .int .i64 m4, .int .i64 m5] = vrCells (versL s (a1 + 5) (j + 1)))) := Lib.hid (by
        have hp0 := HP0.out
        by_cases h10 : P0 + 10 ≤ s.size
        · obtain ⟨z1, z2, z3, z4, z5, z6, z7⟩ := HF.out.1 h10
          refine .inr ⟨z1, by rw [z2]; omega, by omega, HPR.out, ?_⟩
          rw [versL_snoc, vrCells_snoc, hp0, HYS.out, z3, z4, z5, z6, z7]; rfl
        · exact .inl ⟨HF.out.2 h10, by rw [HPR.out, if_neg (by omega)]⟩)
      clear hE6 qe qv0 qv1 qv2 qv3 qv4 hb6 hown6 hE5 hZ5 hO5 hG5 hrd5 hz5 hV5 HF HP0 HPR HYS hOlt hOV
      go_wp2_with fail
      go_roundw
      case rel => exact ⟨j + 1, _, q5, y5, _, by omega, by go_num, hrd7, hz7, HKN, hG7, hZ7, hE7, hO7⟩
      case measure => simp [intOf]; omega
    · have hend : ReadPost R s PR w (.returned (.agg #[.string name, .int .i64 g1, .int .i64 g2, .slice ta j tc])) ((((wr.setCell ⟨w.heap.size, 0, none⟩ (.string name)).setCell ⟨w.heap.size, 1, none⟩ (.int .i64 g1)).setCell ⟨w.heap.size, 2, none⟩ (.int .i64 g2)).setCell ⟨w.heap.size, 3, none⟩ (.slice ta j tc)) := by
        have HGF := grown_new (grown_new (grown_new (grown_new hG.out (E := w.heap.size) (Nat.le_refl _) 0 (.string name)) (E := w.heap.size) (Nat.le_refl _) 1 (.int .i64 g1)) (E := w.heap.size) (Nat.le_refl _) 2 (.int .i64 g2)) (E := w.heap.size) (Nat.le_refl _) 3 (.slice ta j tc)
        have hzE : w.heap.size < E + 1 := by omega
        have HOF := ownsRow_setCell_below (a := ⟨w.heap.size, 3, none⟩) (ownsRow_setCell_below (a := ⟨w.heap.size, 2, none⟩) (ownsRow_setCell_below (a := ⟨w.heap.size, 1, none⟩) (ownsRow_setCell_below (a := ⟨w.heap.size, 0, none⟩) hO.out hzE (.string name)) hzE (.int .i64 g1)) hzE (.int .i64 g2)) hzE (.slice ta j tc)
        have hrdF : RdR R s p x ((((wr.setCell ⟨w.heap.size, 0, none⟩ (.string name)).setCell ⟨w.heap.size, 1, none⟩ (.int .i64 g1)).setCell ⟨w.heap.size, 2, none⟩ (.int .i64 g2)).setCell ⟨w.heap.size, 3, none⟩ (.slice ta j tc)) := by
          unfold RdR
          rw [Below.heap_setCell _ _ _ _ (by show R ≠ w.heap.size; omega), Below.heap_setCell _ _ _ _ (by show R ≠ w.heap.size; omega), Below.heap_setCell _ _ _ _ (by show R ≠ w.heap.size; omega), Below.heap_setCell _ _ _ _ (by show R ≠ w.heap.size; omega)]
          exact hrd
        rcases HK.out with ⟨h1, h2⟩ | ⟨h1, h2, h3, h4, h5⟩
        · rw [h2]
          exact ⟨name, g1, g2, ta, j, tc, p, x, rfl, h1, hrdF, HGF⟩
        · have hj : j = c := by
            have : ¬ j < c := fun h => hgo ⟨h, h1⟩
            omega
          subst hj
          rw [if_pos h3] at h4
          rw [h4]
          refine ⟨_, rfl, ?_, ?_, HGF⟩
          · show World.ownsRow _ _ _ _ _ (versL s (a1 + 5) j).length (vrCells (versL s (a1 + 5) j))
            rw [versL_len, ← h5]
            exact own_base HOF (by omega)
          · rw [← h2, ← h1]; exact hrdF
      have HEND := Lib.hid hend
      clear hend HK
      have c0 := below_cell (Below.refl _ wr) hE.out 0 rfl
      have c1 := below_cell (Below.refl _ wr) hE.out 1 rfl
      have c2 := below_cell (Below.refl _ wr) hE.out 2 rfl
      have c3 := below_cell (Below.refl _ wr) hE.out 3 rfl
      have z0 := below_cell (Below.refl _ wr) hZ.out 0 rfl
      have z1 := below_cell (Below.refl _ wr) hZ.out 1 rfl
      have z2 := below_cell (Below.refl _ wr) hZ.out 2 rfl
      have z3 := below_cell (Below.refl _ wr) hZ.out 3 rfl
      have f0 := block_frozen hZ.out 0
      have f1 := block_frozen hZ.out 1
      have f2 := block_frozen hZ.out 2
      have f3 := block_frozen hZ.out 3
      have HSET := Lib.hid (block_set (block_set (block_set (block_set hZ.out 0 (.string name)) 1 (.int .i64 g1)) 2 (.int .i64 g2)) 3 (.slice ta j tc))
      by_cases hjc2 : j < c
      · have hx0 : x ≠ 0 := fun h => hgo ⟨hjc2, h⟩
        have hxq : (x == 0) = false := by simpa using hx0
        have hltI : (j : Int) < c := by omega
        clear hgo hx0
        go_wp2_with fail
        refine bodyPost_ret (results_cell_row rfl _ _ w.heap.size _ _ _ _ rfl HSET.out Try.underlying36 rfl (by kernel_rfl)) rfl HEND.out
      · have hnl : ¬ (j : Int) < c := by omega
        clear hgo
        go_wp2_with fail
        refine bodyPost_ret (results_cell_row rfl _ _ w.heap.size _ _ _ _ rfl HSET.out Try.underlying36 rfl (by kernel_rfl)) rfl HEND.out
end Go.Proofs.Ytfpfcjgdihlieaa
