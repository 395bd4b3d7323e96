/- The reference's calls. -/
import Derived.Test.YtabkpoolhcpihaaDoorDiskNo
import Derived.Test.YtabkpoolhcpihaaDoorRef03R
import Derived.Test.YtabkpoolhcpihaaDoorRef03L
namespace Go.Proofs.YtabkpoolhcpihaaDoor
open Go.RowKit
set_option linter.unusedVariables false

set_option maxRecDepth 100000 in
set_option maxHeartbeats 1000000 in
theorem refLikePower_any (va vb : Value) (x y : Dsk) (lx ly : Int) (w : World) (ha : IsPower w va x lx) (hb : IsPower w vb y ly) :
    Calls Tryd.prog 16 #[va, vb] w fun e w' => e = .returned (.bool (decide (lx = ly ∧ x = y))) ∧ Below w.heap.size w w' := by
  obtain ⟨a, cap, a', cap', rfl, hd⟩ := ha.form
  obtain ⟨b, bap, b', bap', rfl, hd'⟩ := hb.form
  have HL := Lib.hid (fun u h1 h2 => refLike_any (.agg #[.slice a x.secs.length cap, .slice a' x.pend.length cap']) (.agg #[.slice b y.secs.length bap, .slice b' y.pend.length bap']) x y u h1 h2)
  have HD := Lib.hid hd; have HD' := Lib.hid hd'
  generalize x.secs.length = m at *
  generalize x.pend.length = k at *
  generalize y.secs.length = m' at *
  generalize y.pend.length = k' at *
  clear ha hb hd hd'
  have hb2 : Below w.heap.size w ((w.alloc (.cells #[.slice a m cap, .slice a' k cap', .int .i64 lx] 31)).alloc (.cells #[.slice b m' bap, .slice b' k' bap', .int .i64 ly] 31)) := ((Below.refl _ w).alloc (Nat.le_refl _) _).alloc (by simp) _
  by_cases hl : lx = ly
  · have hl' : (lx == ly) = true := by rw [beq_iff_eq]; exact hl
    have hdd : decide (lx = ly ∧ x = y) = decide (x = y) := by simp [hl]
    rw [hdd]
    generalize decide (x = y) = B at *
    clear hl hdd
    go_enter Tryd.func16, Tryd.ntmps16
    go_wp2_with fail
    refine (HL.out _ (HD.out.below hb2) (HD'.out.below hb2)).mono ?_
    rintro e w2 ⟨rfl, hb3⟩
    go_wp2_with fail
    go_ret
    exact ⟨rfl, hb2.trans (hb3.mono hb2.size)⟩
  · have hl' : (lx == ly) = false := by rw [beq_eq_false_iff_ne]; exact hl
    have hdd : decide (lx = ly ∧ x = y) = false := by simp [hl]
    rw [hdd]
    clear hl hdd
    go_enter Tryd.func16, Tryd.ntmps16
    go_wp2_with fail
    go_ret
    exact ⟨rfl, hb2⟩
theorem heap3_new (w : World) (o o' o'' : Obj) : (((w.alloc o).alloc o').alloc o'').heap[w.heap.size + 2]? = some o'' := by
  have := heap_alloc_new ((w.alloc o).alloc o') o''
  rwa [World.size_alloc, World.size_alloc] at this
theorem heap3_mid (w : World) (o o' o'' : Obj) : (((w.alloc o).alloc o').alloc o'').heap[w.heap.size + 1]? = some o' := by
  have := heap_alloc_new (w.alloc o) o'
  rw [World.size_alloc] at this
  exact (heap_alloc_old _ _ (by simp)).trans this
theorem heap3_old (w : World) (o o' o'' : Obj) : (((w.alloc o).alloc o').alloc o'').heap[w.heap.size]? = some o :=
  (heap_alloc_old _ _ (by simp; omega)).trans ((heap_alloc_old _ _ (by simp)).trans (heap_alloc_new w o))
set_option maxRecDepth 100000 in
set_option maxHeartbeats 1000000 in
theorem refDo_no (v : Value) (d : Dsk) (left s c : Int) (x : ByteArray) (w : World) (h : IsPower w v d left) (hlo : -9223372036854775808 ≤ left) (hhi : left ≤ 9223372036854775807) (hxs : x.size ≤ 9223372036854775807)
    (hc : (readyE d left ≠ 0 ∧ c = readyE d left) ∨ (left ≠ 0 ∧ rightD d = true ∧ d.secs.length ≤ s ∧ c = 20) ∨ (left ≠ 0 ∧ rightD d = true ∧ (0 ≤ s ∧ s < d.secs.length) ∧ 512 < (trimS x).size ∧ c = 2)) :
    Calls Tryd.prog 15 #[v, .agg #[.int .i64 s, .string x]] w fun e w' => e = .returned (.tuple #[v, .int .i64 c]) ∧ Below w.heap.size w w' := by
  obtain ⟨a, cap, a', cap', rfl, hd⟩ := h.form
  have HR := Lib.hid (fun u hu => refDiskRight_any (.agg #[.slice a d.secs.length cap, .slice a' d.pend.length cap']) d u hu)
  have HT := Lib.hid (fun u => refTrim_any x u hxs)
  have HD := Lib.hid hd
  have hrd : readyE d left = if left = 0 then 21 else if rightD d = true then 0 else 1 := rfl
  have hxs2 : (trimS x).size ≤ 9223372036854775807 := Nat.le_trans (trimS_le x) hxs
  have hml : d.secs.length ≤ cap := by have := hd.form; obtain ⟨_, _, _, _, e, h1, _⟩ := this; injection e with e; have f1 := congrArg (fun z : Array Value => z[0]?) e; simp at f1; omega
  generalize readyE d left = r at *
  generalize d.secs.length = m at *
  generalize d.pend.length = k at *
  generalize trimS x = X at *
  generalize rightD d = rd at *
  have hxI : (X.size : Int) ≤ 9223372036854775807 := by omega
  clear h hd hxs2
  by_cases h0 : left = 0
  · subst h0
    rw [if_pos rfl] at hrd
    subst hrd
    have hc : c = 21 := by
      rcases hc with h | h | h
      · exact h.2
      · exact absurd rfl h.1
      · exact absurd rfl h.1
    subst hc
    clear HR HT HD
    go_enter Tryd.func15, Tryd.ntmps15
    go_wp2_with fail
    refine bodyPost_ret (results_row_tmp rfl _ _ (w.heap.size + 2) _ _ _ _ rfl (heap3_new w _ _ (.cells #[.slice a m cap, .slice a' k cap', .int .i64 0] 31)) Tryd.underlying31 rfl (by kernel_rfl)) rfl ⟨by first | (simp; rfl) | (simp; done), (((Below.refl w.heap.size w).alloc (Nat.le_refl _) _).alloc (by simp) _).alloc (by simp; omega) _⟩
  · rw [if_neg h0] at hrd
    have h0' : (left == 0) = false := by rw [beq_eq_false_iff_ne]; exact h0
    go_enter Tryd.func15, Tryd.ntmps15
    go_wp2_with fail
    have hw2 : Below w.heap.size w (((w.alloc (.cells #[.slice a m cap, .slice a' k cap', .int .i64 left] 31)).alloc (.cells #[.int .i64 s, .string x] 44)).alloc (.cells #[.slice none 0 0, .slice none 0 0, .int .i64 0] 31)) := (((Below.refl w.heap.size w).alloc (Nat.le_refl _) _).alloc (by simp) _).alloc (by simp; omega) _
    have hA2 := heap3_old w (.cells #[.slice a m cap, .slice a' k cap', .int .i64 left] 31) (.cells #[.int .i64 s, .string x] 44) (.cells #[.slice none 0 0, .slice none 0 0, .int .i64 0] 31)
    have hC2 := heap3_mid w (.cells #[.slice a m cap, .slice a' k cap', .int .i64 left] 31) (.cells #[.int .i64 s, .string x] 44) (.cells #[.slice none 0 0, .slice none 0 0, .int .i64 0] 31)
    have hB2 := heap3_new w (.cells #[.slice a m cap, .slice a' k cap', .int .i64 left] 31) (.cells #[.int .i64 s, .string x] 44) (.cells #[.slice none 0 0, .slice none 0 0, .int .i64 0] 31)
    obtain ⟨w2, hW2⟩ : ∃ w2, ((w.alloc (.cells #[.slice a m cap, .slice a' k cap', .int .i64 left] 31)).alloc (.cells #[.int .i64 s, .string x] 44)).alloc (.cells #[.slice none 0 0, .slice none 0 0, .int .i64 0] 31) = w2 := ⟨_, rfl⟩
    rw [hW2] at hw2 hA2 hC2 hB2 ⊢
    clear hW2
    have x0 := below_cell (Below.refl _ w2) hA2 0 rfl
    have x1 := below_cell (Below.refl _ w2) hA2 1 rfl
    go_wp2_with fail
    refine (HR.out w2 (HD.out.below hw2)).mono ?_
    rintro e w3 ⟨rfl, hb3⟩
    have hA3 := (hb3.block _ (Array.getElem?_eq_some_iff.1 hA2).1).trans hA2
    have hB3 := (hb3.block _ (Array.getElem?_eq_some_iff.1 hB2).1).trans hB2
    have hC3 := (hb3.block _ (Array.getElem?_eq_some_iff.1 hC2).1).trans hC2
    have hw3 := hw2.trans (hb3.mono hw2.size)
    clear hA2 hB2 hC2 hw2 hb3 x0 x1 HR
    cases rd with
    | false =>
      have hc : c = 1 := by
        rw [if_neg (by decide)] at hrd
        rcases hc with h | h | h
        · rw [h.2, hrd]
        · exact absurd h.2.1 (by decide)
        · exact absurd h.2.1 (by decide)
      subst hc
      clear hrd HT HD
      have x0 := below_cell (Below.refl _ w3) hA3 0 rfl
      have x1 := below_cell (Below.refl _ w3) hA3 1 rfl
      have x2 := below_cell (Below.refl _ w3) hA3 2 rfl
      have e0 := below_cell (Below.refl _ w3) hB3 0 rfl
      have e1 := below_cell (Below.refl _ w3) hB3 1 rfl
      have e2 := below_cell (Below.refl _ w3) hB3 2 rfl
      have f0 := block_frozen hB3 0
      have f1 := block_frozen hB3 1
      have f2 := block_frozen hB3 2
      have hset := set3_block hB3 (.slice a m cap) (.slice a' k cap') (.int .i64 left)
      have hw7 := set3_below hw3 (show w.heap.size ≤ w.heap.size + 2 by omega) (.slice a m cap) (.slice a' k cap') (.int .i64 left)
      have HSET := Lib.hid hset; have HW7 := Lib.hid hw7
      clear hset hw7 hA3 hB3 hw3
      unfold set3 at HSET HW7
      go_wp2_with fail
      refine bodyPost_ret (results_row_tmp rfl _ _ (w.heap.size + 2) _ _ _ _ rfl HSET.out Tryd.underlying31 rfl (by kernel_rfl)) rfl ⟨by first | (simp; rfl) | (simp; done), HW7.out⟩
    | true =>
      have hc2 : (m ≤ s ∧ c = 20) ∨ ((0 ≤ s ∧ s < m) ∧ 512 < X.size ∧ c = 2) := by
        rw [if_pos rfl] at hrd
        rcases hc with h | h | h
        · exact absurd hrd h.1
        · exact .inl h.2.2
        · exact .inr h.2.2
      have hs0 : ¬ s < 0 := by omega
      clear hrd HD hc
      have x0 := below_cell (Below.refl _ w3) hA3 0 rfl
      have x1 := below_cell (Below.refl _ w3) hA3 1 rfl
      have x2 := below_cell (Below.refl _ w3) hA3 2 rfl
      have x0' := fun o : Obj => (World.cell?_of_block (a := ⟨w.heap.size, 0, none⟩) (Below.heap_alloc w3 o w.heap.size (Array.getElem?_eq_some_iff.1 hA3).1)).trans x0
      have x2' := fun o : Obj => (World.cell?_of_block (a := ⟨w.heap.size, 2, none⟩) (Below.heap_alloc w3 o w.heap.size (Array.getElem?_eq_some_iff.1 hA3).1)).trans x2
      by_cases hp : 0 < left
      · have hsp : spentI left = left - 1 := if_pos hp
        go_upto_region 8 with fail
        have hA4 := (heap_alloc_old w3 (.cells #[.slice none 0 0, .slice none 0 0, .int .i64 (left - 1)] 31) (Array.getElem?_eq_some_iff.1 hA3).1).trans hA3
        have hB4 := (heap_alloc_old w3 (.cells #[.slice none 0 0, .slice none 0 0, .int .i64 (left - 1)] 31) (Array.getElem?_eq_some_iff.1 hB3).1).trans hB3
        have hC4 := (heap_alloc_old w3 (.cells #[.slice none 0 0, .slice none 0 0, .int .i64 (left - 1)] 31) (Array.getElem?_eq_some_iff.1 hC3).1).trans hC3
        have hT4 := heap_alloc_new w3 (.cells #[.slice none 0 0, .slice none 0 0, .int .i64 (left - 1)] 31)
        have hw4 : Below w.heap.size w (w3.alloc (.cells #[.slice none 0 0, .slice none 0 0, .int .i64 (left - 1)] 31)) := hw3.alloc hw3.size _
        have hz3 := hw3.size
        have hzB := (Array.getElem?_eq_some_iff.1 hB3).1
        obtain ⟨w4, hW4⟩ : ∃ w4, w3.alloc (.cells #[.slice none 0 0, .slice none 0 0, .int .i64 (left - 1)] 31) = w4 := ⟨_, rfl⟩
        rw [hW4] at hA4 hB4 hC4 hT4 hw4 ⊢
        clear hW4 x0 x1 x2 hA3 hB3 hC3 hw3 x0' x2'
        have c0 := below_cell (Below.refl _ w4) hC4 0 rfl
        have c1 := below_cell (Below.refl _ w4) hC4 1 rfl
        have x0 := below_cell (Below.refl _ w4) hA4 0 rfl
        have x1 := below_cell (Below.refl _ w4) hA4 1 rfl
        go_wp2_with fail
        refine (HT.out w4).mono ?_
        rintro e w5 ⟨rfl, rfl⟩
        clear HT x0 x1
        rcases hc2 with ⟨hm, rfl⟩ | ⟨hm, hX, rfl⟩
        · have hmI : (m : Int) ≤ s := by omega
          clear hT4
          have x0 := below_cell (Below.refl _ w4) hA4 0 rfl
          have x1 := below_cell (Below.refl _ w4) hA4 1 rfl
          have x2 := below_cell (Below.refl _ w4) hA4 2 rfl
          have e0 := below_cell (Below.refl _ w4) hB4 0 rfl
          have e1 := below_cell (Below.refl _ w4) hB4 1 rfl
          have e2 := below_cell (Below.refl _ w4) hB4 2 rfl
          have f0 := block_frozen hB4 0
          have f1 := block_frozen hB4 1
          have f2 := block_frozen hB4 2
          have hset := set3_block hB4 (.slice a m cap) (.slice a' k cap') (.int .i64 left)
          have hw7 := set3_below hw4 (show w.heap.size ≤ w.heap.size + 2 by omega) (.slice a m cap) (.slice a' k cap') (.int .i64 left)
          have HSET := Lib.hid hset; have HW7 := Lib.hid hw7
          clear hset hw7 hA4 hB4 hw4
          unfold set3 at HSET HW7
          go_wp2_with fail
          refine bodyPost_ret (results_row_tmp rfl _ _ (w.heap.size + 2) _ _ _ _ rfl HSET.out Tryd.underlying31 rfl (by kernel_rfl)) rfl ⟨by first | (simp; rfl) | (simp; done), HW7.out⟩
        · have hmI : ¬ (m : Int) ≤ s := by omega
          have hmI2 : s < (m : Int) := by omega
          have hXI : (512 : Int) < X.size := by omega
          clear hT4
          have x0 := below_cell (Below.refl _ w4) hA4 0 rfl
          have x1 := below_cell (Below.refl _ w4) hA4 1 rfl
          have x2 := below_cell (Below.refl _ w4) hA4 2 rfl
          have e0 := below_cell (Below.refl _ w4) hB4 0 rfl
          have e1 := below_cell (Below.refl _ w4) hB4 1 rfl
          have e2 := below_cell (Below.refl _ w4) hB4 2 rfl
          have f0 := block_frozen hB4 0
          have f1 := block_frozen hB4 1
          have f2 := block_frozen hB4 2
          have hset := set3_block hB4 (.slice a m cap) (.slice a' k cap') (.int .i64 left)
          have hw7 := set3_below hw4 (show w.heap.size ≤ w.heap.size + 2 by omega) (.slice a m cap) (.slice a' k cap') (.int .i64 left)
          have HSET := Lib.hid hset; have HW7 := Lib.hid hw7
          clear hset hw7 hA4 hB4 hw4
          unfold set3 at HSET HW7
          go_wp2_with fail
          refine bodyPost_ret (results_row_tmp rfl _ _ (w.heap.size + 2) _ _ _ _ rfl HSET.out Tryd.underlying31 rfl (by kernel_rfl)) rfl ⟨by first | (simp; rfl) | (simp; done), HW7.out⟩
      · have hsp : spentI left = left := if_neg hp
        go_upto_region 8 with fail
        have hA4 := (heap_alloc_old w3 (.cells #[.slice none 0 0, .slice none 0 0, .int .i64 (left)] 31) (Array.getElem?_eq_some_iff.1 hA3).1).trans hA3
        have hB4 := (heap_alloc_old w3 (.cells #[.slice none 0 0, .slice none 0 0, .int .i64 (left)] 31) (Array.getElem?_eq_some_iff.1 hB3).1).trans hB3
        have hC4 := (heap_alloc_old w3 (.cells #[.slice none 0 0, .slice none 0 0, .int .i64 (left)] 31) (Array.getElem?_eq_some_iff.1 hC3).1).trans hC3
        have hT4 := heap_alloc_new w3 (.cells #[.slice none 0 0, .slice none 0 0, .int .i64 (left)] 31)
        have hw4 : Below w.heap.size w (w3.alloc (.cells #[.slice none 0 0, .slice none 0 0, .int .i64 (left)] 31)) := hw3.alloc hw3.size _
        have hz3 := hw3.size
        have hzB := (Array.getElem?_eq_some_iff.1 hB3).1
        obtain ⟨w4, hW4⟩ : ∃ w4, w3.alloc (.cells #[.slice none 0 0, .slice none 0 0, .int .i64 (left)] 31) = w4 := ⟨_, rfl⟩
        rw [hW4] at hA4 hB4 hC4 hT4 hw4 ⊢
        clear hW4 x0 x1 x2 hA3 hB3 hC3 hw3 x0' x2'
        have c0 := below_cell (Below.refl _ w4) hC4 0 rfl
        have c1 := below_cell (Below.refl _ w4) hC4 1 rfl
        have x0 := below_cell (Below.refl _ w4) hA4 0 rfl
        have x1 := below_cell (Below.refl _ w4) hA4 1 rfl
        go_wp2_with fail
        refine (HT.out w4).mono ?_
        rintro e w5 ⟨rfl, rfl⟩
        clear HT x0 x1
        rcases hc2 with ⟨hm, rfl⟩ | ⟨hm, hX, rfl⟩
        · have hmI : (m : Int) ≤ s := by omega
          clear hT4
          have x0 := below_cell (Below.refl _ w4) hA4 0 rfl
          have x1 := below_cell (Below.refl _ w4) hA4 1 rfl
          have x2 := below_cell (Below.refl _ w4) hA4 2 rfl
          have e0 := below_cell (Below.refl _ w4) hB4 0 rfl
          have e1 := below_cell (Below.refl _ w4) hB4 1 rfl
          have e2 := below_cell (Below.refl _ w4) hB4 2 rfl
          have f0 := block_frozen hB4 0
          have f1 := block_frozen hB4 1
          have f2 := block_frozen hB4 2
          have hset := set3_block hB4 (.slice a m cap) (.slice a' k cap') (.int .i64 left)
          have hw7 := set3_below hw4 (show w.heap.size ≤ w.heap.size + 2 by omega) (.slice a m cap) (.slice a' k cap') (.int .i64 left)
          have HSET := Lib.hid hset; have HW7 := Lib.hid hw7
          clear hset hw7 hA4 hB4 hw4
          unfold set3 at HSET HW7
          go_wp2_with fail
          refine bodyPost_ret (results_row_tmp rfl _ _ (w.heap.size + 2) _ _ _ _ rfl HSET.out Tryd.underlying31 rfl (by kernel_rfl)) rfl ⟨by first | (simp; rfl) | (simp; done), HW7.out⟩
        · have hmI : ¬ (m : Int) ≤ s := by omega
          have hmI2 : s < (m : Int) := by omega
          have hXI : (512 : Int) < X.size := by omega
          clear hT4
          have x0 := below_cell (Below.refl _ w4) hA4 0 rfl
          have x1 := below_cell (Below.refl _ w4) hA4 1 rfl
          have x2 := below_cell (Below.refl _ w4) hA4 2 rfl
          have e0 := below_cell (Below.refl _ w4) hB4 0 rfl
          have e1 := below_cell (Below.refl _ w4) hB4 1 rfl
          have e2 := below_cell (Below.refl _ w4) hB4 2 rfl
          have f0 := block_frozen hB4 0
          have f1 := block_frozen hB4 1
          have f2 := block_frozen hB4 2
          have hset := set3_block hB4 (.slice a m cap) (.slice a' k cap') (.int .i64 left)
          have hw7 := set3_below hw4 (show w.heap.size ≤ w.heap.size + 2 by omega) (.slice a m cap) (.slice a' k cap') (.int .i64 left)
          have HSET := Lib.hid hset; have HW7 := Lib.hid hw7
          clear hset hw7 hA4 hB4 hw4
          unfold set3 at HSET HW7
          go_wp2_with fail
          refine bodyPost_ret (results_row_tmp rfl _ _ (w.heap.size + 2) _ _ _ _ rfl HSET.out Tryd.underlying31 rfl (by kernel_rfl)) rfl ⟨by first | (simp; rfl) | (simp; done), HW7.out⟩
theorem disk_setT {w : World} {v : Value} {d : Dsk} (h : IsDisk w v d) {g : Nat} {t : TypeId} {fr : Nat × Nat} {cs : Array Value} (hg : w.heap[g]? = some (.cells cs t fr)) (hno : ∀ (j : Nat) (s : ByteArray), cs[j]? ≠ some (Value.string s)) (x y : Value) : IsDisk ((w.setCell ⟨g, 0, none⟩ x).setCell ⟨g, 1, none⟩ y) v d := by
  obtain ⟨sv, pv, rfl, h1, h2⟩ := h
  have hk : ∀ b, b ≠ g → ((w.setCell ⟨g, 0, none⟩ x).setCell ⟨g, 1, none⟩ y).heap[b]? = w.heap[b]? := fun b h => (Below.heap_setCell _ _ _ _ h).trans (Below.heap_setCell _ _ _ _ h)
  exact ⟨sv, pv, rfl, h1.apart hg hno (by simp) hk, h2.apart hg hno (by simp) hk⟩
theorem flushD_eq (d : Dsk) (h : rightD d = true) : (⟨crashL d (List.replicate d.pend.length true) d.pend.length, []⟩ : Dsk) = flushD d := (crash_eq d _ h).symm
set_option maxRecDepth 100000 in
set_option maxHeartbeats 1000000 in
theorem refDo_flush (v : Value) (d : Dsk) (left s : Int) (x : ByteArray) (w : World) (h : IsPower w v d left) (hlo : -9223372036854775808 ≤ left) (hhi : left ≤ 9223372036854775807) (h0 : left ≠ 0) (hr : rightD d = true) (hs : s < 0) :
    Calls Tryd.prog 15 #[v, .agg #[.int .i64 s, .string x]] w fun e w' => ∃ v', e = .returned (.tuple #[v', .int .i64 0]) ∧ IsPower w' v' (flushD d) (spentI left) ∧ Below w.heap.size w w' := by
  obtain ⟨a, cap, a', cap', rfl, hd⟩ := h.form
  have HR := Lib.hid (fun u hu => refDiskRight_any (.agg #[.slice a d.secs.length cap, .slice a' d.pend.length cap']) d u hu)
  rw [hr] at HR
  have HC := Lib.hid (fun u hu => refCrash_any (.agg #[.slice a d.secs.length cap, .slice a' d.pend.length cap']) (.slice none 0 0) d true [] (List.replicate d.pend.length true) u hu (noBools u) hr (fun t ht => by simp [List.getD_eq_getElem?_getD, ht]))
  rw [flushD_eq d hr] at HC
  have HD := Lib.hid hd
  generalize d.secs.length = m at *
  generalize d.pend.length = k at *
  have h0' : (left == 0) = false := by rw [beq_eq_false_iff_ne]; exact h0
  clear h hd hr
  go_enter Tryd.func15, Tryd.ntmps15
  go_wp2_with fail
  have hw2 : Below w.heap.size w (((w.alloc (.cells #[.slice a m cap, .slice a' k cap', .int .i64 left] 31)).alloc (.cells #[.int .i64 s, .string x] 44)).alloc (.cells #[.slice none 0 0, .slice none 0 0, .int .i64 0] 31)) := (((Below.refl w.heap.size w).alloc (Nat.le_refl _) _).alloc (by simp) _).alloc (by simp; omega) _
  have hA2 := heap3_old w (.cells #[.slice a m cap, .slice a' k cap', .int .i64 left] 31) (.cells #[.int .i64 s, .string x] 44) (.cells #[.slice none 0 0, .slice none 0 0, .int .i64 0] 31)
  have hC2 := heap3_mid w (.cells #[.slice a m cap, .slice a' k cap', .int .i64 left] 31) (.cells #[.int .i64 s, .string x] 44) (.cells #[.slice none 0 0, .slice none 0 0, .int .i64 0] 31)
  have hB2 := heap3_new w (.cells #[.slice a m cap, .slice a' k cap', .int .i64 left] 31) (.cells #[.int .i64 s, .string x] 44) (.cells #[.slice none 0 0, .slice none 0 0, .int .i64 0] 31)
  obtain ⟨w2, hW2⟩ : ∃ w2, ((w.alloc (.cells #[.slice a m cap, .slice a' k cap', .int .i64 left] 31)).alloc (.cells #[.int .i64 s, .string x] 44)).alloc (.cells #[.slice none 0 0, .slice none 0 0, .int .i64 0] 31) = w2 := ⟨_, rfl⟩
  rw [hW2] at hw2 hA2 hC2 hB2 ⊢
  clear hW2
  have x0 := below_cell (Below.refl _ w2) hA2 0 rfl
  have x1 := below_cell (Below.refl _ w2) hA2 1 rfl
  go_wp2_with fail
  refine (HR.out w2 (HD.out.below hw2)).mono ?_
  rintro e w3 ⟨rfl, hb3⟩
  have hA3 := (hb3.block _ (Array.getElem?_eq_some_iff.1 hA2).1).trans hA2
  have hB3 := (hb3.block _ (Array.getElem?_eq_some_iff.1 hB2).1).trans hB2
  have hC3 := (hb3.block _ (Array.getElem?_eq_some_iff.1 hC2).1).trans hC2
  have hw3 := hw2.trans (hb3.mono hw2.size)
  clear hA2 hB2 hC2 hw2 hb3 x0 x1 HR
  have x0 := below_cell (Below.refl _ w3) hA3 0 rfl
  have x1 := below_cell (Below.refl _ w3) hA3 1 rfl
  have x2 := below_cell (Below.refl _ w3) hA3 2 rfl
  have x0' := fun o : Obj => (World.cell?_of_block (a := ⟨w.heap.size, 0, none⟩) (Below.heap_alloc w3 o w.heap.size (Array.getElem?_eq_some_iff.1 hA3).1)).trans x0
  have x2' := fun o : Obj => (World.cell?_of_block (a := ⟨w.heap.size, 2, none⟩) (Below.heap_alloc w3 o w.heap.size (Array.getElem?_eq_some_iff.1 hA3).1)).trans x2
  by_cases hp : 0 < left
  · have hsp : spentI left = left - 1 := if_pos hp
    go_upto_region 8 with fail
    have hA4 := (heap_alloc_old w3 (.cells #[.slice none 0 0, .slice none 0 0, .int .i64 (left - 1)] 31) (Array.getElem?_eq_some_iff.1 hA3).1).trans hA3
    have hB4 := (heap_alloc_old w3 (.cells #[.slice none 0 0, .slice none 0 0, .int .i64 (left - 1)] 31) (Array.getElem?_eq_some_iff.1 hB3).1).trans hB3
    have hC4 := (heap_alloc_old w3 (.cells #[.slice none 0 0, .slice none 0 0, .int .i64 (left - 1)] 31) (Array.getElem?_eq_some_iff.1 hC3).1).trans hC3
    have hT4 := heap_alloc_new w3 (.cells #[.slice none 0 0, .slice none 0 0, .int .i64 (left - 1)] 31)
    have hw4 : Below w.heap.size w (w3.alloc (.cells #[.slice none 0 0, .slice none 0 0, .int .i64 (left - 1)] 31)) := hw3.alloc hw3.size _
    have hz3 := hw3.size
    have hzB := (Array.getElem?_eq_some_iff.1 hB3).1
    obtain ⟨w4, hW4⟩ : ∃ w4, w3.alloc (.cells #[.slice none 0 0, .slice none 0 0, .int .i64 (left - 1)] 31) = w4 := ⟨_, rfl⟩
    rw [hW4] at hA4 hB4 hC4 hT4 hw4 ⊢
    clear hW4 x0 x1 x2 hA3 hB3 hC3 hw3 x0' x2'
    have c0 := below_cell (Below.refl _ w4) hC4 0 rfl
    have c1 := below_cell (Below.refl _ w4) hC4 1 rfl
    have x0 := below_cell (Below.refl _ w4) hA4 0 rfl
    have x1 := below_cell (Below.refl _ w4) hA4 1 rfl
    go_wp2_with fail
    refine (HC.out w4 (HD.out.below hw4)).mono ?_
    rintro e w5 ⟨dv, rfl, hd5, hb5⟩
    obtain ⟨p, pc, p', pc', rfl, _⟩ := hd5.form
    generalize (flushD d).secs.length = n at *
    generalize (flushD d).pend.length = n' at *
    have hB5 := (hb5.block _ (Array.getElem?_eq_some_iff.1 hB4).1).trans hB4
    have hT5 := (hb5.block _ (Array.getElem?_eq_some_iff.1 hT4).1).trans hT4
    have hw5 := hw4.trans (hb5.mono hw4.size)
    clear hA4 hB4 hC4 hT4 hw4 hb5 x0 x1 c0 c1 HC HD
    have t0 := below_cell (Below.refl _ w5) hT5 0 rfl
    have t1 := below_cell (Below.refl _ w5) hT5 1 rfl
    have g0 := block_frozen hT5 0
    have g1 := block_frozen hT5 1
    go_upto_region 10 with fail
    have hd6 := disk_setT hd5 hT5 (no_text _ _ _ _ _ _ _) (.slice p n pc) (.slice p' n' pc')
    have hT6 := block_set (block_set hT5 0 (.slice p n pc)) 1 (.slice p' n' pc')
    have hw6 := set2_below hw5 hz3 (.slice p n pc) (.slice p' n' pc')
    have hB6 := ((Below.heap_setCell (w5.setCell ⟨w3.heap.size, 0, none⟩ (.slice p n pc)) ⟨w3.heap.size, 1, none⟩ (.slice p' n' pc') (w.heap.size + 2) (Nat.ne_of_lt hzB)).trans (Below.heap_setCell w5 ⟨w3.heap.size, 0, none⟩ (.slice p n pc) (w.heap.size + 2) (Nat.ne_of_lt hzB))).trans hB5
    obtain ⟨w6, hW6⟩ : ∃ w6, (w5.setCell ⟨w3.heap.size, 0, none⟩ (.slice p n pc)).setCell ⟨w3.heap.size, 1, none⟩ (.slice p' n' pc') = w6 := ⟨_, rfl⟩
    rw [hW6] at hd6 hT6 hw6 hB6 ⊢
    clear hW6 t0 t1 g0 g1 hT5 hw5 hB5 hd5
    have t0 := below_cell (Below.refl _ w6) hT6 0 rfl
    have t1 := below_cell (Below.refl _ w6) hT6 1 rfl
    have t2 := below_cell (Below.refl _ w6) hT6 2 rfl
    have e0 := below_cell (Below.refl _ w6) hB6 0 rfl
    have e1 := below_cell (Below.refl _ w6) hB6 1 rfl
    have e2 := below_cell (Below.refl _ w6) hB6 2 rfl
    have f0 := block_frozen hB6 0
    have f1 := block_frozen hB6 1
    have f2 := block_frozen hB6 2
    have hset := set3_block hB6 (.slice p n pc) (.slice p' n' pc') (.int .i64 (left - 1))
    have hp6 : IsPower w6 (.agg #[.slice p n pc, .slice p' n' pc', .int .i64 (left - 1)]) (flushD d) (left - 1) := power_of (left - 1) hd6
    have hp7 := hp6.apart hB6 (no_text _ _ _ _ _ _ _) (Nat.le_of_eq (set3_size w6 (w.heap.size + 2) (.slice p n pc) (.slice p' n' pc') (.int .i64 (left - 1))).symm) (set3_other w6 (w.heap.size + 2) (.slice p n pc) (.slice p' n' pc') (.int .i64 (left - 1)))
    have hw7 := set3_below hw6 (show w.heap.size ≤ w.heap.size + 2 by omega) (.slice p n pc) (.slice p' n' pc') (.int .i64 (left - 1))
    have HSET := Lib.hid hset; have HP7 := Lib.hid hp7; have HW7 := Lib.hid hw7
    clear hset hp6 hp7 hw7 hd6 hT6 hB6 hw6
    unfold set3 at HSET HP7 HW7
    go_wp2_with fail
    refine bodyPost_ret (results_row_tmp rfl _ _ (w.heap.size + 2) _ _ _ _ rfl HSET.out Tryd.underlying31 rfl (by kernel_rfl)) rfl ⟨.agg #[.slice p n pc, .slice p' n' pc', .int .i64 (left - 1)], by first | (simp; rfl) | (simp; done), by rw [hsp]; exact HP7.out, HW7.out⟩
  · have hsp : spentI left = left := if_neg hp
    go_upto_region 8 with fail
    have hA4 := (heap_alloc_old w3 (.cells #[.slice none 0 0, .slice none 0 0, .int .i64 (left)] 31) (Array.getElem?_eq_some_iff.1 hA3).1).trans hA3
    have hB4 := (heap_alloc_old w3 (.cells #[.slice none 0 0, .slice none 0 0, .int .i64 (left)] 31) (Array.getElem?_eq_some_iff.1 hB3).1).trans hB3
    have hC4 := (heap_alloc_old w3 (.cells #[.slice none 0 0, .slice none 0 0, .int .i64 (left)] 31) (Array.getElem?_eq_some_iff.1 hC3).1).trans hC3
    have hT4 := heap_alloc_new w3 (.cells #[.slice none 0 0, .slice none 0 0, .int .i64 (left)] 31)
    have hw4 : Below w.heap.size w (w3.alloc (.cells #[.slice none 0 0, .slice none 0 0, .int .i64 (left)] 31)) := hw3.alloc hw3.size _
    have hz3 := hw3.size
    have hzB := (Array.getElem?_eq_some_iff.1 hB3).1
    obtain ⟨w4, hW4⟩ : ∃ w4, w3.alloc (.cells #[.slice none 0 0, .slice none 0 0, .int .i64 (left)] 31) = w4 := ⟨_, rfl⟩
    rw [hW4] at hA4 hB4 hC4 hT4 hw4 ⊢
    clear hW4 x0 x1 x2 hA3 hB3 hC3 hw3 x0' x2'
    have c0 := below_cell (Below.refl _ w4) hC4 0 rfl
    have c1 := below_cell (Below.refl _ w4) hC4 1 rfl
    have x0 := below_cell (Below.refl _ w4) hA4 0 rfl
    have x1 := below_cell (Below.refl _ w4) hA4 1 rfl
    go_wp2_with fail
    refine (HC.out w4 (HD.out.below hw4)).mono ?_
    rintro e w5 ⟨dv, rfl, hd5, hb5⟩
    obtain ⟨p, pc, p', pc', rfl, _⟩ := hd5.form
    generalize (flushD d).secs.length = n at *
    generalize (flushD d).pend.length = n' at *
    have hB5 := (hb5.block _ (Array.getElem?_eq_some_iff.1 hB4).1).trans hB4
    have hT5 := (hb5.block _ (Array.getElem?_eq_some_iff.1 hT4).1).trans hT4
    have hw5 := hw4.trans (hb5.mono hw4.size)
    clear hA4 hB4 hC4 hT4 hw4 hb5 x0 x1 c0 c1 HC HD
    have t0 := below_cell (Below.refl _ w5) hT5 0 rfl
    have t1 := below_cell (Below.refl _ w5) hT5 1 rfl
    have g0 := block_frozen hT5 0
    have g1 := block_frozen hT5 1
    go_upto_region 10 with fail
    have hd6 := disk_setT hd5 hT5 (no_text _ _ _ _ _ _ _) (.slice p n pc) (.slice p' n' pc')
    have hT6 := block_set (block_set hT5 0 (.slice p n pc)) 1 (.slice p' n' pc')
    have hw6 := set2_below hw5 hz3 (.slice p n pc) (.slice p' n' pc')
    have hB6 := ((Below.heap_setCell (w5.setCell ⟨w3.heap.size, 0, none⟩ (.slice p n pc)) ⟨w3.heap.size, 1, none⟩ (.slice p' n' pc') (w.heap.size + 2) (Nat.ne_of_lt hzB)).trans (Below.heap_setCell w5 ⟨w3.heap.size, 0, none⟩ (.slice p n pc) (w.heap.size + 2) (Nat.ne_of_lt hzB))).trans hB5
    obtain ⟨w6, hW6⟩ : ∃ w6, (w5.setCell ⟨w3.heap.size, 0, none⟩ (.slice p n pc)).setCell ⟨w3.heap.size, 1, none⟩ (.slice p' n' pc') = w6 := ⟨_, rfl⟩
    rw [hW6] at hd6 hT6 hw6 hB6 ⊢
    clear hW6 t0 t1 g0 g1 hT5 hw5 hB5 hd5
    have t0 := below_cell (Below.refl _ w6) hT6 0 rfl
    have t1 := below_cell (Below.refl _ w6) hT6 1 rfl
    have t2 := below_cell (Below.refl _ w6) hT6 2 rfl
    have e0 := below_cell (Below.refl _ w6) hB6 0 rfl
    have e1 := below_cell (Below.refl _ w6) hB6 1 rfl
    have e2 := below_cell (Below.refl _ w6) hB6 2 rfl
    have f0 := block_frozen hB6 0
    have f1 := block_frozen hB6 1
    have f2 := block_frozen hB6 2
    have hset := set3_block hB6 (.slice p n pc) (.slice p' n' pc') (.int .i64 (left))
    have hp6 : IsPower w6 (.agg #[.slice p n pc, .slice p' n' pc', .int .i64 (left)]) (flushD d) (left) := power_of (left) hd6
    have hp7 := hp6.apart hB6 (no_text _ _ _ _ _ _ _) (Nat.le_of_eq (set3_size w6 (w.heap.size + 2) (.slice p n pc) (.slice p' n' pc') (.int .i64 (left))).symm) (set3_other w6 (w.heap.size + 2) (.slice p n pc) (.slice p' n' pc') (.int .i64 (left)))
    have hw7 := set3_below hw6 (show w.heap.size ≤ w.heap.size + 2 by omega) (.slice p n pc) (.slice p' n' pc') (.int .i64 (left))
    have HSET := Lib.hid hset; have HP7 := Lib.hid hp7; have HW7 := Lib.hid hw7
    clear hset hp6 hp7 hw7 hd6 hT6 hB6 hw6
    unfold set3 at HSET HP7 HW7
    go_wp2_with fail
    refine bodyPost_ret (results_row_tmp rfl _ _ (w.heap.size + 2) _ _ _ _ rfl HSET.out Tryd.underlying31 rfl (by kernel_rfl)) rfl ⟨.agg #[.slice p n pc, .slice p' n' pc', .int .i64 (left)], by first | (simp; rfl) | (simp; done), by rw [hsp]; exact HP7.out, HW7.out⟩
theorem wpList_extend_none {P : Program} {ops : Array Oper} {rest : List Oper} {o : Oper} {a : Act} {Q : Exit → Act → World → Prop} {w : World}
    (s x : Operand) (t : TypeId) {c : Nat} (hgd : o.guard = none) (ho : o.op = .call { callee := .builtin .append, args := #[s, x], argTypes := #[t, t] })
    (e : TypeId) {i : TypeInfo} (ht : P.underlying t = some (.slice e)) (hi : P.info? e = some i)
    (hs : a.eval s = .slice none 0 0) (hx : a.eval x = .slice none 0 c) (h : wpList P ops Q rest (a.put o.dst (.slice none 0 0)) w) : wpList P ops Q (o :: rest) a w := by
  refine wpList_plain hgd fun K hK' => ?_
  have hrun : (Builtin.append_ #[t, t] o.type #[.slice none 0 0, .slice none 0 c]).run P w = .ok (.slice none 0 0) w := by
    simp [Builtin.append_, run_underlying ht, sizeOf, typeInfo, hi, Builtin.lenOf, Builtin.firstCells]
  unfold Oper.wp
  simp [execOp, ho, resolve, invoke, builtin, hs, hx, hrun, Result.andThen]
  exact hK' _ _ h
set_option maxRecDepth 100000 in
set_option maxHeartbeats 1000000 in
theorem refDo_write (v : Value) (d : Dsk) (left s : Int) (x : ByteArray) (w : World) (h : IsPower w v d left) (hlo : -9223372036854775808 ≤ left) (hhi : left ≤ 9223372036854775807) (h0 : left ≠ 0) (hr : rightD d = true) (hs : 0 ≤ s ∧ s < d.secs.length)
    (hx : (trimS x).size ≤ 512) (hxs : x.size ≤ 9223372036854775807) (hk4 : d.pend.length ≤ 1000) :
    Calls Tryd.prog 15 #[v, .agg #[.int .i64 s, .string x]] w fun e w' => ∃ v', e = .returned (.tuple #[v', .int .i64 0]) ∧ IsPower w' v' (writeD d s x) (spentI left) ∧ Below w.heap.size w w' := by
  obtain ⟨i0, hi, hz0, hz1, hz2⟩ := info_parts infoWrt
  have hrl := right_len d hr
  obtain ⟨a, cap, a', cap', rfl, hd⟩ := h.form
  have HR := Lib.hid (fun u hu => refDiskRight_any (.agg #[.slice a d.secs.length cap, .slice a' d.pend.length cap']) d u hu)
  rw [hr] at HR
  have HT := Lib.hid (fun u => refTrim_any x u hxs)
  have HD := Lib.hid hd
  have HPB := Lib.hid (wrts_bnd hd.pend)
  have HPA := Lib.hid hd.pend
  have HSA := Lib.hid hd.secs
  have hml : d.secs.length ≤ cap := by have := hd.form; obtain ⟨_, _, _, _, e, h1, _⟩ := this; injection e with e; have f1 := congrArg (fun z : Array Value => z[0]?) e; simp at f1; omega
  generalize hm : d.secs.length = m at *
  generalize hk : d.pend.length = k at *
  generalize hX : trimS x = X at *
  have hmI : ¬ (m : Int) ≤ s := by omega
  have hmI2 : s < (m : Int) := by omega
  have hs0 : ¬ s < 0 := by omega
  have hs00 : 0 ≤ s := hs.1
  have hXI : ¬ (512 : Int) < X.size := by omega
  have hXI2 : (X.size : Int) ≤ 512 := by omega
  have h0' : (left == 0) = false := by rw [beq_eq_false_iff_ne]; exact h0
  have HK := Lib.hid hk; have HX := Lib.hid hX; have HS := Lib.hid hs; have HM := Lib.hid hm
  clear h hd hr hm hk hX hs hx
  go_enter Tryd.func15, Tryd.ntmps15
  go_wp2_with fail
  have hw2 : Below w.heap.size w (((w.alloc (.cells #[.slice a m cap, .slice a' k cap', .int .i64 left] 31)).alloc (.cells #[.int .i64 s, .string x] 44)).alloc (.cells #[.slice none 0 0, .slice none 0 0, .int .i64 0] 31)) := (((Below.refl w.heap.size w).alloc (Nat.le_refl _) _).alloc (by simp) _).alloc (by simp; omega) _
  have hA2 := heap3_old w (.cells #[.slice a m cap, .slice a' k cap', .int .i64 left] 31) (.cells #[.int .i64 s, .string x] 44) (.cells #[.slice none 0 0, .slice none 0 0, .int .i64 0] 31)
  have hC2 := heap3_mid w (.cells #[.slice a m cap, .slice a' k cap', .int .i64 left] 31) (.cells #[.int .i64 s, .string x] 44) (.cells #[.slice none 0 0, .slice none 0 0, .int .i64 0] 31)
  have hB2 := heap3_new w (.cells #[.slice a m cap, .slice a' k cap', .int .i64 left] 31) (.cells #[.int .i64 s, .string x] 44) (.cells #[.slice none 0 0, .slice none 0 0, .int .i64 0] 31)
  obtain ⟨w2, hW2⟩ : ∃ w2, ((w.alloc (.cells #[.slice a m cap, .slice a' k cap', .int .i64 left] 31)).alloc (.cells #[.int .i64 s, .string x] 44)).alloc (.cells #[.slice none 0 0, .slice none 0 0, .int .i64 0] 31) = w2 := ⟨_, rfl⟩
  rw [hW2] at hw2 hA2 hC2 hB2 ⊢
  clear hW2
  have x0 := below_cell (Below.refl _ w2) hA2 0 rfl
  have x1 := below_cell (Below.refl _ w2) hA2 1 rfl
  go_wp2_with fail
  refine (HR.out w2 (HD.out.below hw2)).mono ?_
  rintro e w3 ⟨rfl, hb3⟩
  have hA3 := (hb3.block _ (Array.getElem?_eq_some_iff.1 hA2).1).trans hA2
  have hB3 := (hb3.block _ (Array.getElem?_eq_some_iff.1 hB2).1).trans hB2
  have hC3 := (hb3.block _ (Array.getElem?_eq_some_iff.1 hC2).1).trans hC2
  have hw3 := hw2.trans (hb3.mono hw2.size)
  clear hA2 hB2 hC2 hw2 hb3 x0 x1 HR
  have x0 := below_cell (Below.refl _ w3) hA3 0 rfl
  have x1 := below_cell (Below.refl _ w3) hA3 1 rfl
  have x2 := below_cell (Below.refl _ w3) hA3 2 rfl
  have x0' := fun o : Obj => (World.cell?_of_block (a := ⟨w.heap.size, 0, none⟩) (Below.heap_alloc w3 o w.heap.size (Array.getElem?_eq_some_iff.1 hA3).1)).trans x0
  have x2' := fun o : Obj => (World.cell?_of_block (a := ⟨w.heap.size, 2, none⟩) (Below.heap_alloc w3 o w.heap.size (Array.getElem?_eq_some_iff.1 hA3).1)).trans x2
  by_cases hp : 0 < left
  · have hsp : spentI left = left - 1 := if_pos hp
    go_upto_region 8 with fail
    have hA4 := (heap_alloc_old w3 (.cells #[.slice none 0 0, .slice none 0 0, .int .i64 (left - 1)] 31) (Array.getElem?_eq_some_iff.1 hA3).1).trans hA3
    have hB4 := (heap_alloc_old w3 (.cells #[.slice none 0 0, .slice none 0 0, .int .i64 (left - 1)] 31) (Array.getElem?_eq_some_iff.1 hB3).1).trans hB3
    have hC4 := (heap_alloc_old w3 (.cells #[.slice none 0 0, .slice none 0 0, .int .i64 (left - 1)] 31) (Array.getElem?_eq_some_iff.1 hC3).1).trans hC3
    have hT4 := heap_alloc_new w3 (.cells #[.slice none 0 0, .slice none 0 0, .int .i64 (left - 1)] 31)
    have hw4 : Below w.heap.size w (w3.alloc (.cells #[.slice none 0 0, .slice none 0 0, .int .i64 (left - 1)] 31)) := hw3.alloc hw3.size _
    have hz3 := hw3.size
    have hzB := (Array.getElem?_eq_some_iff.1 hB3).1
    obtain ⟨w4, hW4⟩ : ∃ w4, w3.alloc (.cells #[.slice none 0 0, .slice none 0 0, .int .i64 (left - 1)] 31) = w4 := ⟨_, rfl⟩
    rw [hW4] at hA4 hB4 hC4 hT4 hw4 ⊢
    clear hW4 x0 x1 x2 hA3 hB3 hC3 hw3 x0' x2'
    have c0 := below_cell (Below.refl _ w4) hC4 0 rfl
    have c1 := below_cell (Below.refl _ w4) hC4 1 rfl
    have x0 := below_cell (Below.refl _ w4) hA4 0 rfl
    have x1 := below_cell (Below.refl _ w4) hA4 1 rfl
    have t0 := below_cell (Below.refl _ w4) hT4 0 rfl
    have t1 := below_cell (Below.refl _ w4) hT4 1 rfl
    have t2 := below_cell (Below.refl _ w4) hT4 2 rfl
    have g0 := block_frozen hT4 0
    go_upto_region 11 with fail
    go_wp2_with fail
    refine (HT.out w4).mono ?_
    rintro e w5 ⟨rfl, rfl⟩
    clear HT
    go_upto_region 17 with fail
    have hT5 := block_set hT4 0 (.slice a m cap)
    rw [show ((#[Value.slice none 0 0, .slice none 0 0, .int .i64 (left - 1)] : Array Value).setIfInBounds 0 (.slice a m cap)) = #[.slice a m cap, .slice none 0 0, .int .i64 (left - 1)] from rfl] at hT5
    have hw5 := hw4.setCell (p := ⟨w3.heap.size, 0, none⟩) hz3 (.slice a m cap)
    have hA5 := (Below.heap_setCell w4 ⟨w3.heap.size, 0, none⟩ (.slice a m cap) w.heap.size (by show w.heap.size ≠ w3.heap.size; omega)).trans hA4
    have hB5 := (Below.heap_setCell w4 ⟨w3.heap.size, 0, none⟩ (.slice a m cap) (w.heap.size + 2) (Nat.ne_of_lt hzB)).trans hB4
    have hC5 := (Below.heap_setCell w4 ⟨w3.heap.size, 0, none⟩ (.slice a m cap) (w.heap.size + 1) (by show w.heap.size + 1 ≠ w3.heap.size; omega)).trans hC4
    obtain ⟨w5, hW5⟩ : ∃ w5, w4.setCell ⟨w3.heap.size, 0, none⟩ (.slice a m cap) = w5 := ⟨_, rfl⟩
    rw [hW5] at hT5 hw5 hA5 hB5 hC5 ⊢
    clear hW5 hA4 hB4 hC4 hT4 hw4 x0 x1 c0 c1 t0 t1 t2 g0
    have x0 := below_cell (Below.refl _ w5) hA5 0 rfl
    have x1 := below_cell (Below.refl _ w5) hA5 1 rfl
    have t0 := below_cell (Below.refl _ w5) hT5 0 rfl
    have t1 := below_cell (Below.refl _ w5) hT5 1 rfl
    have t2 := below_cell (Below.refl _ w5) hT5 2 rfl
    have g1 := block_frozen hT5 1
    have hb55 := Below.refl w5.heap.size w5
    have hnil := World.ownsRow_nil w5 w5.heap.size 50 2
    have hwl : (wcells d.pend).length = k * 2 := by rw [wcells_len, HK.out]
    have h1c := wcells_one d.pend
    have hkey : ∃ src, (src = true ∧ a' = none ∧ k = 0) ∨ (src = false ∧ ∃ ad, a' = some ad ∧ ∀ j u, (wcells d.pend)[j]? = some u → w5.cell? (ad.add j) = some u) := by
      obtain ⟨_, _, _, e, hl, _, _, _, hat⟩ := HPA.out
      injection e with e1 e2 e3
      subst e1 e2 e3
      cases a' with
      | none =>
        refine ⟨true, .inl ⟨rfl, rfl, ?_⟩⟩
        rcases hat with h | ⟨b, off, h, _⟩
        · exact h
        · cases h
      | some ad =>
        refine ⟨false, .inr ⟨rfl, ad, rfl, fun j u hj => ?_⟩⟩
        obtain ⟨i, hil, hh⟩ := wcells_at d.pend j u hj
        obtain ⟨b, off, e, hb, hcc⟩ := hat.resolve_left (by omega)
        cases e
        obtain ⟨q0, q1⟩ := (hcc i (by omega)).below hw5 hb
        rw [addr_add]
        rcases hh with ⟨rfl, rfl⟩ | ⟨rfl, rfl⟩
        · exact q0
        · exact q1
    have HKEY := Lib.hid hkey
    have HWL := Lib.hid hwl
    clear hkey hwl
    have hzT : w3.heap.size < w5.heap.size := (Array.getElem?_eq_some_iff.1 hT5).1
    obtain ⟨src, ⟨_, rfl, hk0⟩ | ⟨_, ad, rfl, hsrc⟩⟩ := HKEY.out
    · clear HKEY
      subst hk0
      have hb8 := Below.refl w5.heap.size w5
      have hwn : wcells d.pend = [] := List.length_eq_zero_iff.1 (by have := HWL.out; omega)
      have hown8 : w5.ownsRow w5.heap.size 50 2 (.slice none 0 0) 0 (wcells d.pend) := by rw [hwn]; exact hnil
      have hT8 := (hb8.block _ (Array.getElem?_eq_some_iff.1 hT5).1).trans hT5
      have hB8 := (hb8.block _ (Array.getElem?_eq_some_iff.1 hB5).1).trans hB5
      have hC8 := (hb8.block _ (Array.getElem?_eq_some_iff.1 hC5).1).trans hC5
      have hw8 := hw5.trans (hb8.mono hw5.size)
      have t1 := below_cell (Below.refl _ w5) hT8 1 rfl
      have g1 := block_frozen hT8 1
      go_upto_region 18 with (first | (at_builtin; go_must (refine wpList_extend_none _ _ 23 rfl rfl 50 Tryd.underlying23 hi rfl rfl ?_)))
      have hown9 := ownsRow_setCell_below hown8 (a := ⟨w3.heap.size, 1, none⟩) hzT (.slice none 0 0)
      have hbb9 := hb8.size
      have hT9 := block_set hT8 1 (.slice none 0 0)
      rw [show ((#[Value.slice a m cap, .slice none 0 0, .int .i64 (left - 1)] : Array Value).setIfInBounds 1 (.slice none 0 0)) = #[.slice a m cap, .slice none 0 0, .int .i64 (left - 1)] from rfl] at hT9
      have hw9 := hw5.setCell (p := ⟨w3.heap.size, 1, none⟩) hz3 (.slice none 0 0)
      have hB9 := (Below.heap_setCell w5 ⟨w3.heap.size, 1, none⟩ (.slice none 0 0) (w.heap.size + 2) (Nat.ne_of_lt hzB)).trans hB8
      have hC9 := (Below.heap_setCell w5 ⟨w3.heap.size, 1, none⟩ (.slice none 0 0) (w.heap.size + 1) (by show w.heap.size + 1 ≠ w3.heap.size; omega)).trans hC8
      have hsz9 : w5.heap.size ≤ (w5.setCell ⟨w3.heap.size, 1, none⟩ (.slice none 0 0)).heap.size := by first | (simp; done) | simpa using hb8.size
      obtain ⟨w9, hW9⟩ : ∃ w9, w5.setCell ⟨w3.heap.size, 1, none⟩ (.slice none 0 0) = w9 := ⟨_, rfl⟩
      rw [hW9] at hown9 hT9 hw9 hB9 hC9 hsz9 ⊢
      clear hW9 hown8 hT8 hw8 hB8 hC8 t1 g1 hbb9
      have t0 := below_cell (Below.refl _ w9) hT9 0 rfl
      have t1 := below_cell (Below.refl _ w9) hT9 1 rfl
      have t2 := below_cell (Below.refl _ w9) hT9 2 rfl
      have c0 := below_cell (Below.refl _ w9) hC9 0 rfl
      have hzC := (Array.getElem?_eq_some_iff.1 hT9).1
      have hbr := (Below.refl w5.heap.size w9)
      go_wp2_with (first | (at_builtin; go_must (refine wpList_push _ _ 23 50 hown9 hbr hsz9 Tryd.underlying23 hi hz0 hz1 hz2 rfl (by decide) rfl rfl rfl rfl rfl ?c3 ?c4 ?_)))
      case c3 =>
        intro u hu
        simp only [List.mem_cons, List.not_mem_nil, or_false] at hu
        rcases hu with rfl | rfl <;> rfl
      case c4 => omega
      intro pw w10 hown10 hb10
      obtain ⟨na, nc, rfl⟩ := own_form hown10
      have hT10 := (hb10.block _ hzT).trans hT9
      have hB10 := (hb10.block _ (Nat.lt_trans hzB hzT)).trans hB9
      have hw10 := hw9.trans (hb10.mono (Nat.le_trans hw5.size (Nat.le_refl _)))
      have t0 := below_cell (Below.refl _ w10) hT10 0 rfl
      have t1 := below_cell (Below.refl _ w10) hT10 1 rfl
      have t2 := below_cell (Below.refl _ w10) hT10 2 rfl
      have g1 := block_frozen hT10 1
      clear hT9 hB9 hC9 hw9 hown9 hbr c0
      go_upto_region 19 with fail
      have hown11 := ownsRow_setCell_below hown10 (a := ⟨w3.heap.size, 1, none⟩) hzT (.slice na (0 + 1) nc)
      have hT11 := block_set hT10 1 (.slice na (0 + 1) nc)
      rw [show ((#[Value.slice a m cap, .slice none 0 0, .int .i64 (left - 1)] : Array Value).setIfInBounds 1 (.slice na (0 + 1) nc)) = #[.slice a m cap, .slice na (0 + 1) nc, .int .i64 (left - 1)] from rfl] at hT11
      have hw11 := hw10.setCell (p := ⟨w3.heap.size, 1, none⟩) hz3 (.slice na (0 + 1) nc)
      have hB11 := (Below.heap_setCell w10 ⟨w3.heap.size, 1, none⟩ (.slice na (0 + 1) nc) (w.heap.size + 2) (Nat.ne_of_lt hzB)).trans hB10
      obtain ⟨w11, hW11⟩ : ∃ w11, w10.setCell ⟨w3.heap.size, 1, none⟩ (.slice na (0 + 1) nc) = w11 := ⟨_, rfl⟩
      rw [hW11] at hown11 hT11 hw11 hB11 ⊢
      clear hW11 hown10 hT10 hw10 hB10 t0 t1 t2 g1 hb10
      have t0 := below_cell (Below.refl _ w11) hT11 0 rfl
      have t1 := below_cell (Below.refl _ w11) hT11 1 rfl
      have t2 := below_cell (Below.refl _ w11) hT11 2 rfl
      have e0 := below_cell (Below.refl _ w11) hB11 0 rfl
      have e1 := below_cell (Below.refl _ w11) hB11 1 rfl
      have e2 := below_cell (Below.refl _ w11) hB11 2 rfl
      have f0 := block_frozen hB11 0
      have f1 := block_frozen hB11 1
      have f2 := block_frozen hB11 2
      have hset := set3_block hB11 (.slice a m cap) (.slice na (0 + 1) nc) (.int .i64 (left - 1))
      have hw12 := set3_below hw11 (show w.heap.size ≤ w.heap.size + 2 by omega) (.slice a m cap) (.slice na (0 + 1) nc) (.int .i64 (left - 1))
      have hown12 := ownsRow_setCell_below (ownsRow_setCell_below (ownsRow_setCell_below hown11 (a := ⟨w.heap.size + 2, 0, none⟩) (Nat.lt_trans hzB hzT) (.slice a m cap)) (a := ⟨w.heap.size + 2, 1, none⟩) (Nat.lt_trans hzB hzT) (.slice na (0 + 1) nc)) (a := ⟨w.heap.size + 2, 2, none⟩) (Nat.lt_trans hzB hzT) (.int .i64 (left - 1))
      have hnb : ∀ y ∈ d.pend ++ [(⟨s, X⟩ : Wrt)], y.bounded := by
        intro y hy
        rcases List.mem_append.1 hy with hy | hy
        · exact HPB.out y hy
        · rw [List.mem_singleton.1 hy]
          have := HS.out
          exact ⟨⟨by show _ ≤ s; omega, by show s ≤ _; omega⟩, by show X.size ≤ _; omega⟩
      have hown13 : (set3 w11 (w.heap.size + 2) (.slice a m cap) (.slice na (0 + 1) nc) (.int .i64 (left - 1))).ownsRow w5.heap.size 50 2 (.slice na (0 + 1) nc) (0 + 1) (wcells (d.pend ++ [⟨s, X⟩])) := by
        rw [wcells_append]
        first | exact hown12 | (rw [hwn]; exact hown12)
      have hfin := own_wrts hown13 hnb
      have HSET := Lib.hid hset; have HW7 := Lib.hid hw12; have HF := Lib.hid hfin
      clear hset hw12 hown12 hown13 hown11 hT11 hB11 hw11 hnb hfin
      unfold set3 at HSET HW7 HF
      go_wp2_with fail
      refine bodyPost_ret (results_row_tmp rfl _ _ (w.heap.size + 2) _ _ _ _ rfl HSET.out Tryd.underlying31 rfl (by kernel_rfl)) rfl ⟨.agg #[.slice a m cap, .slice na (0 + 1) nc, .int .i64 (left - 1)], by first | (simp; rfl) | (simp; done), ?_, HW7.out⟩
      rw [hsp]
      refine ⟨_, _, rfl, HSA.out.below HW7.out, ?_⟩
      show IsWrts _ _ (d.pend ++ [⟨s, trimS x⟩])
      rw [HX.out]
      exact HF.out
    · have HSRC := Lib.hid hsrc
      clear HKEY hsrc
      go_wp2_with (first | (at_builtin; go_must (refine wpList_extend _ _ 23 50 (wcells d.pend) hnil hb55 (Nat.le_refl _) Tryd.underlying23 hi hz0 hz1 hz2 rfl (by decide) rfl rfl rfl rfl (.inr ⟨_, rfl, HSRC.out⟩) HWL.out h1c ?c2 ?_)))
      case c2 => omega
      intro v8 w8 hown8 hb8
      obtain ⟨pa, pc, rfl⟩ := own_form hown8
      have hT8 := (hb8.block _ (Array.getElem?_eq_some_iff.1 hT5).1).trans hT5
      have hB8 := (hb8.block _ (Array.getElem?_eq_some_iff.1 hB5).1).trans hB5
      have hC8 := (hb8.block _ (Array.getElem?_eq_some_iff.1 hC5).1).trans hC5
      have hw8 := hw5.trans (hb8.mono hw5.size)
      have t1 := below_cell (Below.refl _ w8) hT8 1 rfl
      have g1 := block_frozen hT8 1
      go_upto_region 18 with fail
      have hown9 := ownsRow_setCell_below hown8 (a := ⟨w3.heap.size, 1, none⟩) hzT (.slice pa k pc)
      have hbb9 := hb8.size
      have hT9 := block_set hT8 1 (.slice pa k pc)
      rw [show ((#[Value.slice a m cap, .slice none 0 0, .int .i64 (left - 1)] : Array Value).setIfInBounds 1 (.slice pa k pc)) = #[.slice a m cap, .slice pa k pc, .int .i64 (left - 1)] from rfl] at hT9
      have hw9 := hw8.setCell (p := ⟨w3.heap.size, 1, none⟩) hz3 (.slice pa k pc)
      have hB9 := (Below.heap_setCell w8 ⟨w3.heap.size, 1, none⟩ (.slice pa k pc) (w.heap.size + 2) (Nat.ne_of_lt hzB)).trans hB8
      have hC9 := (Below.heap_setCell w8 ⟨w3.heap.size, 1, none⟩ (.slice pa k pc) (w.heap.size + 1) (by show w.heap.size + 1 ≠ w3.heap.size; omega)).trans hC8
      have hsz9 : w5.heap.size ≤ (w8.setCell ⟨w3.heap.size, 1, none⟩ (.slice pa k pc)).heap.size := by first | (simp; done) | simpa using hb8.size
      obtain ⟨w9, hW9⟩ : ∃ w9, w8.setCell ⟨w3.heap.size, 1, none⟩ (.slice pa k pc) = w9 := ⟨_, rfl⟩
      rw [hW9] at hown9 hT9 hw9 hB9 hC9 hsz9 ⊢
      clear hW9 hown8 hT8 hw8 hB8 hC8 t1 g1 hbb9
      have t0 := below_cell (Below.refl _ w9) hT9 0 rfl
      have t1 := below_cell (Below.refl _ w9) hT9 1 rfl
      have t2 := below_cell (Below.refl _ w9) hT9 2 rfl
      have c0 := below_cell (Below.refl _ w9) hC9 0 rfl
      have hzC := (Array.getElem?_eq_some_iff.1 hT9).1
      have hbr := (Below.refl w5.heap.size w9)
      go_wp2_with (first | (at_builtin; go_must (refine wpList_push _ _ 23 50 hown9 hbr hsz9 Tryd.underlying23 hi hz0 hz1 hz2 rfl (by decide) rfl rfl rfl rfl rfl ?c3 ?c4 ?_)))
      case c3 =>
        intro u hu
        simp only [List.mem_cons, List.not_mem_nil, or_false] at hu
        rcases hu with rfl | rfl <;> rfl
      case c4 => omega
      intro pw w10 hown10 hb10
      obtain ⟨na, nc, rfl⟩ := own_form hown10
      have hT10 := (hb10.block _ hzT).trans hT9
      have hB10 := (hb10.block _ (Nat.lt_trans hzB hzT)).trans hB9
      have hw10 := hw9.trans (hb10.mono (Nat.le_trans hw5.size (Nat.le_refl _)))
      have t0 := below_cell (Below.refl _ w10) hT10 0 rfl
      have t1 := below_cell (Below.refl _ w10) hT10 1 rfl
      have t2 := below_cell (Below.refl _ w10) hT10 2 rfl
      have g1 := block_frozen hT10 1
      clear hT9 hB9 hC9 hw9 hown9 hbr c0
      go_upto_region 19 with fail
      have hown11 := ownsRow_setCell_below hown10 (a := ⟨w3.heap.size, 1, none⟩) hzT (.slice na (k + 1) nc)
      have hT11 := block_set hT10 1 (.slice na (k + 1) nc)
      rw [show ((#[Value.slice a m cap, .slice pa k pc, .int .i64 (left - 1)] : Array Value).setIfInBounds 1 (.slice na (k + 1) nc)) = #[.slice a m cap, .slice na (k + 1) nc, .int .i64 (left - 1)] from rfl] at hT11
      have hw11 := hw10.setCell (p := ⟨w3.heap.size, 1, none⟩) hz3 (.slice na (k + 1) nc)
      have hB11 := (Below.heap_setCell w10 ⟨w3.heap.size, 1, none⟩ (.slice na (k + 1) nc) (w.heap.size + 2) (Nat.ne_of_lt hzB)).trans hB10
      obtain ⟨w11, hW11⟩ : ∃ w11, w10.setCell ⟨w3.heap.size, 1, none⟩ (.slice na (k + 1) nc) = w11 := ⟨_, rfl⟩
      rw [hW11] at hown11 hT11 hw11 hB11 ⊢
      clear hW11 hown10 hT10 hw10 hB10 t0 t1 t2 g1 hb10
      have t0 := below_cell (Below.refl _ w11) hT11 0 rfl
      have t1 := below_cell (Below.refl _ w11) hT11 1 rfl
      have t2 := below_cell (Below.refl _ w11) hT11 2 rfl
      have e0 := below_cell (Below.refl _ w11) hB11 0 rfl
      have e1 := below_cell (Below.refl _ w11) hB11 1 rfl
      have e2 := below_cell (Below.refl _ w11) hB11 2 rfl
      have f0 := block_frozen hB11 0
      have f1 := block_frozen hB11 1
      have f2 := block_frozen hB11 2
      have hset := set3_block hB11 (.slice a m cap) (.slice na (k + 1) nc) (.int .i64 (left - 1))
      have hw12 := set3_below hw11 (show w.heap.size ≤ w.heap.size + 2 by omega) (.slice a m cap) (.slice na (k + 1) nc) (.int .i64 (left - 1))
      have hown12 := ownsRow_setCell_below (ownsRow_setCell_below (ownsRow_setCell_below hown11 (a := ⟨w.heap.size + 2, 0, none⟩) (Nat.lt_trans hzB hzT) (.slice a m cap)) (a := ⟨w.heap.size + 2, 1, none⟩) (Nat.lt_trans hzB hzT) (.slice na (k + 1) nc)) (a := ⟨w.heap.size + 2, 2, none⟩) (Nat.lt_trans hzB hzT) (.int .i64 (left - 1))
      have hnb : ∀ y ∈ d.pend ++ [(⟨s, X⟩ : Wrt)], y.bounded := by
        intro y hy
        rcases List.mem_append.1 hy with hy | hy
        · exact HPB.out y hy
        · rw [List.mem_singleton.1 hy]
          have := HS.out
          exact ⟨⟨by show _ ≤ s; omega, by show s ≤ _; omega⟩, by show X.size ≤ _; omega⟩
      have hown13 : (set3 w11 (w.heap.size + 2) (.slice a m cap) (.slice na (k + 1) nc) (.int .i64 (left - 1))).ownsRow w5.heap.size 50 2 (.slice na (k + 1) nc) (k + 1) (wcells (d.pend ++ [⟨s, X⟩])) := by
        rw [wcells_append]
        first | exact hown12 | (rw [hwn]; exact hown12)
      have hfin := own_wrts hown13 hnb
      have HSET := Lib.hid hset; have HW7 := Lib.hid hw12; have HF := Lib.hid hfin
      clear hset hw12 hown12 hown13 hown11 hT11 hB11 hw11 hnb hfin
      unfold set3 at HSET HW7 HF
      go_wp2_with fail
      refine bodyPost_ret (results_row_tmp rfl _ _ (w.heap.size + 2) _ _ _ _ rfl HSET.out Tryd.underlying31 rfl (by kernel_rfl)) rfl ⟨.agg #[.slice a m cap, .slice na (k + 1) nc, .int .i64 (left - 1)], by first | (simp; rfl) | (simp; done), ?_, HW7.out⟩
      rw [hsp]
      refine ⟨_, _, rfl, HSA.out.below HW7.out, ?_⟩
      show IsWrts _ _ (d.pend ++ [⟨s, trimS x⟩])
      rw [HX.out]
      exact HF.out
  · have hsp : spentI left = left := if_neg hp
    go_upto_region 8 with fail
    have hA4 := (heap_alloc_old w3 (.cells #[.slice none 0 0, .slice none 0 0, .int .i64 (left)] 31) (Array.getElem?_eq_some_iff.1 hA3).1).trans hA3
    have hB4 := (heap_alloc_old w3 (.cells #[.slice none 0 0, .slice none 0 0, .int .i64 (left)] 31) (Array.getElem?_eq_some_iff.1 hB3).1).trans hB3
    have hC4 := (heap_alloc_old w3 (.cells #[.slice none 0 0, .slice none 0 0, .int .i64 (left)] 31) (Array.getElem?_eq_some_iff.1 hC3).1).trans hC3
    have hT4 := heap_alloc_new w3 (.cells #[.slice none 0 0, .slice none 0 0, .int .i64 (left)] 31)
    have hw4 : Below w.heap.size w (w3.alloc (.cells #[.slice none 0 0, .slice none 0 0, .int .i64 (left)] 31)) := hw3.alloc hw3.size _
    have hz3 := hw3.size
    have hzB := (Array.getElem?_eq_some_iff.1 hB3).1
    obtain ⟨w4, hW4⟩ : ∃ w4, w3.alloc (.cells #[.slice none 0 0, .slice none 0 0, .int .i64 (left)] 31) = w4 := ⟨_, rfl⟩
    rw [hW4] at hA4 hB4 hC4 hT4 hw4 ⊢
    clear hW4 x0 x1 x2 hA3 hB3 hC3 hw3 x0' x2'
    have c0 := below_cell (Below.refl _ w4) hC4 0 rfl
    have c1 := below_cell (Below.refl _ w4) hC4 1 rfl
    have x0 := below_cell (Below.refl _ w4) hA4 0 rfl
    have x1 := below_cell (Below.refl _ w4) hA4 1 rfl
    have t0 := below_cell (Below.refl _ w4) hT4 0 rfl
    have t1 := below_cell (Below.refl _ w4) hT4 1 rfl
    have t2 := below_cell (Below.refl _ w4) hT4 2 rfl
    have g0 := block_frozen hT4 0
    go_upto_region 11 with fail
    go_wp2_with fail
    refine (HT.out w4).mono ?_
    rintro e w5 ⟨rfl, rfl⟩
    clear HT
    go_upto_region 17 with fail
    have hT5 := block_set hT4 0 (.slice a m cap)
    rw [show ((#[Value.slice none 0 0, .slice none 0 0, .int .i64 (left)] : Array Value).setIfInBounds 0 (.slice a m cap)) = #[.slice a m cap, .slice none 0 0, .int .i64 (left)] from rfl] at hT5
    have hw5 := hw4.setCell (p := ⟨w3.heap.size, 0, none⟩) hz3 (.slice a m cap)
    have hA5 := (Below.heap_setCell w4 ⟨w3.heap.size, 0, none⟩ (.slice a m cap) w.heap.size (by show w.heap.size ≠ w3.heap.size; omega)).trans hA4
    have hB5 := (Below.heap_setCell w4 ⟨w3.heap.size, 0, none⟩ (.slice a m cap) (w.heap.size + 2) (Nat.ne_of_lt hzB)).trans hB4
    have hC5 := (Below.heap_setCell w4 ⟨w3.heap.size, 0, none⟩ (.slice a m cap) (w.heap.size + 1) (by show w.heap.size + 1 ≠ w3.heap.size; omega)).trans hC4
    obtain ⟨w5, hW5⟩ : ∃ w5, w4.setCell ⟨w3.heap.size, 0, none⟩ (.slice a m cap) = w5 := ⟨_, rfl⟩
    rw [hW5] at hT5 hw5 hA5 hB5 hC5 ⊢
    clear hW5 hA4 hB4 hC4 hT4 hw4 x0 x1 c0 c1 t0 t1 t2 g0
    have x0 := below_cell (Below.refl _ w5) hA5 0 rfl
    have x1 := below_cell (Below.refl _ w5) hA5 1 rfl
    have t0 := below_cell (Below.refl _ w5) hT5 0 rfl
    have t1 := below_cell (Below.refl _ w5) hT5 1 rfl
    have t2 := below_cell (Below.refl _ w5) hT5 2 rfl
    have g1 := block_frozen hT5 1
    have hb55 := Below.refl w5.heap.size w5
    have hnil := World.ownsRow_nil w5 w5.heap.size 50 2
    have hwl : (wcells d.pend).length = k * 2 := by rw [wcells_len, HK.out]
    have h1c := wcells_one d.pend
    have hkey : ∃ src, (src = true ∧ a' = none ∧ k = 0) ∨ (src = false ∧ ∃ ad, a' = some ad ∧ ∀ j u, (wcells d.pend)[j]? = some u → w5.cell? (ad.add j) = some u) := by
      obtain ⟨_, _, _, e, hl, _, _, _, hat⟩ := HPA.out
      injection e with e1 e2 e3
      subst e1 e2 e3
      cases a' with
      | none =>
        refine ⟨true, .inl ⟨rfl, rfl, ?_⟩⟩
        rcases hat with h | ⟨b, off, h, _⟩
        · exact h
        · cases h
      | some ad =>
        refine ⟨false, .inr ⟨rfl, ad, rfl, fun j u hj => ?_⟩⟩
        obtain ⟨i, hil, hh⟩ := wcells_at d.pend j u hj
        obtain ⟨b, off, e, hb, hcc⟩ := hat.resolve_left (by omega)
        cases e
        obtain ⟨q0, q1⟩ := (hcc i (by omega)).below hw5 hb
        rw [addr_add]
        rcases hh with ⟨rfl, rfl⟩ | ⟨rfl, rfl⟩
        · exact q0
        · exact q1
    have HKEY := Lib.hid hkey
    have HWL := Lib.hid hwl
    clear hkey hwl
    have hzT : w3.heap.size < w5.heap.size := (Array.getElem?_eq_some_iff.1 hT5).1
    obtain ⟨src, ⟨_, rfl, hk0⟩ | ⟨_, ad, rfl, hsrc⟩⟩ := HKEY.out
    · clear HKEY
      subst hk0
      have hb8 := Below.refl w5.heap.size w5
      have hwn : wcells d.pend = [] := List.length_eq_zero_iff.1 (by have := HWL.out; omega)
      have hown8 : w5.ownsRow w5.heap.size 50 2 (.slice none 0 0) 0 (wcells d.pend) := by rw [hwn]; exact hnil
      have hT8 := (hb8.block _ (Array.getElem?_eq_some_iff.1 hT5).1).trans hT5
      have hB8 := (hb8.block _ (Array.getElem?_eq_some_iff.1 hB5).1).trans hB5
      have hC8 := (hb8.block _ (Array.getElem?_eq_some_iff.1 hC5).1).trans hC5
      have hw8 := hw5.trans (hb8.mono hw5.size)
      have t1 := below_cell (Below.refl _ w5) hT8 1 rfl
      have g1 := block_frozen hT8 1
      go_upto_region 18 with (first | (at_builtin; go_must (refine wpList_extend_none _ _ 23 rfl rfl 50 Tryd.underlying23 hi rfl rfl ?_)))
      have hown9 := ownsRow_setCell_below hown8 (a := ⟨w3.heap.size, 1, none⟩) hzT (.slice none 0 0)
      have hbb9 := hb8.size
      have hT9 := block_set hT8 1 (.slice none 0 0)
      rw [show ((#[Value.slice a m cap, .slice none 0 0, .int .i64 (left)] : Array Value).setIfInBounds 1 (.slice none 0 0)) = #[.slice a m cap, .slice none 0 0, .int .i64 (left)] from rfl] at hT9
      have hw9 := hw5.setCell (p := ⟨w3.heap.size, 1, none⟩) hz3 (.slice none 0 0)
      have hB9 := (Below.heap_setCell w5 ⟨w3.heap.size, 1, none⟩ (.slice none 0 0) (w.heap.size + 2) (Nat.ne_of_lt hzB)).trans hB8
      have hC9 := (Below.heap_setCell w5 ⟨w3.heap.size, 1, none⟩ (.slice none 0 0) (w.heap.size + 1) (by show w.heap.size + 1 ≠ w3.heap.size; omega)).trans hC8
      have hsz9 : w5.heap.size ≤ (w5.setCell ⟨w3.heap.size, 1, none⟩ (.slice none 0 0)).heap.size := by first | (simp; done) | simpa using hb8.size
      obtain ⟨w9, hW9⟩ : ∃ w9, w5.setCell ⟨w3.heap.size, 1, none⟩ (.slice none 0 0) = w9 := ⟨_, rfl⟩
      rw [hW9] at hown9 hT9 hw9 hB9 hC9 hsz9 ⊢
      clear hW9 hown8 hT8 hw8 hB8 hC8 t1 g1 hbb9
      have t0 := below_cell (Below.refl _ w9) hT9 0 rfl
      have t1 := below_cell (Below.refl _ w9) hT9 1 rfl
      have t2 := below_cell (Below.refl _ w9) hT9 2 rfl
      have c0 := below_cell (Below.refl _ w9) hC9 0 rfl
      have hzC := (Array.getElem?_eq_some_iff.1 hT9).1
      have hbr := (Below.refl w5.heap.size w9)
      go_wp2_with (first | (at_builtin; go_must (refine wpList_push _ _ 23 50 hown9 hbr hsz9 Tryd.underlying23 hi hz0 hz1 hz2 rfl (by decide) rfl rfl rfl rfl rfl ?c3 ?c4 ?_)))
      case c3 =>
        intro u hu
        simp only [List.mem_cons, List.not_mem_nil, or_false] at hu
        rcases hu with rfl | rfl <;> rfl
      case c4 => omega
      intro pw w10 hown10 hb10
      obtain ⟨na, nc, rfl⟩ := own_form hown10
      have hT10 := (hb10.block _ hzT).trans hT9
      have hB10 := (hb10.block _ (Nat.lt_trans hzB hzT)).trans hB9
      have hw10 := hw9.trans (hb10.mono (Nat.le_trans hw5.size (Nat.le_refl _)))
      have t0 := below_cell (Below.refl _ w10) hT10 0 rfl
      have t1 := below_cell (Below.refl _ w10) hT10 1 rfl
      have t2 := below_cell (Below.refl _ w10) hT10 2 rfl
      have g1 := block_frozen hT10 1
      clear hT9 hB9 hC9 hw9 hown9 hbr c0
      go_upto_region 19 with fail
      have hown11 := ownsRow_setCell_below hown10 (a := ⟨w3.heap.size, 1, none⟩) hzT (.slice na (0 + 1) nc)
      have hT11 := block_set hT10 1 (.slice na (0 + 1) nc)
      rw [show ((#[Value.slice a m cap, .slice none 0 0, .int .i64 (left)] : Array Value).setIfInBounds 1 (.slice na (0 + 1) nc)) = #[.slice a m cap, .slice na (0 + 1) nc, .int .i64 (left)] from rfl] at hT11
      have hw11 := hw10.setCell (p := ⟨w3.heap.size, 1, none⟩) hz3 (.slice na (0 + 1) nc)
      have hB11 := (Below.heap_setCell w10 ⟨w3.heap.size, 1, none⟩ (.slice na (0 + 1) nc) (w.heap.size + 2) (Nat.ne_of_lt hzB)).trans hB10
      obtain ⟨w11, hW11⟩ : ∃ w11, w10.setCell ⟨w3.heap.size, 1, none⟩ (.slice na (0 + 1) nc) = w11 := ⟨_, rfl⟩
      rw [hW11] at hown11 hT11 hw11 hB11 ⊢
      clear hW11 hown10 hT10 hw10 hB10 t0 t1 t2 g1 hb10
      have t0 := below_cell (Below.refl _ w11) hT11 0 rfl
      have t1 := below_cell (Below.refl _ w11) hT11 1 rfl
      have t2 := below_cell (Below.refl _ w11) hT11 2 rfl
      have e0 := below_cell (Below.refl _ w11) hB11 0 rfl
      have e1 := below_cell (Below.refl _ w11) hB11 1 rfl
      have e2 := below_cell (Below.refl _ w11) hB11 2 rfl
      have f0 := block_frozen hB11 0
      have f1 := block_frozen hB11 1
      have f2 := block_frozen hB11 2
      have hset := set3_block hB11 (.slice a m cap) (.slice na (0 + 1) nc) (.int .i64 (left))
      have hw12 := set3_below hw11 (show w.heap.size ≤ w.heap.size + 2 by omega) (.slice a m cap) (.slice na (0 + 1) nc) (.int .i64 (left))
      have hown12 := ownsRow_setCell_below (ownsRow_setCell_below (ownsRow_setCell_below hown11 (a := ⟨w.heap.size + 2, 0, none⟩) (Nat.lt_trans hzB hzT) (.slice a m cap)) (a := ⟨w.heap.size + 2, 1, none⟩) (Nat.lt_trans hzB hzT) (.slice na (0 + 1) nc)) (a := ⟨w.heap.size + 2, 2, none⟩) (Nat.lt_trans hzB hzT) (.int .i64 (left))
      have hnb : ∀ y ∈ d.pend ++ [(⟨s, X⟩ : Wrt)], y.bounded := by
        intro y hy
        rcases List.mem_append.1 hy with hy | hy
        · exact HPB.out y hy
        · rw [List.mem_singleton.1 hy]
          have := HS.out
          exact ⟨⟨by show _ ≤ s; omega, by show s ≤ _; omega⟩, by show X.size ≤ _; omega⟩
      have hown13 : (set3 w11 (w.heap.size + 2) (.slice a m cap) (.slice na (0 + 1) nc) (.int .i64 (left))).ownsRow w5.heap.size 50 2 (.slice na (0 + 1) nc) (0 + 1) (wcells (d.pend ++ [⟨s, X⟩])) := by
        rw [wcells_append]
        first | exact hown12 | (rw [hwn]; exact hown12)
      have hfin := own_wrts hown13 hnb
      have HSET := Lib.hid hset; have HW7 := Lib.hid hw12; have HF := Lib.hid hfin
      clear hset hw12 hown12 hown13 hown11 hT11 hB11 hw11 hnb hfin
      unfold set3 at HSET HW7 HF
      go_wp2_with fail
      refine bodyPost_ret (results_row_tmp rfl _ _ (w.heap.size + 2) _ _ _ _ rfl HSET.out Tryd.underlying31 rfl (by kernel_rfl)) rfl ⟨.agg #[.slice a m cap, .slice na (0 + 1) nc, .int .i64 (left)], by first | (simp; rfl) | (simp; done), ?_, HW7.out⟩
      rw [hsp]
      refine ⟨_, _, rfl, HSA.out.below HW7.out, ?_⟩
      show IsWrts _ _ (d.pend ++ [⟨s, trimS x⟩])
      rw [HX.out]
      exact HF.out
    · have HSRC := Lib.hid hsrc
      clear HKEY hsrc
      go_wp2_with (first | (at_builtin; go_must (refine wpList_extend _ _ 23 50 (wcells d.pend) hnil hb55 (Nat.le_refl _) Tryd.underlying23 hi hz0 hz1 hz2 rfl (by decide) rfl rfl rfl rfl (.inr ⟨_, rfl, HSRC.out⟩) HWL.out h1c ?c2 ?_)))
      case c2 => omega
      intro v8 w8 hown8 hb8
      obtain ⟨pa, pc, rfl⟩ := own_form hown8
      have hT8 := (hb8.block _ (Array.getElem?_eq_some_iff.1 hT5).1).trans hT5
      have hB8 := (hb8.block _ (Array.getElem?_eq_some_iff.1 hB5).1).trans hB5
      have hC8 := (hb8.block _ (Array.getElem?_eq_some_iff.1 hC5).1).trans hC5
      have hw8 := hw5.trans (hb8.mono hw5.size)
      have t1 := below_cell (Below.refl _ w8) hT8 1 rfl
      have g1 := block_frozen hT8 1
      go_upto_region 18 with fail
      have hown9 := ownsRow_setCell_below hown8 (a := ⟨w3.heap.size, 1, none⟩) hzT (.slice pa k pc)
      have hbb9 := hb8.size
      have hT9 := block_set hT8 1 (.slice pa k pc)
      rw [show ((#[Value.slice a m cap, .slice none 0 0, .int .i64 (left)] : Array Value).setIfInBounds 1 (.slice pa k pc)) = #[.slice a m cap, .slice pa k pc, .int .i64 (left)] from rfl] at hT9
      have hw9 := hw8.setCell (p := ⟨w3.heap.size, 1, none⟩) hz3 (.slice pa k pc)
      have hB9 := (Below.heap_setCell w8 ⟨w3.heap.size, 1, none⟩ (.slice pa k pc) (w.heap.size + 2) (Nat.ne_of_lt hzB)).trans hB8
      have hC9 := (Below.heap_setCell w8 ⟨w3.heap.size, 1, none⟩ (.slice pa k pc) (w.heap.size + 1) (by show w.heap.size + 1 ≠ w3.heap.size; omega)).trans hC8
      have hsz9 : w5.heap.size ≤ (w8.setCell ⟨w3.heap.size, 1, none⟩ (.slice pa k pc)).heap.size := by first | (simp; done) | simpa using hb8.size
      obtain ⟨w9, hW9⟩ : ∃ w9, w8.setCell ⟨w3.heap.size, 1, none⟩ (.slice pa k pc) = w9 := ⟨_, rfl⟩
      rw [hW9] at hown9 hT9 hw9 hB9 hC9 hsz9 ⊢
      clear hW9 hown8 hT8 hw8 hB8 hC8 t1 g1 hbb9
      have t0 := below_cell (Below.refl _ w9) hT9 0 rfl
      have t1 := below_cell (Below.refl _ w9) hT9 1 rfl
      have t2 := below_cell (Below.refl _ w9) hT9 2 rfl
      have c0 := below_cell (Below.refl _ w9) hC9 0 rfl
      have hzC := (Array.getElem?_eq_some_iff.1 hT9).1
      have hbr := (Below.refl w5.heap.size w9)
      go_wp2_with (first | (at_builtin; go_must (refine wpList_push _ _ 23 50 hown9 hbr hsz9 Tryd.underlying23 hi hz0 hz1 hz2 rfl (by decide) rfl rfl rfl rfl rfl ?c3 ?c4 ?_)))
      case c3 =>
        intro u hu
        simp only [List.mem_cons, List.not_mem_nil, or_false] at hu
        rcases hu with rfl | rfl <;> rfl
      case c4 => omega
      intro pw w10 hown10 hb10
      obtain ⟨na, nc, rfl⟩ := own_form hown10
      have hT10 := (hb10.block _ hzT).trans hT9
      have hB10 := (hb10.block _ (Nat.lt_trans hzB hzT)).trans hB9
      have hw10 := hw9.trans (hb10.mono (Nat.le_trans hw5.size (Nat.le_refl _)))
      have t0 := below_cell (Below.refl _ w10) hT10 0 rfl
      have t1 := below_cell (Below.refl _ w10) hT10 1 rfl
      have t2 := below_cell (Below.refl _ w10) hT10 2 rfl
      have g1 := block_frozen hT10 1
      clear hT9 hB9 hC9 hw9 hown9 hbr c0
      go_upto_region 19 with fail
      have hown11 := ownsRow_setCell_below hown10 (a := ⟨w3.heap.size, 1, none⟩) hzT (.slice na (k + 1) nc)
      have hT11 := block_set hT10 1 (.slice na (k + 1) nc)
      rw [show ((#[Value.slice a m cap, .slice pa k pc, .int .i64 (left)] : Array Value).setIfInBounds 1 (.slice na (k + 1) nc)) = #[.slice a m cap, .slice na (k + 1) nc, .int .i64 (left)] from rfl] at hT11
      have hw11 := hw10.setCell (p := ⟨w3.heap.size, 1, none⟩) hz3 (.slice na (k + 1) nc)
      have hB11 := (Below.heap_setCell w10 ⟨w3.heap.size, 1, none⟩ (.slice na (k + 1) nc) (w.heap.size + 2) (Nat.ne_of_lt hzB)).trans hB10
      obtain ⟨w11, hW11⟩ : ∃ w11, w10.setCell ⟨w3.heap.size, 1, none⟩ (.slice na (k + 1) nc) = w11 := ⟨_, rfl⟩
      rw [hW11] at hown11 hT11 hw11 hB11 ⊢
      clear hW11 hown10 hT10 hw10 hB10 t0 t1 t2 g1 hb10
      have t0 := below_cell (Below.refl _ w11) hT11 0 rfl
      have t1 := below_cell (Below.refl _ w11) hT11 1 rfl
      have t2 := below_cell (Below.refl _ w11) hT11 2 rfl
      have e0 := below_cell (Below.refl _ w11) hB11 0 rfl
      have e1 := below_cell (Below.refl _ w11) hB11 1 rfl
      have e2 := below_cell (Below.refl _ w11) hB11 2 rfl
      have f0 := block_frozen hB11 0
      have f1 := block_frozen hB11 1
      have f2 := block_frozen hB11 2
      have hset := set3_block hB11 (.slice a m cap) (.slice na (k + 1) nc) (.int .i64 (left))
      have hw12 := set3_below hw11 (show w.heap.size ≤ w.heap.size + 2 by omega) (.slice a m cap) (.slice na (k + 1) nc) (.int .i64 (left))
      have hown12 := ownsRow_setCell_below (ownsRow_setCell_below (ownsRow_setCell_below hown11 (a := ⟨w.heap.size + 2, 0, none⟩) (Nat.lt_trans hzB hzT) (.slice a m cap)) (a := ⟨w.heap.size + 2, 1, none⟩) (Nat.lt_trans hzB hzT) (.slice na (k + 1) nc)) (a := ⟨w.heap.size + 2, 2, none⟩) (Nat.lt_trans hzB hzT) (.int .i64 (left))
      have hnb : ∀ y ∈ d.pend ++ [(⟨s, X⟩ : Wrt)], y.bounded := by
        intro y hy
        rcases List.mem_append.1 hy with hy | hy
        · exact HPB.out y hy
        · rw [List.mem_singleton.1 hy]
          have := HS.out
          exact ⟨⟨by show _ ≤ s; omega, by show s ≤ _; omega⟩, by show X.size ≤ _; omega⟩
      have hown13 : (set3 w11 (w.heap.size + 2) (.slice a m cap) (.slice na (k + 1) nc) (.int .i64 (left))).ownsRow w5.heap.size 50 2 (.slice na (k + 1) nc) (k + 1) (wcells (d.pend ++ [⟨s, X⟩])) := by
        rw [wcells_append]
        first | exact hown12 | (rw [hwn]; exact hown12)
      have hfin := own_wrts hown13 hnb
      have HSET := Lib.hid hset; have HW7 := Lib.hid hw12; have HF := Lib.hid hfin
      clear hset hw12 hown12 hown13 hown11 hT11 hB11 hw11 hnb hfin
      unfold set3 at HSET HW7 HF
      go_wp2_with fail
      refine bodyPost_ret (results_row_tmp rfl _ _ (w.heap.size + 2) _ _ _ _ rfl HSET.out Tryd.underlying31 rfl (by kernel_rfl)) rfl ⟨.agg #[.slice a m cap, .slice na (k + 1) nc, .int .i64 (left)], by first | (simp; rfl) | (simp; done), ?_, HW7.out⟩
      rw [hsp]
      refine ⟨_, _, rfl, HSA.out.below HW7.out, ?_⟩
      show IsWrts _ _ (d.pend ++ [⟨s, trimS x⟩])
      rw [HX.out]
      exact HF.out
end Go.Proofs.YtabkpoolhcpihaaDoor
