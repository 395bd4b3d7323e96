/- The reference: what a crash leaves. -/
import Derived.Test.YtabkpoolhcpihaaDoorDiskW
namespace Go.Proofs.YtabkpoolhcpihaaDoor
open Go.RowKit
set_option linter.unusedVariables false

theorem own_keep {w w' : World} {base : Nat} {e : TypeId} {size : Nat} {v : Value} {n : Nat} {xs : List Value} (h : w.ownsRow base e size v n xs) (hb : Below w.heap.size w w') : w'.ownsRow base e size v n xs := by
  refine ⟨h.1, h.2.imp id ?_⟩
  rintro ⟨g, cap, cur, h1, h2, h3, h4⟩
  exact ⟨g, cap, cur, h1, h2, (hb.block g (Array.getElem?_eq_some_iff.1 h3).1).trans h3, h4⟩
theorem wrts_bnd {w : World} {v : Value} {l : List Wrt} (h : IsWrts w v l) : ∀ i ∈ l, i.bounded := by
  obtain ⟨_, _, _, _, _, _, _, h1, _⟩ := h
  exact h1
theorem strs_bnd {w : World} {v : Value} {l : List ByteArray} (h : IsStrs w v l) : ∀ s ∈ l, s.size ≤ 9223372036854775807 := by
  obtain ⟨_, _, _, _, _, _, _, h1, _⟩ := h
  exact h1
theorem own_form {w : World} {base : Nat} {e : TypeId} {size : Nat} {v : Value} {n : Nat} {xs : List Value} (h : w.ownsRow base e size v n xs) : ∃ a c, v = .slice a n c := by
  rcases h.2 with ⟨rfl, rfl⟩ | ⟨g, cap, cur, rfl, _⟩
  · exact ⟨_, _, rfl⟩
  · exact ⟨_, _, rfl⟩
def crS (d : Dsk) (K : List Bool) (n k : Nat) : List ByteArray := (List.range k).map fun j => (crashL d K n).getD j ⟨#[]⟩
theorem crS_snoc (d : Dsk) (K : List Bool) (n k : Nat) : crS d K n (k + 1) = crS d K n k ++ [(crashL d K n).getD k ⟨#[]⟩] := by
  simp [crS, List.range_succ]
theorem range_getD (l : List ByteArray) : (List.range l.length).map (fun j => l.getD j ⟨#[]⟩) = l := by
  apply List.ext_getElem
  · simp
  · intro i h1 h2
    simp [List.getD, h2]
theorem crS_all (d : Dsk) (K : List Bool) (n : Nat) : crS d K n d.secs.length = crashL d K n := by
  have h := range_getD (crashL d K n)
  rwa [crashL_len] at h
theorem infoStr3 : (Tryd.prog.info? 9).map (fun i => (i.zero, i.size, i.bytes)) = some (some (.string ⟨#[]⟩), 1, 16) := by kernel_rfl
set_option maxRecDepth 100000 in
set_option maxHeartbeats 1000000 in
theorem refCrash_any (v kv : Value) (d : Dsk) (all : Bool) (keep K : List Bool) (w : World) (h : IsDisk w v d) (hk : IsBools w kv keep) (hr : rightD d = true) (hK : ∀ t, t < d.pend.length → K.getD t false = (all || keep.getD t false)) :
    Calls Tryd.prog 28 #[v, .bool all, kv] w fun e w' => ∃ v', e = .returned v' ∧ IsDisk w' v' ⟨crashL d K d.pend.length, []⟩ ∧ Below w.heap.size w w' := by
  obtain ⟨i0, hi, hz0, hz1, hz2⟩ := info_parts infoStr3
  have hrl := right_len d hr
  obtain ⟨a, cap, a', cap', rfl, hc1, hc2, hc1', hc2'⟩ := h.form
  have hs := strs_at h.secs; have hp := wrts_at h.pend
  obtain ⟨ka, kn, kc, rfl, hkn, hkc1, hkc2, hkat⟩ := hk
  generalize hm : d.secs.length = m at *
  generalize hn : d.pend.length = n at *
  have hnI : (n : Int) ≤ 9223372036854775807 := by omega
  have hmI : (m : Int) ≤ 256 := by omega
  have hkI : (kn : Int) ≤ 9223372036854775807 := by omega
  have HSC := Lib.hid hs; have HP := Lib.hid hp; have HN := Lib.hid hn; have HM := Lib.hid hm; have HK := Lib.hid hK; have HKA := Lib.hid hkat; have HKN := Lib.hid hkn; have HRP := Lib.hid (right_pend d hr); have HD := Lib.hid h
  clear hs hp hn hm hK hkat hkn h hr
  go_enter Tryd.func28, Tryd.ntmps28
  go_wp2_with fail
  have hA : (((w.alloc (.cells #[.slice a m cap, .slice a' n cap'] 25)).alloc (.cells #[.slice none 0 0, .slice none 0 0] 25)).alloc (.cells #[.slice none 0 0, .slice none 0 0] 25)).heap[w.heap.size]? = some (.cells #[.slice a m cap, .slice a' n cap'] 25 (0, 0)) := by
    exact (Below.heap_alloc _ _ _ (by simp; omega)).trans ((Below.heap_alloc _ _ _ (by simp)).trans (heap_alloc_new w _))
  have hB : (((w.alloc (.cells #[.slice a m cap, .slice a' n cap'] 25)).alloc (.cells #[.slice none 0 0, .slice none 0 0] 25)).alloc (.cells #[.slice none 0 0, .slice none 0 0] 25)).heap[w.heap.size + 1]? = some (.cells #[.slice none 0 0, .slice none 0 0] 25 (0, 0)) := by
    refine (Below.heap_alloc _ _ _ (by simp)).trans ?_
    have := heap_alloc_new (w.alloc (.cells #[.slice a m cap, .slice a' n cap'] 25)) (.cells #[.slice none 0 0, .slice none 0 0] 25)
    rwa [World.size_alloc] at this
  have hC : (((w.alloc (.cells #[.slice a m cap, .slice a' n cap'] 25)).alloc (.cells #[.slice none 0 0, .slice none 0 0] 25)).alloc (.cells #[.slice none 0 0, .slice none 0 0] 25)).heap[w.heap.size + 1 + 1]? = some (.cells #[.slice none 0 0, .slice none 0 0] 25 (0, 0)) := by
    have := heap_alloc_new ((w.alloc (.cells #[.slice a m cap, .slice a' n cap'] 25)).alloc (.cells #[.slice none 0 0, .slice none 0 0] 25)) (.cells #[.slice none 0 0, .slice none 0 0] 25)
    simpa using this
  have hb3 : Below w.heap.size w (((w.alloc (.cells #[.slice a m cap, .slice a' n cap'] 25)).alloc (.cells #[.slice none 0 0, .slice none 0 0] 25)).alloc (.cells #[.slice none 0 0, .slice none 0 0] 25)) := ((((Below.refl _ w).alloc (Nat.le_refl _) _).alloc (by simp) _).alloc (by simp; omega) _)
  have hsz : (((w.alloc (.cells #[.slice a m cap, .slice a' n cap'] 25)).alloc (.cells #[.slice none 0 0, .slice none 0 0] 25)).alloc (.cells #[.slice none 0 0, .slice none 0 0] 25)).heap.size = w.heap.size + 1 + 1 + 1 := by simp
  obtain ⟨w3, hW3⟩ : ∃ w3, (((w.alloc (.cells #[.slice a m cap, .slice a' n cap'] 25)).alloc (.cells #[.slice none 0 0, .slice none 0 0] 25)).alloc (.cells #[.slice none 0 0, .slice none 0 0] 25)) = w3 := ⟨_, rfl⟩
  rw [hW3] at hA hB hC hb3 hsz ⊢
  have HC0 := Lib.hid hC
  clear hW3 hC
  go_loopw [17] (fun z wr => ∃ (k : Nat) (vo : Value), k ≤ m ∧ z = .int .i64 k ∧ wr.heap[w.heap.size]? = some (.cells #[.slice a m cap, .slice a' n cap'] 25 (0, 0)) ∧ wr.heap[w.heap.size + 1]? = some (.cells #[.slice none 0 0, .slice none 0 0] 25 (0, 0)) ∧ wr.heap[w.heap.size + 1 + 1]? = some (.cells #[vo, .slice none 0 0] 25 (0, 0)) ∧ wr.ownsRow (w.heap.size + 1 + 1 + 1) 9 1 vo k ((crS d K n k).map .string) ∧ Below w.heap.size w wr ∧ w.heap.size + 1 + 1 + 1 ≤ wr.heap.size) (fun z _ => m - (intOf z).toNat)
  case atStart => exact ⟨0, _, by omega, rfl, hA, hB, HC0.out, World.ownsRow_nil _ _ _ _, hb3, by omega⟩
  case round =>
    clear hA hB HC0 hb3 hsz
    obtain ⟨k, vo, hk, rfl, hA, hB, hC, hown, hbw, hsz⟩ := hrel
    obtain ⟨va, vc, rfl⟩ := own_form hown
    have HO := Lib.hid hown
    clear hown
    have a0 := below_cell (Below.refl _ wr) hA 0 rfl
    have a1 := below_cell (Below.refl _ wr) hA 1 rfl
    by_cases hlt : k < m
    · have hltI : (k : Int) < m := by omega
      obtain ⟨g, off, rfl, hg, hat⟩ := HSC.out.resolve_left (by omega)
      have c0 := (hbw.cell (p := ⟨g, off + k, none⟩) hg).trans (hat k hlt)
      obtain ⟨Z, hZ⟩ : ∃ Z, d.secs.getD k ByteArray.empty = Z := ⟨_, rfl⟩
      rw [hZ] at c0
      have HZ := Lib.hid hZ
      clear hat hZ
      go_wp2_with fail
      generalize wr = wo at *
      clear a0 a1 c0
      go_loopw [9, 25] (fun s z wr => ∃ t : Nat, t ≤ n ∧ z = .int .i64 t ∧ s = .string ((crashL d K t).getD k ⟨#[]⟩) ∧ Below wo.heap.size wo wr) (fun _ z _ => n - (intOf z).toNat)
      case atStart => exact ⟨0, by omega, rfl, by rw [show (crashL d K 0).getD k ⟨#[]⟩ = Z from HZ.out], Below.refl _ _⟩
      case round =>
        obtain ⟨t, ht, rfl, rfl, hbx⟩ := hrel
        by_cases hlt' : t < n
        · have htI : (t : Int) < n := by omega
          obtain ⟨gp, op, rfl, hgp, hcp⟩ := HP.out.resolve_left (by omega)
          have hbwx := hbw.trans (hbx.mono hbw.size)
          obtain ⟨p0, p1⟩ := (hcp t hlt').below hbwx hgp
          have hnx : (crashL d K (t + 1)).getD k ⟨#[]⟩ = if K.getD t false = true then (if (d.pend.getD t wrtZ).sector = k then (d.pend.getD t wrtZ).bytes else (crashL d K t).getD k ⟨#[]⟩) else (crashL d K t).getD k ⟨#[]⟩ := by
            have hrp := HRP.out t (by rw [HN.out]; exact hlt')
            rw [crashL]
            split
            · rw [getD_set _ _ _ _ (by rw [crashL_len]; omega)]
              by_cases e : (d.pend.getD t wrtZ).sector = k
              · rw [if_pos e, if_pos (by omega)]
              · rw [if_neg e, if_neg (by omega)]
            · rfl
          obtain ⟨P, hP⟩ : ∃ P, d.pend.getD t wrtZ = P := ⟨_, rfl⟩
          rw [hP] at p0 p1 hnx
          generalize (crashL d K t).getD k ⟨#[]⟩ = S at *
          have HNX := Lib.hid hnx
          have hb2 := hbx.alloc hbx.size (.cells #[.int .i64 P.sector, .string P.bytes] 50)
          clear hcp hP hnx
          cases all
          · by_cases hkk : t < kn
            · have hkkI : (t : Int) < kn := by omega
              obtain ⟨kb, ko, rfl, hkb, hka⟩ := HKA.out.resolve_left (by have := HKN.out; intro e; rw [e] at this; simp at this; omega)
              have hkl : t < keep.length := by rw [HKN.out]; exact hkk
              have hk1 := hka t hkl
              obtain ⟨B, hB⟩ : ∃ B, keep[t] = B := ⟨_, rfl⟩
              rw [hB] at hk1
              have hk2 := fun o : Obj => (World.cell?_of_block (a := ⟨kb, ko + t, none⟩) (Below.heap_alloc wr o kb (Nat.lt_of_lt_of_le hkb hbwx.size))).trans ((hbwx.cell (p := ⟨kb, ko + t, none⟩) hkb).trans hk1)
              have hgd : keep.getD t false = B := by rw [← hB]; simp [List.getD, hkl]
              clear hka hk1 hbwx hbx hB
              cases B
              · have hkt : K.getD t false = false := by rw [HK.out t hlt']; rw [hgd]; rfl
                by_cases he : P.sector = (k : Nat)
                · have hres : (crashL d K (t + 1)).getD k ⟨#[]⟩ = S := by rw [HNX.out, hkt]; first | exact (if_pos rfl).trans (if_pos he) | exact (if_pos rfl).trans (if_neg he) | exact if_neg (by decide)
                  have HRES := Lib.hid hres
                  have hb2' := hb2
                  rw [he] at p0 hb2'
                  clear hkt hres hb2
                  go_wp2_with fail
                  go_roundw
                  case rel => exact ⟨t + 1, by omega, by go_num, by rw [HRES.out], hb2'⟩
                  case measure => simp [intOf]; omega
                · have hres : (crashL d K (t + 1)).getD k ⟨#[]⟩ = S := by rw [HNX.out, hkt]; first | exact (if_pos rfl).trans (if_pos he) | exact (if_pos rfl).trans (if_neg he) | exact if_neg (by decide)
                  have hse : (P.sector == (k : Int)) = false := by simpa using he
                  have HRES := Lib.hid hres
                  clear hkt hres
                  go_wp2_with fail
                  go_roundw
                  case rel => exact ⟨t + 1, by omega, by go_num, by rw [HRES.out], hb2⟩
                  case measure => simp [intOf]; omega
              · have hkt : K.getD t false = true := by rw [HK.out t hlt']; rw [hgd]; rfl
                by_cases he : P.sector = (k : Nat)
                · have hres : (crashL d K (t + 1)).getD k ⟨#[]⟩ = P.bytes := by rw [HNX.out, hkt]; first | exact (if_pos rfl).trans (if_pos he) | exact (if_pos rfl).trans (if_neg he) | exact if_neg (by decide)
                  have HRES := Lib.hid hres
                  have hb2' := hb2
                  rw [he] at p0 hb2'
                  clear hkt hres hb2
                  go_wp2_with fail
                  go_roundw
                  case rel => exact ⟨t + 1, by omega, by go_num, by rw [HRES.out], hb2'⟩
                  case measure => simp [intOf]; omega
                · have hres : (crashL d K (t + 1)).getD k ⟨#[]⟩ = S := by rw [HNX.out, hkt]; first | exact (if_pos rfl).trans (if_pos he) | exact (if_pos rfl).trans (if_neg he) | exact if_neg (by decide)
                  have hse : (P.sector == (k : Int)) = false := by simpa using he
                  have HRES := Lib.hid hres
                  clear hkt hres
                  go_wp2_with fail
                  go_roundw
                  case rel => exact ⟨t + 1, by omega, by go_num, by rw [HRES.out], hb2⟩
                  case measure => simp [intOf]; omega
            · have hkkI : (kn : Int) ≤ t := by omega
              have hgd : keep.getD t false = false := by have := HKN.out; simp [List.getD, show ¬ t < keep.length by omega]
              clear hbwx hbx
              have hkt : K.getD t false = false := by rw [HK.out t hlt']; rw [hgd]; rfl
              by_cases he : P.sector = (k : Nat)
              · have hres : (crashL d K (t + 1)).getD k ⟨#[]⟩ = S := by rw [HNX.out, hkt]; first | exact (if_pos rfl).trans (if_pos he) | exact (if_pos rfl).trans (if_neg he) | exact if_neg (by decide)
                have HRES := Lib.hid hres
                have hb2' := hb2
                rw [he] at p0 hb2'
                clear hkt hres hb2
                go_wp2_with fail
                go_roundw
                case rel => exact ⟨t + 1, by omega, by go_num, by rw [HRES.out], hb2'⟩
                case measure => simp [intOf]; omega
              · have hres : (crashL d K (t + 1)).getD k ⟨#[]⟩ = S := by rw [HNX.out, hkt]; first | exact (if_pos rfl).trans (if_pos he) | exact (if_pos rfl).trans (if_neg he) | exact if_neg (by decide)
                have hse : (P.sector == (k : Int)) = false := by simpa using he
                have HRES := Lib.hid hres
                clear hkt hres
                go_wp2_with fail
                go_roundw
                case rel => exact ⟨t + 1, by omega, by go_num, by rw [HRES.out], hb2⟩
                case measure => simp [intOf]; omega
          · clear hbwx hbx
            have hkt : K.getD t false = true := by rw [HK.out t hlt']; rfl
            by_cases he : P.sector = (k : Nat)
            · have hres : (crashL d K (t + 1)).getD k ⟨#[]⟩ = P.bytes := by rw [HNX.out, hkt]; first | exact (if_pos rfl).trans (if_pos he) | exact (if_pos rfl).trans (if_neg he) | exact if_neg (by decide)
              have HRES := Lib.hid hres
              have hb2' := hb2
              rw [he] at p0 hb2'
              clear hkt hres hb2
              go_wp2_with fail
              go_roundw
              case rel => exact ⟨t + 1, by omega, by go_num, by rw [HRES.out], hb2'⟩
              case measure => simp [intOf]; omega
            · have hres : (crashL d K (t + 1)).getD k ⟨#[]⟩ = S := by rw [HNX.out, hkt]; first | exact (if_pos rfl).trans (if_pos he) | exact (if_pos rfl).trans (if_neg he) | exact if_neg (by decide)
              have hse : (P.sector == (k : Int)) = false := by simpa using he
              have HRES := Lib.hid hres
              clear hkt hres
              go_wp2_with fail
              go_roundw
              case rel => exact ⟨t + 1, by omega, by go_num, by rw [HRES.out], hb2⟩
              case measure => simp [intOf]; omega
        · obtain rfl : t = n := by omega
          have hszx := Nat.le_trans hsz hbx.size
          have hAx := (hbx.block _ (Array.getElem?_eq_some_iff.1 hA).1).trans hA
          have hBx := (hbx.block _ (Array.getElem?_eq_some_iff.1 hB).1).trans hB
          have hCx := (hbx.block _ (Array.getElem?_eq_some_iff.1 hC).1).trans hC
          have hbwx := hbw.trans (hbx.mono hbw.size)
          have hown := own_keep HO.out hbx
          have hbb := Below.refl (w.heap.size + 1 + 1 + 1) wr
          have x0 := below_cell (Below.refl _ wr) hCx 0 rfl
          have hsn := crS_snoc d K t k
          obtain ⟨S, hS⟩ : ∃ S, (crashL d K t).getD k ⟨#[]⟩ = S := ⟨_, rfl⟩
          rw [hS] at hsn ⊢
          have HSN := Lib.hid hsn
          clear hS hsn hA hB hC hbw hbx hsz
          go_wp2_with (first | (at_builtin; go_must (refine wpList_push _ _ 22 9 hown hbb hszx Tryd.underlying22 hi hz0 hz1 hz2 rfl (by decide) rfl rfl rfl rfl rfl ?c3 ?c4 ?_)))
          case c3 => intro u hu; rw [List.mem_singleton.1 hu]; rfl
          case c4 => omega
          intro v' w1 hown1 hbel1
          obtain ⟨na, nc, rfl⟩ := own_form hown1
          have hA1 := (hbel1.block _ (show w.heap.size < w.heap.size + 1 + 1 + 1 by omega)).trans hAx
          have hB1 := (hbel1.block _ (show w.heap.size + 1 < w.heap.size + 1 + 1 + 1 by omega)).trans hBx
          have hC1 := (hbel1.block _ (show w.heap.size + 1 + 1 < w.heap.size + 1 + 1 + 1 by omega)).trans hCx
          have hw1 := hbwx.trans (hbel1.mono (show w.heap.size ≤ w.heap.size + 1 + 1 + 1 by omega))
          have hsz1 := Nat.le_trans hszx hbel1.size
          have x0' := below_cell (Below.refl _ w1) hC1 0 rfl
          have f0 := block_frozen hC1 0
          have hC2 := block_set hC1 0 (.slice na (k + 1) nc)
          have HC2 := Lib.hid hC2; have HOW := Lib.hid hown1
          clear hown hbb x0 hCx hAx hBx hbwx hbel1 hC2 hown1
          go_wp2_with fail
          go_roundw
          case rel =>
            refine ⟨k + 1, (.slice na (k + 1) nc), by omega, by go_num, (Below.heap_setCell _ _ _ _ (show w.heap.size ≠ w.heap.size + 1 + 1 by omega)).trans hA1, (Below.heap_setCell _ _ _ _ (show w.heap.size + 1 ≠ w.heap.size + 1 + 1 by omega)).trans hB1, HC2.out, ?_, hw1.setCell (p := ⟨w.heap.size + 1 + 1, 0, none⟩) (by simp; omega) _, by simp; omega⟩
            rw [HSN.out, List.map_append, List.map_cons, List.map_nil]
            exact ownsRow_setCell_below HOW.out (a := ⟨w.heap.size + 1 + 1, 0, none⟩) (by simp) (.slice na (k + 1) nc)
          case measure => simp [intOf]; omega
    · obtain rfl : k = m := by omega
      have x0 := below_cell (Below.refl _ wr) hC 0 rfl
      have x1 := below_cell (Below.refl _ wr) hC 1 rfl
      have y0 := below_cell (Below.refl _ wr) hB 0 rfl
      have y1 := below_cell (Below.refl _ wr) hB 1 rfl
      have f0 := block_frozen hB 0
      have f1 := block_frozen hB 1
      have hB2 := block_set (block_set hB 0 (.slice va k vc)) 1 (.slice none 0 0)
      have hw2 := (hbw.setCell (p := ⟨w.heap.size + 1, 0, none⟩) (by simp) (.slice va k vc)).setCell (p := ⟨w.heap.size + 1, 1, none⟩) (by simp) (.slice none 0 0)
      have HB2 := Lib.hid hB2
      clear hB2 a0 a1 hA hB hC hsz hbw
      go_wp2_with fail
      refine bodyPost_ret (results_cell_row rfl _ _ (w.heap.size + 1) _ _ _ _ rfl HB2.out Tryd.underlying25 rfl (by kernel_rfl)) rfl ⟨_, rfl, ⟨_, _, rfl, ?_, nilWrts _⟩, hw2⟩
      have h1 := ownsRow_setCell_below (ownsRow_setCell_below HO.out (a := ⟨w.heap.size + 1, 0, none⟩) (show w.heap.size + 1 < w.heap.size + 1 + 1 + 1 by omega) (.slice va k vc)) (a := ⟨w.heap.size + 1, 1, none⟩) (show w.heap.size + 1 < w.heap.size + 1 + 1 + 1 by omega) (.slice none 0 0)
      have h2 := crS_all d K n
      rw [HM.out] at h2
      rw [h2] at h1
      have hbd := HD.out
      exact own_strs h1 (crashL_bnd d K (wrts_bnd hbd.pend) (strs_bnd hbd.secs) n (by rw [HN.out]; exact Nat.le_refl _))
end Go.Proofs.YtabkpoolhcpihaaDoor
