/- The walk of BlobApart. -/
import Derived.Test.YtgglejicbojiaaaDoorBl5
import Derived.Test.YtgglejicbojiaaaDoorBl6
import Derived.Test.YtgglejicbojiaaaDoorRefFree
import Derived.Outline
namespace Go.Proofs.YtgglejicbojiaaaDoor.lawBlobApart
open Go.RowKit
set_option linter.unusedVariables false

theorem source {w : World} {A : Option Addr} {m c : Nat} {l : List Wrt} (h : IsWrts w (.slice A m c) l) (h1 : 1 ≤ m) : (A = none ∧ m = 0 ∧ c = 0 ∧ wcells l = []) ∨ ∃ ad, A = some ad ∧ ∀ j u, (wcells l)[j]? = some u → w.cell? (ad.add j) = some u := by
  obtain ⟨a, len, cap, hv, hlen, hc1, hc2, hbd, hat⟩ := h
  injection hv with e1 e2 e3
  subst e1 e2 e3
  obtain ⟨b, off, rfl, hb, hat⟩ := hat.resolve_left (by omega)
  refine .inr ⟨_, rfl, fun j u hj => ?_⟩
  rw [addr_add]
  obtain ⟨i, hi, hh⟩ := wcells_at l j u hj
  obtain ⟨c1, c2⟩ := hat i (by omega)
  rcases hh with ⟨rfl, rfl⟩ | ⟨rfl, rfl⟩
  · exact c1
  · exact c2
set_option maxRecDepth 100000 in
set_option maxHeartbeats 2000000 in
theorem walk (a0 b0 : ByteArray) (w : World) (w0 : a0.size ≤ maxLen) (w1 : b0.size ≤ maxLen) :
    Calls Tryd.prog 4 #[.string a0, .string b0] w fun e w' => e = .returned (.bool true) ∧ Below w.heap.size w w' := by
  obtain ⟨i1, hi1, hy0, hy1, hy2⟩ := info_parts infoWrt
  have hs0 : a0.size ≤ 9223372036854775807 := w0
  have hs1 : b0.size ≤ 9223372036854775807 := w1
  clear w0 w1
  obtain ⟨p, hp, hp1, hp2, hp3⟩ := min_if a0.size 2500 (by omega)
  have hpi : min (a0.size : Int) 2500 = p := by omega
  obtain ⟨q, hq, hq1, hq2, hq3⟩ := min_if b0.size 2500 (by omega)
  have hqi : min (b0.size : Int) 2500 = q := by omega
  have haz := extract0_size a0 p hp1
  have hbz := extract0_size b0 q hq1
  have hpI : (p : Int) ≤ a0.size := by omega
  have hqI : (q : Int) ≤ b0.size := by omega
  have HAZ := Lib.hid haz; have HBZ := Lib.hid hbz
  clear haz hbz hp3 hq3
  go_enter Tryd.func4, Tryd.ntmps4
  go_wp2_with fail
  go_quiet (fail)
  go_upto_region 2 with fail
  have hbw : Below w.heap.size w (w.drewN nq) := below_drewN (Below.refl _ w) nq
  have ha3 : (a0.extract 0 p).size ≤ 2500 := by rw [HAZ.out]; omega
  have hb3 : (b0.extract 0 q).size ≤ 2500 := by rw [HBZ.out]; omega
  generalize a0.extract 0 p = a at *
  generalize b0.extract 0 q = b at *
  generalize w.drewN nq = wa at *
  obtain ⟨g1, g2, row1, row2, hA⟩ := apart_of a b ha3 hb3
  obtain ⟨hd1, hd2⟩ := apart_heads hA
  obtain ⟨hwl, hwa⟩ := apart_wr hA
  have HN1 := Lib.hid (fun u => blobNeed_any a.size u (by omega))
  have HN2 := Lib.hid (fun u => blobNeed_any b.size u (by omega))
  rw [needZ_nat] at HN1 HN2
  have HNW := Lib.hid (fun u => refNew_any 90 u (by omega))
  have hL1 : ∀ v u, IsBools u v (newL 90) → Calls Tryd.prog 5 #[v, .string a] u fun e w' => ∃ v1 v2, e = .returned (.tuple #[v1, .int .i64 54, v2, .int .i64 0]) ∧ IsBools w' v1 row1 ∧ IsWrts w' v2 (wrtsL g1 a) ∧ Below u.heap.size u w' := fun v u hu => by
    have h := blobLay_any v (newL 90) a u hu (by omega)
    rw [hA.e1, hA.t1] at h
    unfold LayPost at h
    rw [hd1] at h
    exact h
  have hL2 : ∀ v u, IsBools u v row1 → Calls Tryd.prog 5 #[v, .string b] u fun e w' => ∃ v1 v2, e = .returned (.tuple #[v1, .int .i64 (54 + needN a.size : Nat), v2, .int .i64 0]) ∧ IsBools w' v1 row2 ∧ IsWrts w' v2 (wrtsL g2 b) ∧ Below u.heap.size u w' := fun v u hu => by
    have h := blobLay_any v row1 b u hu (by omega)
    rw [hA.e2, hA.t2] at h
    unfold LayPost at h
    rw [hd2] at h
    exact h
  have HL1 := Lib.hid hL1; have HL2 := Lib.hid hL2
  have z1 : (wrtsL g1 a).length = needN a.size := by unfold wrtsL; simp [hA.l1]
  have z2 : (wrtsL g2 b).length = needN b.size := by unfold wrtsL; simp [hA.l2]
  obtain ⟨n1, n2, n3, n4⟩ := hA.one
  have HA := Lib.hid hA; have HWA := Lib.hid hwa; have HWL := Lib.hid hwl; have HBW := Lib.hid hbw; have HZ1 := Lib.hid z1; have HZ2 := Lib.hid z2
  clear hL1 hL2 hA hwa hwl hbw hd1 hd2 HAZ HBZ z1 z2
  generalize needN a.size = na at *
  generalize needN b.size = nb at *
  go_upto_region 4 with (first
    | (go_at_call 12; refine (HNW.out _).mono ?_; rintro e w1 ⟨v, rfl, hv, hb1⟩)
    | (go_at_call_of 5 a; refine (HL1.out _ _ hv).mono ?_; rintro e w2 ⟨v1, v2, rfl, hv1, hv2, hb2⟩)
    | (go_at_call_of 5 b; refine (HL2.out _ _ hv1).mono ?_; rintro e w3 ⟨v3, v4, rfl, hv3, hv4, hb3'⟩))
  have hb4 := ((HBW.out.trans (hb1.mono HBW.out.size)).trans (hb2.mono (Nat.le_trans HBW.out.size hb1.size))).trans (hb3'.mono (Nat.le_trans (Nat.le_trans HBW.out.size hb1.size) hb2.size))
  have hv2' := hv2.below hb3'
  have HV2 := Lib.hid hv2'; have HV4 := Lib.hid hv4; have HV3 := Lib.hid hv3; have HB4 := Lib.hid hb4
  obtain ⟨x1, x2, x3, rfl, hx2, hx3, hx4, _⟩ := hv2'
  obtain ⟨y1, y2, y3, rfl, hy2', hy3, hy4, _⟩ := hv4
  obtain ⟨z1, z2, z3, rfl, hz2, hz3, hz4, _⟩ := hv3
  rw [HZ1.out] at hx2
  rw [HZ2.out] at hy2'
  have hz90 := HA.out.len
  rw [hz90] at hz2
  subst hx2 hy2' hz2
  clear hv hv1 hv2 hb1 hb2 hb3' hb4 HBW HNW HL1 HL2 hz90
  have f1 : decide ((54 : Int) = 54 + (na : Int)) = false := decide_eq_false (by omega)
  have hmk : ∀ u : World, (Instr.makeSlice 22 (.int .i64 90) (.int .i64 90)).run Tryd.prog u = .ok (.slice (some ⟨u.heap.size, 0, none⟩) 90 90) (u.alloc (.cells ((seenL 0).map Value.bool).toArray 4)) := fun u => by
    have h := make_bools 90 (by omega) u
    rw [show newK 90 0 = seenL 0 from by decide +kernel] at h
    exact h
  go_upto_region 7 with (first | (go_at_call_of 10 a; refine (HN1.out _).mono ?_; rintro e w8 ⟨rfl, rfl⟩) | (go_at_call_of 10 b; refine (HN2.out _).mono ?_; rintro e w8 ⟨rfl, rfl⟩))
  clear hmk f1 HN1 HN2
  have hg0 := heap_alloc_new w3 (.cells ((seenL 0).map Value.bool).toArray 4)
  have hbel0 := (Below.refl w3.heap.size w3).alloc (Nat.le_refl _) (.cells ((seenL 0).map Value.bool).toArray 4)
  have hs6 : (w3.alloc (.cells ((seenL 0).map Value.bool).toArray 4)).heap.size = w3.heap.size + 1 := by simp
  have hv2 := HV2.out.below hbel0
  have hv4 := HV4.out.below hbel0
  have hv3 := HV3.out.below hbel0
  have hb6 := HB4.out.trans (hbel0.mono HB4.out.size)
  have hle := HB4.out.size
  generalize w3.alloc (.cells ((seenL 0).map Value.bool).toArray 4) = W6 at *
  have ho := (World.ownsRow_made (base := W6.heap.size) (e := 36) (size := 2) W6 #[] 0 (Nat.le_refl _) (by unfold maxLen; omega) rfl)
  have hbo := (Below.refl W6.heap.size W6).alloc (Nat.le_refl _) (.cells #[] 36)
  have s2 := fun u (hb : Below W6.heap.size W6 u) => source (hv2.below hb) n1
  have s4 := fun u (hb : Below W6.heap.size W6 u) => source (hv4.below hb) n3
  have S2 := Lib.hid s2; have S4 := Lib.hid s4
  have wl1 : (wcells (wrtsL g1 a)).length = na * 2 := by rw [wcells_len, HZ1.out]
  have wl2 : (wcells (wrtsL g2 b)).length = nb * 2 := by rw [wcells_len, HZ2.out]
  have WL1 := Lib.hid wl1; have WL2 := Lib.hid wl2
  have HS6 := Lib.hid hs6
  clear hs6
  have HO := Lib.hid ho; have HBO := Lib.hid hbo; have HG0 := Lib.hid hg0
  have HBEL0 := Lib.hid hbel0
  clear s2 s4 ho hbo hbel0 wl1 wl2 hv2 hv4 hg0
  go_wp2_with (first
    | (at_builtin; go_must (refine wpList_extend (news := wcells (wrtsL g1 a)) _ _ 23 36 HO.out HBO.out (Nat.le_refl _) Tryd.underlying23 hi1 hy0 hy1 hy2 rfl (by decide) rfl rfl rfl rfl (S2.out _ HBO.out) WL1.out (wcells_one _) ?c1 ?_)))
  case c1 => omega
  intro v7 w7 hown7 hb7
  obtain ⟨A7, c7, rfl, hA1, hA2⟩ : ∃ A c, v7 = .slice A na c ∧ na ≤ c ∧ c ≤ 9223372036854775807 := by
    rcases hown7.2 with ⟨rfl, h0⟩ | ⟨g, cap, cur, rfl, hg, hh, hn, hc, _⟩
    · omega
    · exact ⟨_, _, rfl, hn, by unfold maxLen at hc; exact hc⟩
  have HO7 := Lib.hid hown7; have HB7 := Lib.hid hb7
  clear hown7 hb7
  go_wp2_with (first
    | (at_builtin; go_must (refine wpList_extend (news := wcells (wrtsL g2 b)) _ _ 23 36 HO7.out HB7.out (Nat.le_refl _) Tryd.underlying23 hi1 hy0 hy1 hy2 rfl (by decide) rfl rfl rfl rfl (S4.out _ HB7.out) WL2.out (wcells_one _) ?c2 ?_)))
  case c2 => omega
  intro v8 w8 hown8 hb8
  have hown9 : w8.ownsRow W6.heap.size 36 2 v8 (na + nb) (wcells (wrtsL g1 a ++ wrtsL g2 b)) := by rw [wcells_append]; simpa using hown8
  obtain ⟨LL, hLL⟩ : ∃ LL, wrtsL g1 a ++ wrtsL g2 b = LL := ⟨_, rfl⟩
  rw [hLL] at hown9
  have hwl := HWL.out
  have hwa := HWA.out
  rw [hLL] at hwl hwa
  obtain ⟨gl, lcap, cur, rfl, hgl, hblk, hln, hlc⟩ : ∃ gl cap cur, v8 = .slice (some ⟨gl, 0, none⟩) (na + nb) cap ∧ W6.heap.size ≤ gl ∧ w8.heap[gl]? = some (.cells cur 36 (0, 0)) ∧ na + nb ≤ cap ∧ cap ≤ 9223372036854775807 := by
    rcases hown9.2 with ⟨rfl, h0⟩ | ⟨g, cap, cur, rfl, hg, hh, hn, hc, _⟩
    · omega
    · exact ⟨g, cap, cur, rfl, hg, hh, hn, by unfold maxLen at hc; exact hc⟩
  have hcur : ∀ i, i < na + nb → cur[i * 2]? = some (.int .i64 ((54 + i : Nat) : Int)) ∧ cur[i * 2 + 1]? = some (.string (LL.getD i wrtZ).bytes) := fun i hi => by
    obtain ⟨q1, q2⟩ := wcells_get LL i (by rw [hwl]; exact hi)
    have k1 := hown9.cells (g := gl) rfl _ _ q1
    have k2 := hown9.cells (g := gl) rfl _ _ q2
    rw [addr_add, cell_of_row _ _ _ _ _ _ hblk, Nat.zero_add] at k1 k2
    rw [(hwa i hi).1] at k1
    exact ⟨k1, k2⟩
  have hs6 := HS6.out
  have hg8 : w8.heap[w3.heap.size]? = some (.cells ((seenL 0).map Value.bool).toArray 4 (0, 0)) := (hb8.block _ (by omega)).trans HG0.out
  have hb9 : Below w3.heap.size w3 w8 := HBEL0.out.trans (hb8.mono (by omega))
  have hgl3 : w3.heap.size < gl := by omega
  obtain ⟨zb, zlen, zcap, hzv, hzl, hz6, hz7, hz8⟩ := HV3.out
  injection hzv with hz0 hz1' hz2'
  subst hz0 hz1' hz2'
  obtain ⟨b3, o3, rfl, hb3, hat3⟩ := hz8.resolve_left (by omega)
  have hat4 : ∀ i, i < na + nb → w3.cell? ⟨b3, o3 + (54 + i), none⟩ = some (.bool true) := fun i hi => by
    have h90 : 54 + i < row2.length := by rw [hzl]; omega
    rw [hat3 (54 + i) h90]
    have := HA.out.at' i hi
    rw [List.getElem?_eq_getElem h90] at this
    rw [Option.some.inj this]
  have HAT := Lib.hid hat4; have HCUR := Lib.hid hcur; have HWS := Lib.hid hwa
  have hlI : ((na : Int) + nb) ≤ lcap := by omega
  have hlI2 : (lcap : Int) ≤ 9223372036854775807 := by omega
  have hzI : (90 : Int) ≤ z3 := by omega
  have hzI2 : (z3 : Int) ≤ 9223372036854775807 := by omega
  have HG8 := Lib.hid hg8; have HB9 := Lib.hid hb9; have HBK := Lib.hid hblk; have HS9 := Lib.hid hs6
  have HVB := Lib.hid hb6
  clear hown8 hown9 hat3 hat4 hcur hwa hwl hg8 hb9 hblk hb8 hs6 HO7 HB7 HO HBO S2 S4 WL1 WL2 hb6 hv3 hz8
  go_wp2_with fail
  go_loopw [75] (fun c wr => ∃ k : Nat, k ≤ na + nb ∧ c = .int .i64 k ∧ wr.heap[w3.heap.size]? = some (.cells ((seenL k).map Value.bool).toArray 4 (0, 0)) ∧ wr.heap[gl]? = some (.cells cur 36 (0, 0)) ∧ Below w3.heap.size w3 wr) (fun c _ => na + nb - (intOf c).toNat)
  case atStart => exact ⟨0, by omega, rfl, HG8.out, HBK.out, HB9.out⟩
  case round =>
    obtain ⟨k, hk, rfl, hseen, hrow, hbel⟩ := hrel
    by_cases hlt2 : k < na + nb
    · have hkI : (k : Int) < (na : Int) + nb := by omega
      obtain ⟨q1, q2⟩ := HCUR.out k hlt2
      have q3 := (HWS.out k hlt2).2
      have t1 := HAT.out k hlt2
      have st := seen_at k (by omega)
      have ss := seen_set ⟨k, by omega⟩
      simp only at ss
      have d0 : wr.cell? ⟨gl, k * 2, none⟩ = some (.int .i64 ((54 + k : Nat) : Int)) := by rw [cell_of_row _ _ _ _ _ _ hrow]; exact q1
      have d1 : wr.cell? ⟨gl, k * 2 + 1, none⟩ = some (.string (LL.getD k wrtZ).bytes) := by rw [cell_of_row _ _ _ _ _ _ hrow]; exact q2
      have d2 : wr.cell? ⟨w3.heap.size, 54 + k, none⟩ = some (.bool false) := by rw [cell_of_row _ _ _ _ _ _ hseen]; simp [st]
      have d3 : wr.cell? ⟨b3, o3 + (54 + k), none⟩ = some (.bool true) := (hbel.cell (p := ⟨b3, o3 + (54 + k), none⟩) hb3).trans t1
      have l1 := lt_of_block hseen
      have l3 : b3 < wr.heap.size := Nat.lt_of_lt_of_le hb3 hbel.size
      have d4 := block_frozen hseen (54 + k)
      obtain ⟨S, hS⟩ : ∃ S, 54 + k = S := ⟨_, rfl⟩
      rw [hS] at d0 d2 d3 d4 ss
      have hS1 : (54 : Int) ≤ S := by omega
      have hS2 : (S : Int) < 90 := by omega
      have hq3 : ((LL.getD k wrtZ).bytes.size : Int) ≤ 504 := by omega
      generalize (LL.getD k wrtZ).bytes = BB at *
      have e2 : ∀ o, (wr.alloc o).cell? ⟨w3.heap.size, S, none⟩ = some (.bool false) := fun o => (World.cell?_of_block (Below.heap_alloc wr o _ l1)).trans d2
      have e3 : ∀ o, (wr.alloc o).cell? ⟨b3, o3 + S, none⟩ = some (.bool true) := fun o => (World.cell?_of_block (Below.heap_alloc wr o _ l3)).trans d3
      have e4 : ∀ o, (wr.alloc o).frozen? ⟨w3.heap.size, S, none⟩ = false := fun o => (World.frozen?_of_block (Below.heap_alloc wr o _ l1)).trans d4
      have hseen2 := block_set hseen S (.bool true)
      rw [arr_set, ss] at hseen2
      have hblk2 := (Below.heap_alloc (wr.setCell ⟨w3.heap.size, S, none⟩ (.bool true)) (.cells #[.int .i64 (S : Nat), .string BB] 36) _ (lt_of_block hseen2)).trans hseen2
      have hrow1 := (Below.heap_setCell wr ⟨w3.heap.size, S, none⟩ (.bool true) gl (by intro e; simp at e; omega)).trans hrow
      have hrow2 := (Below.heap_alloc (wr.setCell ⟨w3.heap.size, S, none⟩ (.bool true)) (.cells #[.int .i64 (S : Nat), .string BB] 36) _ (lt_of_block hrow1)).trans hrow1
      have hbel2 := (hbel.setCell (p := ⟨w3.heap.size, S, none⟩) (Nat.le_refl _) (.bool true)).alloc (by have := hbel.size; simpa using this) (.cells #[.int .i64 (S : Nat), .string BB] 36)
      have H2 := Lib.hid hblk2; have H3 := Lib.hid hrow2; have H4 := Lib.hid hbel2
      clear hseen hrow hbel hseen2 hrow1 hblk2 hrow2 hbel2 q1 q2 q3 t1 st ss hS
      go_wp2_with fail
      go_roundw
      case rel => exact ⟨k + 1, by omega, by go_num, H2.out, H3.out, H4.out⟩
      case measure => simp [intOf]; omega
    · obtain rfl : k = na + nb := by omega
      have hF := fun u (hb : Below w3.heap.size w3 u) => refFree_any (.slice (some ⟨b3, o3, none⟩) 90 z3) row2 u (HV3.out.below hb)
      rw [show ((freeN row2 : Nat) : Int) = 36 - (na : Int) - (nb : Int) from by rw [HA.out.free]; omega] at hF
      have HF := Lib.hid hF
      have hw9 := HB4.out.trans (hbel.mono hle)
      have HW9 := Lib.hid hw9
      clear hF hw9 hseen hrow HG8 HBK HB9
      go_wp2_with (first
        | (go_at_call 7; refine (blobAlive _).mono ?_; rintro e w5 ⟨rfl, hb5⟩; have b5 := hbel.trans (hb5.mono hbel.size); have b55 := HW9.out.trans (hb5.mono HW9.out.size))
        | (go_at_call 13; refine (HF.out _ b5).mono ?_; rintro e w6 ⟨rfl, rfl⟩))
      go_ret
      exact ⟨rfl, b55⟩
end Go.Proofs.YtgglejicbojiaaaDoor.lawBlobApart
