/- The reference's Give. -/
import Derived.Test.YtbndhegmfnfahaaRoomG
namespace Go.Proofs.Ytbndhegmfnfahaa
open Go.RowKit
set_option linter.unusedVariables false

def GoneIs (l R G : List Bool) (n : Nat) : Prop := R.length = n ∧ G.length = n ∧ ∀ i, i < n → R.getD i false = (l.getD i false && !G.getD i false)
theorem goneIs_zero (l : List Bool) (n : Nat) (h : l.length = n) : GoneIs l l (newK n 0) n := by
  refine ⟨h, newK_len n 0, fun i hi => ?_⟩
  have : (newK n 0).getD i false = false := by simp [newK, List.getD, hi]
  rw [this]; simp
theorem goneIs_set {l R G : List Bool} {n : Nat} (h : GoneIs l R G n) (j : Nat) (hj : j < n) : GoneIs l (R.set j false) (G.set j true) n := by
  obtain ⟨h1, h2, h3⟩ := h
  refine ⟨by rw [List.length_set]; exact h1, by rw [List.length_set]; exact h2, fun i hi => ?_⟩
  by_cases hij : j = i
  · subst hij
    have e1 : (R.set j false).getD j false = false := by simp [List.getD, h1, hj]
    have e2 : (G.set j true).getD j false = true := by simp [List.getD, h2, hj]
    rw [e1, e2]; simp
  · have e1 : (R.set j false).getD i false = R.getD i false := by simp [List.getD, hij]
    have e2 : (G.set j true).getD i false = G.getD i false := by simp [List.getD, hij]
    rw [e1, e2]; exact h3 i hi

set_option maxRecDepth 100000 in
set_option maxHeartbeats 2000000 in
theorem refGive_right (v v2 : Value) (l : List Bool) (secs : List Int) (w : World) (h : IsBools w v l) (hs : IsInts w v2 secs) (hr : rightB l = true) :
    Calls Try.prog 36 #[v, v2] w (BoolsPost (giveE l secs) (giveL l secs) w) := by
  obtain ⟨i1, hi1, hy0, hy1, hy2⟩ := info_parts infoBool
  have hR := Lib.hid (fun u hu => refRight_any v l u hu)
  have hl256 := (rightB_len hr).2
  have hg : giveO l secs = gk l secs secs.length := by unfold giveO; rw [if_pos hr]
  have hE : ∀ k, k < secs.length → gk l secs (k + 1) = none → giveE l secs = 1 ∧ giveL l secs = [] := fun k hk hn => by
    have : giveO l secs = none := by rw [hg]; exact gk_none _ _ _ hn _ (by omega)
    unfold giveE giveL
    rw [this]
    exact ⟨rfl, rfl⟩
  have hS : ∀ r, gk l secs secs.length = some r → giveE l secs = 0 ∧ giveL l secs = r := fun r hn => by
    unfold giveE giveL
    rw [hg, hn]
    exact ⟨rfl, rfl⟩
  have HH := Lib.hid h
  have h64 := (rightB_len hr).1
  obtain ⟨a, len, cap, rfl, hlen, hc1, hc2, hat⟩ := h
  obtain ⟨⟨a2, len2, cap2, rfl, hlen2, hc12, hc22, hat2⟩, hbd⟩ := hs
  rw [hr] at hR
  have hlI : (len : Int) ≤ 256 := by omega
  have hl2I : (len2 : Int) ≤ 9223372036854775807 := by omega
  have hmk := make_bools len (by omega)
  obtain ⟨b1, off1, rfl, hb1, hat1⟩ := hat.resolve_left (by omega)
  have HLEN := Lib.hid hlen; have HLEN2 := Lib.hid hlen2; have HAT2 := Lib.hid hat2; have HE := Lib.hid hE; have HS := Lib.hid hS; have HAT1 := Lib.hid hat1
  have hg0 := heap_alloc_new w (.cells ((newK len 0).map Value.bool).toArray 4)
  have hbel0 := (Below.refl w.heap.size w).alloc (Nat.le_refl _) (.cells ((newK len 0).map Value.bool).toArray 4)
  have HG0 := Lib.hid hg0
  clear hr hl256 hat hlen hlen2 hat2 hE hS hg hbd h64 hg0 hat1
  go_enter Try.func36, Try.ntmps36
  go_wp2_with fail
  refine (hR.out _ HH.out).mono ?_
  rintro e w' ⟨rfl, rfl⟩
  clear hR
  go_wp2_with fail
  clear hmk
  go_loopw [20] (fun c wr => ∃ (k : Nat) (R G : List Bool), k ≤ len2 ∧ c = .int .i64 k ∧ gk l secs k = some R ∧ GoneIs l R G len ∧ wr.heap[w.heap.size]? = some (.cells (G.map Value.bool).toArray 4 (0, 0)) ∧ Below w.heap.size w wr) (fun c _ => len2 - (intOf c).toNat)
  case atStart => exact ⟨0, l, newK len 0, by omega, rfl, rfl, goneIs_zero l len HLEN.out, HG0.out, hbel0⟩
  case round =>
    clear HG0 hbel0
    obtain ⟨k, R, G, hk, rfl, hgk, hgone, hblk, hbel⟩ := hrel
    have HGO := Lib.hid hgone
    clear hgone
    by_cases hlt : k < len2
    · obtain ⟨b, off, rfl, hb, hat⟩ := HAT2.out.resolve_left (by omega)
      have hkl : k < secs.length := by have := HLEN2.out; omega
      have hcell := (hbel.cell (p := ⟨b, off + k, none⟩) hb).trans (hat k hkl)
      have hgd : secs.getD k 0 = secs[k] := by simp [List.getD, hkl]
      have hnx : gk l secs (k + 1) = if gvOk R (secs.getD k 0) then some (R.set (secs.getD k 0).toNat false) else none := by rw [gk, hgk]
      rw [hgd] at hnx
      have HNX := Lib.hid hnx; have HB := Lib.hid hblk
      have HEK := Lib.hid (HE.out k hkl)
      clear hat hgd hnx hgk hblk
      simp only [intV] at hcell
      generalize secs[k] = s at *
      by_cases h54 : 54 ≤ s
      · by_cases hsl : s < len
        · obtain ⟨j, rfl⟩ := Int.eq_ofNat_of_zero_le (show 0 ≤ s by omega)
          have hjl : j < len := by omega
          have hjL : j < l.length := by have := HLEN.out; omega
          have hjG : j < G.length := by have := HGO.out.2.1; omega
          have hrj := HGO.out.2.2 j hjl
          rw [show l.getD j false = l[j] from by simp [List.getD, hjL], show G.getD j false = G[j] from by simp [List.getD, hjG]] at hrj
          have hcl := (hbel.cell (p := ⟨b1, off1 + j, none⟩) hb1).trans (HAT1.out j hjL)
          have hcg : wr.cell? ⟨w.heap.size, j, none⟩ = some (.bool G[j]) := by
            rw [cell_of_row _ _ _ _ _ _ HB.out]; simp [hjG]
          have hfz := block_frozen HB.out j
          cases hlj : l[j]
          · rw [hlj] at hcl hrj
            have hno : gk l secs (k + 1) = none := by
              rw [HNX.out, if_neg]
              intro h
              have := h.2.2
              rw [Int.toNat_natCast, hrj] at this
              cases this
            obtain ⟨x1, x2⟩ := HEK.out hno
            have HX1 := Lib.hid x1; have HX2 := Lib.hid x2
            clear x1 x2 hno hlj hrj hcg
            go_wp2_with fail
            go_ret2
            exact ⟨_, by rw [HX1.out]; rfl, by rw [HX2.out]; exact bools_nil _, hbel⟩
          · rw [hlj] at hcl hrj
            cases hgj : G[j]
            · rw [hgj] at hcg hrj
              have hyes : gk l secs (k + 1) = some (R.set j false) := by
                rw [HNX.out, if_pos]
                · rw [Int.toNat_natCast]
                · exact ⟨h54, by have := HGO.out.1; omega, by rw [Int.toNat_natCast]; exact hrj⟩
              have hblk2 := block_set HB.out j (.bool true)
              rw [arr_set] at hblk2
              have hbel2 := hbel.setCell (p := ⟨w.heap.size, j, none⟩) (Nat.le_refl _) (.bool true)
              have HY := Lib.hid hyes; have HB2 := Lib.hid hblk2; have HG2 := Lib.hid (goneIs_set HGO.out j hjl)
              clear hyes hblk2 hlj hgj hrj
              go_wp2_with fail
              go_roundw
              case rel => exact ⟨k + 1, _, _, by omega, by go_num, HY.out, HG2.out, HB2.out, hbel2⟩
              case measure => simp [intOf]; omega
            · rw [hgj] at hcg hrj
              have hno : gk l secs (k + 1) = none := by
                rw [HNX.out, if_neg]
                intro h
                have := h.2.2
                rw [Int.toNat_natCast, hrj] at this
                cases this
              obtain ⟨x1, x2⟩ := HEK.out hno
              have HX1 := Lib.hid x1; have HX2 := Lib.hid x2
              clear x1 x2 hno hlj hgj hrj
              go_wp2_with fail
              go_ret2
              exact ⟨_, by rw [HX1.out]; rfl, by rw [HX2.out]; exact bools_nil _, hbel⟩
        · have hno : gk l secs (k + 1) = none := by
            rw [HNX.out, if_neg]
            intro h
            have := h.2.1
            have := HGO.out.1
            omega
          obtain ⟨x1, x2⟩ := HEK.out hno
          have HX1 := Lib.hid x1; have HX2 := Lib.hid x2
          have hsl' : (len : Int) ≤ s := by omega
          clear x1 x2 hno
          go_wp2_with fail
          go_ret2
          exact ⟨_, by rw [HX1.out]; rfl, by rw [HX2.out]; exact bools_nil _, hbel⟩
      · have hno : gk l secs (k + 1) = none := by
          rw [HNX.out, if_neg]
          intro h
          exact h54 h.1
        obtain ⟨x1, x2⟩ := HEK.out hno
        have HX1 := Lib.hid x1; have HX2 := Lib.hid x2
        have h54' : s < 54 := by omega
        clear x1 x2 hno
        go_wp2_with fail
        go_ret2
        exact ⟨_, by rw [HX1.out]; rfl, by rw [HX2.out]; exact bools_nil _, hbel⟩
    · obtain rfl : k = len2 := by omega
      rw [← HLEN2.out] at hgk
      obtain ⟨x1, x2⟩ := HS.out R hgk
      have HX1 := Lib.hid x1; have HX2 := Lib.hid x2; have HB := Lib.hid hblk
      clear x1 x2 hgk hblk
      obtain ⟨wo, ewo⟩ : ∃ wo : World, wo = wr := ⟨_, rfl⟩
      subst ewo
      have ho9 : (wo.alloc (.cells #[] 4)).ownsRow wo.heap.size 4 1 (.slice (some ⟨wo.heap.size, 0, none⟩) 0 0) 0 [] := World.ownsRow_made wo #[] 0 (Nat.le_refl _) (by unfold maxLen; omega) rfl
      have hb9 := (Below.refl wo.heap.size wo).alloc (Nat.le_refl _) (.cells #[] 4)
      have HO9 := Lib.hid ho9
      have HCG := Lib.hid (fun j (hj : j < G.length) => show wo.cell? ⟨w.heap.size, j, none⟩ = some (.bool G[j]) by rw [cell_of_row _ _ _ _ _ _ HB.out]; simp [hj])
      have hgs : w.heap.size < wo.heap.size := lt_of_block HB.out
      clear ho9
      go_wp2_with fail
      go_loopw [9, 52] (fun r c wr => ∃ k : Nat, k ≤ len ∧ c = .int .i64 k ∧ wr.ownsRow wo.heap.size 4 1 r k ((R.take k).map Value.bool) ∧ Below wo.heap.size wo wr) (fun _ c _ => len - (intOf c).toNat)
      case atStart => exact ⟨0, by omega, rfl, HO9.out, hb9⟩
      case round =>
        clear HO9 hb9
        obtain ⟨k, hk, rfl, hown, hbelw⟩ := hrel
        have HO := Lib.hid hown
        clear hown
        by_cases hlt2 : k < len
        · have hkL : k < l.length := by have := HLEN.out; omega
          have hkG : k < G.length := by have := HGO.out.2.1; omega
          have hkR : k < R.length := by have := HGO.out.1; omega
          have hrk := HGO.out.2.2 k hlt2
          rw [show l.getD k false = l[k] from by simp [List.getD, hkL], show G.getD k false = G[k] from by simp [List.getD, hkG], show R.getD k false = R[k] from by simp [List.getD, hkR]] at hrk
          have hcl := (hbelw.cell (p := ⟨b1, off1 + k, none⟩) (Nat.lt_of_lt_of_le hb1 hbel.size)).trans ((hbel.cell (p := ⟨b1, off1 + k, none⟩) hb1).trans (HAT1.out k hkL))
          have hcg := (hbelw.cell (p := ⟨w.heap.size, k, none⟩) hgs).trans (HCG.out k hkG)
          have hsn : (R.take (k + 1)).map Value.bool = (R.take k).map Value.bool ++ [.bool R[k]] := by
            rw [← List.take_append_getElem hkR, List.map_append]; rfl
          rw [hrk] at hsn
          have HSN := Lib.hid hsn
          have hkI : (k : Int) < len := by omega
          clear hsn hrk
          generalize l[k] = x at *
          generalize G[k] = y at *
          cases x <;> cases y
          all_goals
            go_wp2_with (first | (at_builtin; go_must (refine wpList_push _ _ 34 4 HO.out hbelw (Nat.le_refl _) Try.underlying34 hi1 hy0 hy1 hy2 rfl (by decide) rfl rfl rfl rfl rfl (by intro u hu; rw [List.mem_singleton.1 hu]; rfl) (by omega) ?_)))
            intro v' w1 hown1 hbel1
            have HO1 := Lib.hid hown1
            clear hown1 hbelw
            go_wp2_with fail
            go_roundw
            case rel => exact ⟨k + 1, by omega, by go_num, by rw [HSN.out, List.map_take]; exact HO1.out, hbel1⟩
            case measure => simp [intOf]; omega
        · obtain rfl : k = len := by omega
          have hall : R.take k = R := List.take_of_length_le (by have := HGO.out.1; omega)
          have hown := HO.out
          rw [hall] at hown
          have HRD := Lib.hid (own_reads1 hown HGO.out.1)
          clear hown hall
          go_wp2_with fail
          go_ret2
          exact ⟨_, by rw [HX1.out]; rfl, by rw [HX2.out]; exact HRD.out, hbel.trans (hbelw.mono hbel.size)⟩

theorem refGive_any (v v2 : Value) (l : List Bool) (secs : List Int) (w : World) (h : IsBools w v l) (hs : IsInts w v2 secs) :
    Calls Try.prog 36 #[v, v2] w (BoolsPost (giveE l secs) (giveL l secs) w) := by
  by_cases hr : rightB l = true
  · exact refGive_right v v2 l secs w h hs hr
  · have hO : giveO l secs = none := by unfold giveO; rw [if_neg hr]
    have e1 : giveE l secs = 1 := by unfold giveE; rw [hO]
    have e2 : giveL l secs = [] := by unfold giveL; rw [hO]; rfl
    have hr' : rightB l = false := by simpa using hr
    rw [e1, e2]
    have hR := Lib.hid (fun u hu => refRight_any v l u hu)
    rw [hr'] at hR
    have HH := Lib.hid h
    obtain ⟨a, len, cap, rfl, hlen, hc1, hc2, hat⟩ := h
    obtain ⟨⟨a2, len2, cap2, rfl, hlen2, hc12, hc22, hat2⟩, hbd⟩ := hs
    clear hr hO e1 e2 hr' hat hlen hlen2 hat2 hbd
    go_enter Try.func36, Try.ntmps36
    go_wp2_with fail
    refine (hR.out _ HH.out).mono ?_
    rintro e w' ⟨rfl, rfl⟩
    go_wp2_with fail
    go_ret2
    exact ⟨_, rfl, bools_nil w, Below.refl _ _⟩
end Go.Proofs.Ytbndhegmfnfahaa
