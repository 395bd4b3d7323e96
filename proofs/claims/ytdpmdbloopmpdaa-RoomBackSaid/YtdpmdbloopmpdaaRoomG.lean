/- Giving sectors back. -/
import Derived.Test.YtdpmdbloopmpdaaRoomT
import Derived.Test.YtdpmdbloopmpdaaRow2
namespace Go.Proofs.Ytdpmdbloopmpdaa
open Go.ChangeShapes Go.WideShapes Go.ChangeAt Go.RowKit Go.Joins Go.Deep
set_option linter.unusedVariables false

def intV (n : Int) : Value := .int .i64 n
def IsInts (w : World) (v : Value) (l : List Int) : Prop := Reads1 intV w v l ∧ ∀ i ∈ l, -9223372036854775808 ≤ i ∧ i ≤ 9223372036854775807
theorem openInts {H : Type} {enc : TypeId × Value → H} {W : World} {base : Nat} {v : Value} {d : DataW H} {p : List MemPlace}
    (hok : Value.okWide Try.prog W .any base 32 v) (h : DataW.Trod enc Try.prog W 0 (fun _ => true) true 32 v d p) : ∃ l, IsInts W v l := by
  obtain ⟨a, len, cap, rfl, hl, hm, hat⟩ := openElems (e := 3) 1 undef Try.underlying32 (by kernel_rfl) (by omega) hok h
  rcases hat with rfl | ⟨b, off, rfl, hb, hat⟩
  · exact ⟨[], ⟨_, 0, _, rfl, rfl, by omega, hm, .inl rfl⟩, by simp⟩
  · obtain ⟨l, hll, hP⟩ := list_of (P := fun i (k : Int) => (-9223372036854775808 ≤ k ∧ k ≤ 9223372036854775807) ∧ W.cell? ⟨b, off + i, none⟩ = some (intV k)) 0 len fun i hlt => by
      obtain ⟨cs, n, y, hcl, hc, htr⟩ := hat i hlt
      match cs, hcl with
      | [c0], _ =>
        obtain ⟨a0, e0, _, w0⟩ := DataW.trod_int Try.underlying3 htr
        simp at e0
        subst e0
        have := hc 0 (by omega)
        exact ⟨a0, wf_i64 w0, by simpa [intV] using this⟩
    refine ⟨l, ⟨_, len, _, rfl, hll, hl, hm, .inr ⟨b, off, rfl, hb, fun i hi => ?_⟩⟩, fun i hi => ?_⟩
    · have := (hP i (by omega)).2
      rwa [show l.getD i 0 = l[i] from by simp [List.getD, hi]] at this
    · obtain ⟨k, hk, rfl⟩ := List.mem_iff_getElem.1 hi
      have := (hP k (by omega)).1
      rwa [show l.getD k 0 = l[k] from by simp [List.getD, hk]] at this

/-- one sector given back -/
def gvOk (r : List Bool) (s : Int) : Prop := 54 ≤ s ∧ s < r.length ∧ r.getD s.toNat false = true
instance (r : List Bool) (s : Int) : Decidable (gvOk r s) := by unfold gvOk; exact inferInstance
def gk (l : List Bool) (secs : List Int) : Nat → Option (List Bool)
  | 0 => some l
  | k + 1 => match gk l secs k with
    | none => none
    | some r => if gvOk r (secs.getD k 0) then some (r.set (secs.getD k 0).toNat false) else none
theorem gk_none (l : List Bool) (secs : List Int) (k : Nat) (h : gk l secs k = none) : ∀ j, k ≤ j → gk l secs j = none := by
  intro j hj
  induction j with
  | zero => obtain rfl : k = 0 := by omega
            exact h
  | succ j ih =>
    by_cases hk : k = j + 1
    · subst hk; exact h
    · rw [gk, ih (by omega)]
theorem gk_len (l : List Bool) (secs : List Int) (k : Nat) (r : List Bool) (h : gk l secs k = some r) : r.length = l.length := by
  induction k generalizing r with
  | zero => rw [gk] at h; injection h with h; rw [h]
  | succ k ih =>
    rw [gk] at h
    split at h
    · cases h
    · rename_i r' hr'
      split at h
      · injection h with h; subst h; rw [List.length_set]; exact ih _ hr'
      · cases h
def giveO (l : List Bool) (secs : List Int) : Option (List Bool) := if rightB l = true then gk l secs secs.length else none
def giveE (l : List Bool) (secs : List Int) : Int := match giveO l secs with | some _ => 0 | none => 1
def giveL (l : List Bool) (secs : List Int) : List Bool := (giveO l secs).getD []

set_option maxRecDepth 100000 in
set_option maxHeartbeats 1000000 in
theorem roomGive_right (v v2 : Value) (l : List Bool) (secs : List Int) (w : World) (h : IsBools w v l) (hs : IsInts w v2 secs) (hr : rightB l = true) :
    Calls Try.prog 15 #[v, v2] w (BoolsPost (giveE l secs) (giveL l secs) w) := by
  have hR := Lib.hid (fun u hu => roomRight_any v l u hu)
  have hl256 := (rightB_len hr).2
  have hC := Lib.hid (fun u hu => roomCopied_any v l u hu hl256)
  have hg : giveO l secs = gk l secs secs.length := by unfold giveO; rw [if_pos hr]
  have hE : ∀ k, k < secs.length → gk l secs (k + 1) = none → giveE l secs = 1 ∧ giveL l secs = [] := fun k hk hn => by
    have : giveO l secs = none := by rw [hg]; exact gk_none _ _ _ hn _ (by omega)
    unfold giveE giveL
    rw [this]
    exact ⟨rfl, rfl⟩
  have hS : ∀ r, gk l secs secs.length = some r → giveE l secs = 0 ∧ giveL l secs = r := fun r hn => by
    unfold giveE giveL
    rw [hg, hn]
    exact ⟨rfl, rfl⟩
  have HH := Lib.hid h
  obtain ⟨a, len, cap, rfl, hlen, hc1, hc2, hat⟩ := h
  obtain ⟨⟨a2, len2, cap2, rfl, hlen2, hc12, hc22, hat2⟩, hbd⟩ := hs
  rw [hr] at hR
  have hlI : (len : Int) ≤ 256 := by omega
  have hl2I : (len2 : Int) ≤ 9223372036854775807 := by omega
  have HLEN := Lib.hid hlen; have HLEN2 := Lib.hid hlen2; have HAT2 := Lib.hid hat2; have HE := Lib.hid hE; have HS := Lib.hid hS
  have HBD := Lib.hid (fun k (hk : k < secs.length) => hbd _ (List.getElem_mem hk))
  clear hr hl256 hat hlen hlen2 hat2 hE hS hg hbd
  go_enter Try.func15, Try.ntmps15
  go_wp2_with fail
  refine (hR.out _ HH.out).mono ?_
  rintro e w' ⟨rfl, rfl⟩
  go_wp2_with fail
  refine (hC.out _ HH.out).mono ?_
  rintro e w2 ⟨rfl, hg2, hb2⟩
  rw [HLEN.out]
  have HG := Lib.hid hg2
  clear hR hC hg2
  go_wp2_with fail
  go_loopw [16] (fun c wr => ∃ (k : Nat) (R : List Bool), k ≤ len2 ∧ c = .int .i64 k ∧ gk l secs k = some R ∧ wr.heap[w.heap.size]? = some (.cells (R.map Value.bool).toArray 4 (0, 0)) ∧ Below w.heap.size w wr) (fun c _ => len2 - (intOf c).toNat)
  case atStart => exact ⟨0, l, by omega, rfl, rfl, HG.out, hb2⟩
  case round =>
    clear HG hb2
    obtain ⟨k, R, hk, rfl, hgk, hblk, hbel⟩ := hrel
    have hRl : R.length = len := by rw [gk_len _ _ _ _ hgk]; exact HLEN.out
    by_cases hlt : k < len2
    · obtain ⟨b, off, rfl, hb, hat⟩ := HAT2.out.resolve_left (by omega)
      have hkl : k < secs.length := by have := HLEN2.out; omega
      have hcell := (hbel.cell (p := ⟨b, off + k, none⟩) hb).trans (hat k hkl)
      have hgd : secs.getD k 0 = secs[k] := by simp [List.getD, hkl]
      have hbds := HBD.out k hkl
      have hnx : gk l secs (k + 1) = if gvOk R (secs.getD k 0) then some (R.set (secs.getD k 0).toNat false) else none := by rw [gk, hgk]
      rw [hgd] at hnx
      have HNX := Lib.hid hnx; have HB := Lib.hid hblk; have HRL := Lib.hid hRl
      clear hat hgd hnx hgk hblk hRl
      simp only [intV] at hcell
      have HEK := Lib.hid (HE.out k hkl)
      generalize secs[k] = s at *
      by_cases h54 : 54 ≤ s
      · by_cases hsl : s < len
        · obtain ⟨j, rfl⟩ := Int.eq_ofNat_of_zero_le (show 0 ≤ s by omega)
          have hjR : j < R.length := by have := HRL.out; omega
          have hcj : wr.cell? ⟨w.heap.size, j, none⟩ = some (.bool R[j]) := by
            rw [cell_of_row _ _ _ _ _ _ HB.out]; simp [hjR]
          have hfz := block_frozen HB.out j
          have hRj : R.getD j false = R[j] := by simp [List.getD, hjR]
          cases hbj : R[j]
          · rw [hbj] at hcj hRj
            have hno : gk l secs (k + 1) = none := by
              rw [HNX.out, if_neg]
              intro h
              have := h.2.2
              rw [Int.toNat_natCast, hRj] at this
              cases this
            obtain ⟨x1, x2⟩ := HEK.out hno
            have HX1 := Lib.hid x1; have HX2 := Lib.hid x2
            clear x1 x2 hno hbj hRj
            go_wp2_with fail
            go_ret2
            exact ⟨_, by rw [HX1.out]; rfl, by rw [HX2.out]; exact bools_nil _, hbel⟩
          · rw [hbj] at hcj hRj
            have hyes : gk l secs (k + 1) = some (R.set j false) := by
              rw [HNX.out, if_pos]
              · rw [Int.toNat_natCast]
              · exact ⟨h54, by have := HRL.out; omega, by rw [Int.toNat_natCast]; exact hRj⟩
            have hblk2 := block_set HB.out j (.bool false)
            rw [arr_set] at hblk2
            have hbel2 := hbel.setCell (p := ⟨w.heap.size, j, none⟩) (Nat.le_refl _) (.bool false)
            have HY := Lib.hid hyes; have HB2 := Lib.hid hblk2
            clear hyes hblk2 hbj hRj
            go_wp2_with fail
            go_roundw
            case rel => exact ⟨k + 1, _, by omega, by go_num, HY.out, HB2.out, hbel2⟩
            case measure => simp [intOf]; omega
        · have hno : gk l secs (k + 1) = none := by
            rw [HNX.out, if_neg]
            intro h
            have := h.2.1
            have := HRL.out
            omega
          obtain ⟨x1, x2⟩ := HEK.out hno
          have HX1 := Lib.hid x1; have HX2 := Lib.hid x2
          have hsl' : (len : Int) ≤ s := by omega
          clear x1 x2 hno
          go_wp2_with fail
          go_ret2
          exact ⟨_, by rw [HX1.out]; rfl, by rw [HX2.out]; exact bools_nil _, hbel⟩
      · have hno : gk l secs (k + 1) = none := by
          rw [HNX.out, if_neg]
          intro h
          exact h54 h.1
        obtain ⟨x1, x2⟩ := HEK.out hno
        have HX1 := Lib.hid x1; have HX2 := Lib.hid x2
        have h54' : s < 54 := by omega
        clear x1 x2 hno
        go_wp2_with fail
        go_ret2
        exact ⟨_, by rw [HX1.out]; rfl, by rw [HX2.out]; exact bools_nil _, hbel⟩
    · obtain rfl : k = len2 := by omega
      rw [← HLEN2.out] at hgk
      obtain ⟨x1, x2⟩ := HS.out R hgk
      have hrd := block_reads1 hblk (by omega)
      rw [hRl] at hrd
      have HX1 := Lib.hid x1; have HX2 := Lib.hid x2; have HRD := Lib.hid hrd
      clear x1 x2 hgk hblk hrd
      go_wp2_with fail
      go_ret2
      exact ⟨_, by rw [HX1.out]; rfl, by rw [HX2.out]; exact HRD.out, hbel⟩
theorem roomGive_any (v v2 : Value) (l : List Bool) (secs : List Int) (w : World) (h : IsBools w v l) (hs : IsInts w v2 secs) :
    Calls Try.prog 15 #[v, v2] w (BoolsPost (giveE l secs) (giveL l secs) w) := by
  by_cases hr : rightB l = true
  · exact roomGive_right v v2 l secs w h hs hr
  · have hO : giveO l secs = none := by unfold giveO; rw [if_neg hr]
    have e1 : giveE l secs = 1 := by unfold giveE; rw [hO]
    have e2 : giveL l secs = [] := by unfold giveL; rw [hO]; rfl
    have hr' : rightB l = false := by simpa using hr
    rw [e1, e2]
    have hR := Lib.hid (fun u hu => roomRight_any v l u hu)
    rw [hr'] at hR
    have HH := Lib.hid h
    obtain ⟨a, len, cap, rfl, hlen, hc1, hc2, hat⟩ := h
    obtain ⟨⟨a2, len2, cap2, rfl, hlen2, hc12, hc22, hat2⟩, hbd⟩ := hs
    clear hr hO e1 e2 hr' hat hlen hlen2 hat2 hbd
    go_enter Try.func15, Try.ntmps15
    go_wp2_with fail
    refine (hR.out _ HH.out).mono ?_
    rintro e w' ⟨rfl, rfl⟩
    go_wp2_with fail
    go_ret2
    exact ⟨_, rfl, bools_nil w, Below.refl _ _⟩
end Go.Proofs.Ytdpmdbloopmpdaa
