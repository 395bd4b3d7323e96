/- wal.Read. -/
import Derived.Test.YtimiooiaohfelaaDoorWl3
import Derived.Test.YtimiooiaohfelaaDoorDiskRd
namespace Go.Proofs.YtimiooiaohfelaaDoor
open Go.RowKit
set_option linter.unusedVariables false
set_option linter.unusedSimpArgs false

def isAt (n : Int) (x : Wrt) : Bool := x.sector == n
/-- what a home sector tells -/
def tellsW (l : Lg) (n : Int) : ByteArray := match l.dirty.find? (isAt n) with
  | some x => x.bytes
  | none => tells l.dsk n.toNat
def readWE (l : Lg) (n : Int) : Int := if rightL l = true then (if homeB l.secs.length n = true then 0 else 20) else 1
def readWS (l : Lg) (n : Int) : ByteArray := if readWE l n = 0 then tellsW l n else ⟨#[]⟩
theorem find_at (n : Int) : ∀ (l : List Wrt) (k : Nat), (∀ j, j < k → (l.getD j wrtZ).sector ≠ n) → k < l.length → (l.getD k wrtZ).sector = n → l.find? (isAt n) = some (l.getD k wrtZ)
  | x :: l, 0, _, _, h => by
    simp only [List.getD_cons_zero] at h ⊢
    rw [List.find?_cons_of_pos (by simp [isAt, h])]
  | x :: l, k + 1, h1, hk, h => by
    have h0 := h1 0 (by omega)
    simp only [List.getD_cons_zero] at h0
    rw [List.find?_cons_of_neg (by simp [isAt, h0]), find_at n l k (fun j hj => by simpa using h1 (j + 1) (by omega)) (by simpa using hk) (by simpa using h)]
    simp
theorem find_no (n : Int) (l : List Wrt) (h : ∀ j, j < l.length → (l.getD j wrtZ).sector ≠ n) : l.find? (isAt n) = none := by
  rw [List.find?_eq_none]
  intro x hx
  obtain ⟨i, hi, rfl⟩ := List.mem_iff_getElem.1 hx
  have := h i hi
  rw [show l.getD i wrtZ = l[i] from by simp [List.getD, hi]] at this
  simp [isAt, this]
theorem found_yes {l : List Wrt} {n : Int} {k : Nat} (h : FindAt l n k) (hf : foundB l n k = true) : k < l.length ∧ l.find? (isAt n) = some (l.getD k wrtZ) := by
  unfold foundB at hf
  rw [decide_eq_true_eq] at hf
  exact ⟨hf.1, find_at n l k (fun j hj => by have := h.2.1 j hj; omega) hf.1 hf.2⟩
theorem found_no {l : List Wrt} {n : Int} {k : Nat} (h : FindAt l n k) (hf : foundB l n k = false) (hm : ∀ i j, i < j → j < l.length → (l.getD i wrtZ).sector < (l.getD j wrtZ).sector) : l.find? (isAt n) = none := by
  unfold foundB at hf
  rw [decide_eq_false_iff_not] at hf
  refine find_no n l (fun j hj he => ?_)
  by_cases h1 : j < k
  · have := h.2.1 j h1; omega
  · by_cases h2 : j = k
    · subst h2; exact hf ⟨hj, he⟩
    · have h3 := hm k j (by omega) hj
      have h4 := h.2.2 k (Nat.le_refl _) (by omega)
      omega
theorem home_bnd {n : Nat} {s : Int} (h : homeB n s = true) (hn : n ≤ 256) : 53 ≤ s ∧ s < n ∧ s ≤ 256 := by
  unfold homeB at h
  rw [decide_eq_true_eq] at h
  omega
set_option maxRecDepth 100000 in
set_option maxHeartbeats 2000000 in
theorem wlRead (v : Value) (l : Lg) (n : Int) (w : World) (h : IsLog w v l) (hp : l.pend.length ≤ 1000000) :
    Calls Tryd.prog 21 #[v, .int .i64 n] w fun e w' => e = .returned (.tuple #[.string (readWS l n), .int .i64 (readWE l n)]) ∧ Below w.heap.size w w' := by
  obtain ⟨a, c, a', c', a2, c2, rfl, ⟨h1, h2⟩, ⟨h3, h4⟩, ⟨h5, h6⟩, hS, hP, hD⟩ := id h.form
  have hal := (Below.refl w.heap.size w).alloc (Nat.le_refl _) (.cells #[.slice a l.secs.length c, .slice a' l.pend.length c', .int .i64 l.left, .int .i64 l.epoch, .int .i64 l.seq, .int .i64 l.used, .slice a2 l.dirty.length c2] 29)
  have b0 := heap_alloc_new w (.cells #[.slice a l.secs.length c, .slice a' l.pend.length c', .int .i64 l.left, .int .i64 l.epoch, .int .i64 l.seq, .int .i64 l.used, .slice a2 l.dirty.length c2] 29)
  have HL := Lib.hid (fun x (hx : Below w.heap.size w x) => h.below hx)
  have HR := Lib.hid (fun x (hx : Below w.heap.size w x) => wlRight _ l x (h.below hx))
  have HH := Lib.hid (fun x (hx : Below w.heap.size w x) => wlHome _ l n x (h.below hx))
  have HD := Lib.hid (fun x (hx : Below w.heap.size w x) => hD.below hx)
  have HDK := Lib.hid (fun x (hx : Below w.heap.size w x) => IsLog.disk (h.below hx))
  have hE : readWE l n = if rightL l = true then (if homeB l.secs.length n = true then 0 else 20) else 1 := rfl
  have hSS : readWS l n = if readWE l n = 0 then tellsW l n else ⟨#[]⟩ := rfl
  have hTW : tellsW l n = match l.dirty.find? (isAt n) with | some x => x.bytes | none => tells l.dsk n.toNat := rfl
  have hRF := fun hr => right_dirty (l := l) hr
  have HF := Lib.hid (fun x (hx : Below w.heap.size w x) hr hn => wlFindD (.slice a2 l.dirty.length c2) l n x (hD.below hx) hr hn)
  have HRD := Lib.hid (fun x (hx : Below w.heap.size w x) => diskRead_any _ l.dsk n x (IsLog.disk (h.below hx)) (show l.dsk.pend.length ≤ 1000000 from hp))
  have HBD := Lib.hid h.1
  have hDat : ∀ x, Below w.heap.size w x → ∀ k, k < l.dirty.length → ∃ b off, a2 = some ⟨b, off, none⟩ ∧ WrtAt x b (off + k * 2) (l.dirty.getD k wrtZ) := by
    obtain ⟨a9, n9, c9, hv, hl9, _, _, _, hat⟩ := id hD
    injection hv with t1 t2 t3
    subst t1 t2 t3
    intro x hx k hk
    obtain ⟨b, off, rfl, hb, hat⟩ := hat.resolve_left (by omega)
    exact ⟨b, off, rfl, (hat k hk).below hx hb⟩
  have HDAT := Lib.hid hDat
  have HRF := Lib.hid hRF
  have hdl : (l.dirty.length : Int) ≤ 9223372036854775807 := by omega
  clear hS hP hD h h1 h3 h5 hDat hRF
  generalize hrl : rightL l = r at *
  generalize hhb : homeB l.secs.length n = hb at *
  have HHB := Lib.hid hhb; have HRL := Lib.hid hrl
  have HE := Lib.hid hE; have HSS := Lib.hid hSS; have HTW := Lib.hid hTW
  clear hhb hrl hE hSS hTW
  obtain ⟨u, hU⟩ : ∃ u, w.alloc (.cells #[.slice a l.secs.length c, .slice a' l.pend.length c', .int .i64 l.left, .int .i64 l.epoch, .int .i64 l.seq, .int .i64 l.used, .slice a2 l.dirty.length c2] 29) = u := ⟨_, rfl⟩
  rw [hU] at hal b0
  have HU := Lib.hid hU; have HAL := Lib.hid hal; have HB0 := Lib.hid b0
  clear hU hal b0
  obtain ⟨secs, pend, left, epoch, seq, used, dirty⟩ := l
  simp only [Lg.dsk] at *
  generalize hNN : secs.length = N at *
  generalize pend.length = P at *
  generalize hDD : dirty.length = D at *
  have c0 := below_cell (Below.refl _ u) HB0.out 0 rfl
  have c1 := below_cell (Below.refl _ u) HB0.out 1 rfl
  have c2' := below_cell (Below.refl _ u) HB0.out 2 rfl
  have c3 := below_cell (Below.refl _ u) HB0.out 3 rfl
  have c4 := below_cell (Below.refl _ u) HB0.out 4 rfl
  have c5 := below_cell (Below.refl _ u) HB0.out 5 rfl
  have c6 := below_cell (Below.refl _ u) HB0.out 6 rfl
  have HR1 := Lib.hid (HR.out u HAL.out)
  go_enter Tryd.func21, Tryd.ntmps21
  go_upto_region 1 with fail
  rw [HU.out]
  go_upto_if 10 with (first | (go_at_call 9; refine HR1.out.mono ?_; rintro e u1 ⟨rfl, hb1⟩))
  have HA1 := Lib.hid (HAL.out.trans (hb1.mono HAL.out.size))
  have HB1 := Lib.hid ((hb1.block _ (lt_of_block HB0.out)).trans HB0.out)
  clear c0 c1 c2' c3 c4 c5 c6 hb1 HB0 HAL HR HR1
  cases r with
  | false =>
    have hx1 : readWE ⟨secs, pend, left, epoch, seq, used, dirty⟩ n = 1 := by rw [HE.out]; rfl
    have hx2 : readWS ⟨secs, pend, left, epoch, seq, used, dirty⟩ n = ⟨#[]⟩ := by rw [HSS.out, hx1]; rfl
    have X1 := Lib.hid hx1; have X2 := Lib.hid hx2
    clear hx1 hx2
    go_wp2_with fail
    go_ret2
    exact ⟨by rw [X1.out, X2.out]; rfl, HA1.out⟩
  | true =>
  have c0 := below_cell (Below.refl _ u1) HB1.out 0 rfl
  have c1 := below_cell (Below.refl _ u1) HB1.out 1 rfl
  have c2' := below_cell (Below.refl _ u1) HB1.out 2 rfl
  have c3 := below_cell (Below.refl _ u1) HB1.out 3 rfl
  have c4 := below_cell (Below.refl _ u1) HB1.out 4 rfl
  have c5 := below_cell (Below.refl _ u1) HB1.out 5 rfl
  have c6 := below_cell (Below.refl _ u1) HB1.out 6 rfl
  have HH1 := Lib.hid (HH.out u1 HA1.out)
  go_upto_if 14 with (first | (go_at_call 18; refine HH1.out.mono ?_; rintro e u2 ⟨rfl, hb2⟩))
  have HA2 := Lib.hid (HA1.out.trans (hb2.mono HA1.out.size))
  have HB2 := Lib.hid ((hb2.block _ (lt_of_block HB1.out)).trans HB1.out)
  clear c0 c1 c2' c3 c4 c5 c6 hb2 HB1 HA1 HH HH1
  cases hb with
  | false =>
    have hx1 : readWE ⟨secs, pend, left, epoch, seq, used, dirty⟩ n = 20 := by rw [HE.out]; rfl
    have hx2 : readWS ⟨secs, pend, left, epoch, seq, used, dirty⟩ n = ⟨#[]⟩ := by rw [HSS.out, hx1]; rfl
    have X1 := Lib.hid hx1; have X2 := Lib.hid hx2
    clear hx1 hx2
    go_wp2_with fail
    go_ret2
    exact ⟨by rw [X1.out, X2.out]; rfl, HA2.out⟩
  | true =>
  obtain ⟨hr1, hr2, hr3⟩ := HRF.out (by first | trivial | rfl)
  have hnb := home_bnd HHB.out hr2
  have HF2 := Lib.hid (HF.out u2 HA2.out (by first | trivial | rfl) (by omega))
  have hm := dirty_rises hr1
  have HM := Lib.hid hm
  have HX1 : Hid (readWE ⟨secs, pend, left, epoch, seq, used, dirty⟩ n = 0) := Lib.hid (by rw [HE.out]; rfl)
  have HX2 : Hid (readWS ⟨secs, pend, left, epoch, seq, used, dirty⟩ n = match dirty.find? (isAt n) with | some x => x.bytes | none => tells ⟨secs, pend⟩ n.toNat) := Lib.hid (by rw [HSS.out, HX1.out, if_pos rfl, HTW.out])
  have HD3 := Lib.hid hr3; have HNB := Lib.hid hnb
  clear hr1 hr2 hr3 hnb hm HRF HE HSS HTW HHB HF
  have c0 := below_cell (Below.refl _ u2) HB2.out 0 rfl
  have c1 := below_cell (Below.refl _ u2) HB2.out 1 rfl
  have c6 := below_cell (Below.refl _ u2) HB2.out 6 rfl
  go_upto_region 6 with (first | (go_at_call 42; refine HF2.out.mono ?_; rintro e u3 ⟨⟨k, hk, rfl⟩, hb3⟩))
  have HA3 := Lib.hid (HA2.out.trans (hb3.mono HA2.out.size))
  have HB3 := Lib.hid ((hb3.block _ (lt_of_block HB2.out)).trans HB2.out)
  clear c0 c1 c6 hb3 HB2 HA2 HF2
  have c0 := below_cell (Below.refl _ u3) HB3.out 0 rfl
  have c1 := below_cell (Below.refl _ u3) HB3.out 1 rfl
  have c6 := below_cell (Below.refl _ u3) HB3.out 6 rfl
  cases hf : foundB dirty n k with
  | true =>
    obtain ⟨hkl, hfd⟩ := found_yes hk hf
    rw [hDD] at hkl
    have hkI : (k : Int) < D := by omega
    obtain ⟨b, off, rfl, hw0, hw1⟩ := HDAT.out u3 HA3.out k hkl
    have HX3 := Lib.hid (HX2.out.trans (by rw [hfd]))
    generalize dirty.getD k wrtZ = X at *
    obtain ⟨xs, xb⟩ := X
    simp only at hw0 hw1
    clear hfd hf hk HX2
    go_wp2_with fail
    go_ret2
    exact ⟨by rw [HX1.out, HX3.out]; rfl, HA3.out⟩
  | false =>
    have hfd := found_no hk hf HM.out
    have HX3 := Lib.hid (HX2.out.trans (by rw [hfd]))
    have hre : readE ⟨secs, pend⟩ n = 0 := by unfold readE; rw [if_pos HD3.out, if_pos ⟨by have := HNB.out; omega, by have := HNB.out.2.1; show n < (secs.length : Int); rw [hNN]; exact this⟩]
    have hrs : readS ⟨secs, pend⟩ n = tells ⟨secs, pend⟩ n.toNat := by unfold readS; rw [hre, if_pos rfl]
    have HRD3 := Lib.hid (HRD.out u3 HA3.out)
    rw [hre, hrs] at HRD3
    generalize tells ⟨secs, pend⟩ n.toNat = TT at *
    clear hfd hf hk HX2 hre hrs HRD
    go_wp2_with (first | (go_at_call 43; refine HRD3.out.mono ?_; rintro e u4 ⟨rfl, hb4⟩))
    go_ret2
    exact ⟨by rw [HX1.out, HX3.out]; rfl, HA3.out.trans (hb4.mono HA3.out.size)⟩
end Go.Proofs.YtimiooiaohfelaaDoor
