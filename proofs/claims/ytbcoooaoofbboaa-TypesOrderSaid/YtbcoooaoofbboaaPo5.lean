/- A rule, looked up. -/
import Derived.Test.YtbcoooaoofbboaaPo4
import Derived.Test.YtbcoooaoofbboaaZro
import Derived.Test.YtbcoooaoofbboaaPol
import Derived.Test.YtbcoooaoofbboaaTn1
import Derived.Test.YtbcoooaoofbboaaSr10
import Derived.Test.YtbcoooaoofbboaaCallNr
import Derived.Test.YtbcoooaoofbboaaCallAction
import Derived.Outline
import Derived.Deep.RegionHeld
import Derived.Deep.RegionWith
namespace Go.Proofs.Ytbcoooaoofbboaa
open Go.RowKit Go.ChangeShapes Go.Sort
set_option linter.unusedVariables false
set_option linter.unusedSimpArgs false

theorem infoU32p : (Try.prog.info? 35).map (fun i => (i.zero, i.size, i.bytes)) = some (some (.int .u32 0), 1, 4) := by kernel_rfl
def u32P (n : Nat) : Value := .int .u32 (n : Nat)
def nrQ (a : Nat) (s : ByteArray) : Option Nat := nrOf (tabOf (a : Int)) s
def Rul.nums (a : Nat) (m : Rul) : List Nat := m.names.map fun s => (nrQ a s).getD 0
/-- may the rule be? -/
def Rul.ok (a : Nat) (m : Rul) : Bool := (actRes m.act (m.data : Int)).isSome && !decide (m.names.length = 0) && (m.cnd.zero || m.cnd.right) && m.names.all fun s => (nrQ a s).isSome
def Rul.mtc (a : Nat) (m : Rul) : Mtc := ⟨nrsU (m.nums a), m.cnd, (actRes m.act (m.data : Int)).getD 0⟩
theorem nrQ_le (a : Nat) (s : ByteArray) : (nrQ a s).getD 0 ≤ 4294967295 := by
  unfold nrQ nrOf
  cases h : (tabOf (a : Int)).find? fun e => decide (keyOfN e = s) with
  | none => simp
  | some e =>
    obtain ⟨i, hi, he⟩ := List.mem_iff_getElem.1 (List.mem_of_find?_eq_some h)
    have := tab_small (a : Int) i hi
    rw [show (tabOf (a : Int)).getD i ([], 0) = (tabOf (a : Int))[i] by simp [List.getD, hi], he] at this
    simp
    omega
theorem act_le (s : ByteArray) (d : Int) : (actRes s d).getD 0 ≤ 4294967295 := by
  unfold actRes
  cases h : actOf s with
  | none => simp
  | some p =>
    have h1 := actOf_cases s p h
    simp only
    split
    · simp only [Option.getD_some]; omega
    · simp
theorem own_srtP {w : World} {base g n cap : Nat} {l : List Nat} (h : w.ownsRow base 35 1 (.slice (some ⟨g, 0, none⟩) n cap) n (l.map u32P)) (hl : l.length = n) : Srt w g (intsN l).toArray w ∧ base ≤ g ∧ n ≤ cap ∧ cap ≤ 9223372036854775807 := by
  rcases h.2 with ⟨e, _⟩ | ⟨g', cap', cur, e, hg, hh, hn, hc, hcs, htake⟩
  · cases e
  · injection e with e1 e2 e3
    injection e1 with e1
    injection e1 with e1
    subst e1 e3
    refine ⟨⟨rfl, rfl, rfl, Nat.le_refl _, lt_of_block hh, fun _ _ _ => rfl, cur, cur, hh, hh, rfl, ?_, fun t ht => ?_, fun _ _ => rfl⟩, hg, hn, by unfold maxLen at hc; exact hc⟩
    · rw [hcs]; simp [intsN, hl]; omega
    · have ht' : t < l.length := by simpa [intsN] using ht
      have h0 := h.cells (g := g) rfl t (u32P l[t]) (by simp [ht'])
      have h1 : w.cell? ⟨g, t, none⟩ = cur[t]? := cell_of_row _ _ _ _ _ _ hh
      rw [addr_add, Nat.zero_add, h1] at h0
      rw [h0]
      simp [u32P, intsN, ht']
/-- what Compact leaves of a sorted row reads as its numbers, rising, each once -/
theorem cmp_u32s {w0 w' : World} {g n cap : Nat} {l : List Nat} (hl : l.length = n) (hall : ∀ x ∈ l, x ≤ 4294967295) (hnc : n ≤ cap) (hcx : cap ≤ 9223372036854775807)
    (hd : ∃ d' : Array Int, d'.size = n ∧ (∀ t, t < (cmpK (sortN l).toArray n).length → d'[t]! = (cmpK (sortN l).toArray n).getD t 0) ∧ Srt w0 g d' w') : IsU32s w' (.slice (some ⟨g, 0, none⟩) (cmpK (sortN l).toArray n).length cap) (nrsU l) := by
  obtain ⟨d', hd1, hd2, hs9⟩ := hd
  have hCC : cmpK (sortN l).toArray n = numI l := by
    unfold numI
    rw [sortN_len, hl]
  rw [hCC] at hd2 ⊢
  have hlen : (nrsU l).length = (numI l).length := by unfold nrsU; rw [List.length_map]
  have hle : (numI l).length ≤ n := by rw [← hlen, ← hl]; exact nrsU_len _
  have hval : ∀ i, i < (numI l).length → (Value.int .u32 ((numI l).getD i 0)) = .int .u32 ((nrsU l).getD i 0 : Nat) := fun i hi => by
    congr 1
    rw [← nrsU_ints]
    unfold intsN
    simp [List.getD, show i < (nrsU l).length by omega]
  refine ⟨_, _, _, rfl, hlen, by omega, hcx, fun x hx => hall x ((nrsU_mem _ _).1 hx), (fun e => by cases e), .inr ⟨g, 0, rfl, by have := hs9.size; have := hs9.lt; omega, fun i hi => ?_⟩⟩
  rw [Nat.zero_add, hs9.cell (by omega), hd2 i hi, hval i hi]
theorem cnd_size (c : Cnd) (h : (c.zero || c.right) = true) : c.size ≤ 1000 := by
  rw [Bool.or_eq_true] at h
  rcases h with h | h
  · have h0 : c.kids.length = 0 := by
      unfold Cnd.zero zeroV at h
      rw [Bool.and_eq_true] at h
      exact of_decide_eq_true h.2
    rw [c.size_eq, List.eq_nil_of_length_eq_zero h0, sizes]
    omega
  · unfold Cnd.right at h
    rw [Bool.and_eq_true] at h
    have := of_decide_eq_true h.1
    omega
theorem eight_block {w : World} {g : Nat} {T : TypeId} {x0 x1 x2 x3 x4 x5 x6 x7 : Value} (h : w.heap[g]? = some (.cells #[x0, x1, x2, x3, x4, x5, x6, x7] T (0, 0))) (v0 v1 v2 v3 v4 v5 v6 v7 : Value) :
    ((((((((w.setCell ⟨g, 0, none⟩ v0).setCell ⟨g, 1, none⟩ v1).setCell ⟨g, 2, none⟩ v2).setCell ⟨g, 3, none⟩ v3).setCell ⟨g, 4, none⟩ v4).setCell ⟨g, 5, none⟩ v5).setCell ⟨g, 6, none⟩ v6).setCell ⟨g, 7, none⟩ v7).heap[g]? = some (.cells #[v0, v1, v2, v3, v4, v5, v6, v7] T (0, 0)) := by
  have h8 := block_set (block_set (block_set (block_set (block_set (block_set (block_set (block_set h 0 v0) 1 v1) 2 v2) 3 v3) 4 v4) 5 v5) 6 v6) 7 v7
  simpa using h8
theorem eight_below {B : Nat} {a w : World} {g : Nat} (h : Below B a w) (hg : B ≤ g) (v0 v1 v2 v3 v4 v5 v6 v7 : Value) :
    Below B a ((((((((w.setCell ⟨g, 0, none⟩ v0).setCell ⟨g, 1, none⟩ v1).setCell ⟨g, 2, none⟩ v2).setCell ⟨g, 3, none⟩ v3).setCell ⟨g, 4, none⟩ v4).setCell ⟨g, 5, none⟩ v5).setCell ⟨g, 6, none⟩ v6).setCell ⟨g, 7, none⟩ v7) :=
  (((((((h.setCell (p := ⟨g, 0, none⟩) hg _).setCell (p := ⟨g, 1, none⟩) hg _).setCell (p := ⟨g, 2, none⟩) hg _).setCell (p := ⟨g, 3, none⟩) hg _).setCell (p := ⟨g, 4, none⟩) hg _).setCell (p := ⟨g, 5, none⟩) hg _).setCell (p := ⟨g, 6, none⟩) hg _).setCell (p := ⟨g, 7, none⟩) hg _
theorem eight_other {w : World} {g V : Nat} (hne : V ≠ g) (v0 v1 v2 v3 v4 v5 v6 v7 : Value) :
    ((((((((w.setCell ⟨g, 0, none⟩ v0).setCell ⟨g, 1, none⟩ v1).setCell ⟨g, 2, none⟩ v2).setCell ⟨g, 3, none⟩ v3).setCell ⟨g, 4, none⟩ v4).setCell ⟨g, 5, none⟩ v5).setCell ⟨g, 6, none⟩ v6).setCell ⟨g, 7, none⟩ v7).heap[V]? = w.heap[V]? := by
  rw [Below.heap_setCell _ _ _ _ hne, Below.heap_setCell _ _ _ _ hne, Below.heap_setCell _ _ _ _ hne, Below.heap_setCell _ _ _ _ hne, Below.heap_setCell _ _ _ _ hne, Below.heap_setCell _ _ _ _ hne, Below.heap_setCell _ _ _ _ hne, Below.heap_setCell _ _ _ _ hne]
theorem u32_move {w w' : World} {g n c : Nat} {l : List Nat} (h : IsU32s w (.slice (some ⟨g, 0, none⟩) n c) l) (hh : w'.heap[g]? = w.heap[g]?) (hs : w.heap.size ≤ w'.heap.size) : IsU32s w' (.slice (some ⟨g, 0, none⟩) n c) l := by
  obtain ⟨_, _, _, hv, h1, h2, h3, h4, h5, h6⟩ := h
  injection hv with q1 q2 q3
  subst q1 q2 q3
  refine ⟨_, _, _, rfl, h1, h2, h3, h4, h5, h6.imp id ?_⟩
  rintro ⟨b, off, e, hlt, hat⟩
  injection e with e
  injection e with e1 e2
  subst e1 e2
  exact ⟨g, 0, rfl, Nat.lt_of_lt_of_le hlt hs, fun i hi => (cell_of_heap hh).trans (hat i hi)⟩
/-- what match answers -/
def MatchPost (w0 : World) (a : Nat) (m : Rul) (e : Ending) (w' : World) : Prop :=
  if m.ok a = true then ∃ ks k, e = .returned (.tuple #[.agg #[ks, .int .i64 m.cnd.kind, k, .int .i64 m.cnd.arg, .int .u64 (m.cnd.mask : Nat), .string m.cnd.sign, .int .u64 (m.cnd.value : Nat), .int .u32 ((m.mtc a).act : Nat)], .bool true]) ∧ (∃ g n c, ks = .slice (some ⟨g, 0, none⟩) n c ∧ w0.heap.size ≤ g) ∧ IsU32s w' ks (m.mtc a).nrs ∧ IsIn w' w0.heap.size k m.cnd.kids
  else e = .returned (.tuple #[.agg #[.slice none 0 0, .int .i64 0, .slice none 0 0, .int .i64 0, .int .u64 0, .string ⟨#[]⟩, .int .u64 0, .int .u32 0], .bool false])
theorem all_no (a : Nat) (l : List ByteArray) (i : Nat) (hi : i < l.length) (h : (nrQ a (l.getD i ByteArray.empty)).isSome = false) : (l.all fun s => (nrQ a s).isSome) = false := by
  rw [← Bool.not_eq_true, List.all_eq_true]
  intro hall
  have := hall l[i] (List.getElem_mem _)
  rw [show l.getD i ByteArray.empty = l[i] by simp [List.getD, hi]] at h
  rw [h] at this
  cases this
theorem all_yes (a : Nat) (l : List ByteArray) (n : Nat) (hn : l.length = n) (h : ∀ i, i < n → (nrQ a (l.getD i ByteArray.empty)).isSome = true) : (l.all fun s => (nrQ a s).isSome) = true := by
  rw [List.all_eq_true]
  intro s hs
  obtain ⟨i, hi, rfl⟩ := List.mem_iff_getElem.1 hs
  have := h i (by omega)
  rwa [show l.getD i ByteArray.empty = l[i] by simp [List.getD, hi]] at this
theorem nums_step (a : Nat) (l : List ByteArray) (j : Nat) (h : j < l.length) : (l.take (j + 1)).map (fun s => (nrQ a s).getD 0) = (l.take j).map (fun s => (nrQ a s).getD 0) ++ [(nrQ a (l.getD j ByteArray.empty)).getD 0] := by
  rw [List.take_succ_eq_append_getElem h, List.map_append, show l.getD j ByteArray.empty = l[j] by simp [List.getD, h]]
  rfl
set_option maxRecDepth 100000 in
set_option maxHeartbeats 8000000 in
theorem tyMatch (a : Nat) (ha : a ≤ 4294967295) (m : Rul) (v : Value) (w : World) (h : IsRul w v m) (hnm : m.names.length ≤ 1000) :
    Calls Try.prog 25 #[.int .u32 (a : Nat), v] w fun e w' => MatchPost w a m e w' ∧ Below w.heap.size w w' := by
  obtain ⟨i0, hi, hz0, hz1, hz2⟩ := info_parts infoU32p
  obtain ⟨hbd, ks, k, rfl, hst, hk⟩ := h
  have hok : m.ok a = ((actRes m.act (m.data : Int)).isSome && !decide (m.names.length = 0) && (m.cnd.zero || m.cnd.right) && m.names.all fun s => (nrQ a s).isSome) := rfl
  have hac := act_le m.act (m.data : Int)
  have hmt : m.mtc a = ⟨nrsU (m.nums a), m.cnd, (actRes m.act (m.data : Int)).getD 0⟩ := rfl
  have hpost : ∀ e w', (m.ok a = false → e = .returned (.tuple #[.agg #[.slice none 0 0, .int .i64 0, .slice none 0 0, .int .i64 0, .int .u64 0, .string ⟨#[]⟩, .int .u64 0, .int .u32 0], .bool false]) → MatchPost w a m e w') := fun e w' h1 h2 => by unfold MatchPost; rw [if_neg (by rw [h1]; decide)]; exact h2
  have hpost1 : ∀ ks k e w', m.ok a = true → (∃ g n c, ks = .slice (some ⟨g, 0, none⟩) n c ∧ w.heap.size ≤ g) → IsU32s w' ks (nrsU (m.nums a)) → IsIn w' w.heap.size k m.cnd.kids → e = .returned (.tuple #[.agg #[ks, .int .i64 m.cnd.kind, k, .int .i64 m.cnd.arg, .int .u64 (m.cnd.mask : Nat), .string m.cnd.sign, .int .u64 (m.cnd.value : Nat), .int .u32 ((actRes m.act (m.data : Int)).getD 0 : Nat)], .bool true]) → MatchPost w a m e w' := fun ks k e w' h1 h0 h2 h3 h4 => by unfold MatchPost; rw [if_pos h1]; exact ⟨ks, k, h4, h0, h2, h3⟩
  have hcd : IsCnd w (.agg (m.cnd.cells k).toArray) m.cnd := ⟨hbd.2.2, k, rfl, hk⟩
  have hnu : m.nums a = m.names.map fun s => (nrQ a s).getD 0 := rfl
  generalize MatchPost w a m = MP at *
  generalize m.ok a = OK at *
  generalize hNUM : m.nums a = NUM at *
  have HZ := Lib.hid (fun u (hu : Below w.heap.size w u) => tyZero_any m.cnd _ u (hcd.below hu)); have HRI := Lib.hid (fun u (hu : Below w.heap.size w u) => tyRight_any m.cnd _ u (hcd.below hu))
  have HCO := Lib.hid (fun (hs : m.cnd.size ≤ 1000) u (hu : Below w.heap.size w u) => tyCopied 1000 (Nat.le_refl _) m.cnd hs _ u (hcd.below hu))
  have HSZ := Lib.hid (cnd_size m.cnd)
  obtain ⟨act, data, names, cd⟩ := m
  obtain ⟨na, nn, nc, rfl, hnl, hn1, hn2, hns, _⟩ := id hst
  obtain ⟨ca, cn, cc, rfl, _⟩ := id hk
  obtain ⟨hb1, hb2, hb3⟩ := hbd
  simp only at hok hac hpost1 hb1 hb2 hnl hnm hnu HZ HRI HCO HSZ
  have HAC := Lib.hid (fun u => callAction_any act (data : Int) u (by omega) (by omega))
  have HNR := Lib.hid (fun s u => callNr_any (a : Int) s u (by omega) (by omega))
  obtain ⟨kind, kids, arg, mask, sign, value⟩ := cd
  generalize hZZ : (Cnd.mk kind kids arg mask sign value).zero = ZZ at *
  generalize hRR : (Cnd.mk kind kids arg mask sign value).right = RR at *
  simp only [Cnd.kind, Cnd.arg, Cnd.mask, Cnd.sign, Cnd.value, Cnd.kids] at hpost1
  generalize hAR : actRes act (data : Int) = AR at *
  have hw1 := ((Below.refl w.heap.size w).alloc (Nat.le_refl _) (.cells #[.string act, .int .u64 (data : Nat), .slice na nn nc, .int .i64 kind, .slice ca cn cc, .int .i64 arg, .int .u64 (mask : Nat), .string sign, .int .u64 (value : Nat)] 46)).alloc (by simp) (.cells #[.slice none 0 0, .int .i64 0, .slice none 0 0, .int .i64 0, .int .u64 0, .string ⟨#[]⟩, .int .u64 0, .int .u32 0] 49)
  have hB := (heap_alloc_old (w.alloc (.cells #[.string act, .int .u64 (data : Nat), .slice na nn nc, .int .i64 kind, .slice ca cn cc, .int .i64 arg, .int .u64 (mask : Nat), .string sign, .int .u64 (value : Nat)] 46)) (.cells #[.slice none 0 0, .int .i64 0, .slice none 0 0, .int .i64 0, .int .u64 0, .string ⟨#[]⟩, .int .u64 0, .int .u32 0] 49) (r := w.heap.size) (by simp)).trans (heap_alloc_new w (.cells #[.string act, .int .u64 (data : Nat), .slice na nn nc, .int .i64 kind, .slice ca cn cc, .int .i64 arg, .int .u64 (mask : Nat), .string sign, .int .u64 (value : Nat)] 46))
  have hR := heap_alloc_new (w.alloc (.cells #[.string act, .int .u64 (data : Nat), .slice na nn nc, .int .i64 kind, .slice ca cn cc, .int .i64 arg, .int .u64 (mask : Nat), .string sign, .int .u64 (value : Nat)] 46)) (.cells #[.slice none 0 0, .int .i64 0, .slice none 0 0, .int .i64 0, .int .u64 0, .string ⟨#[]⟩, .int .u64 0, .int .u32 0] 49)
  rw [World.size_alloc] at hR
  have HST := Lib.hid (fun u (hu : Below w.heap.size w u) => hst.belowP hu)
  have HP0 := Lib.hid hpost; have HP1 := Lib.hid hpost1; have HOK := Lib.hid hok; have HACT := Lib.hid hac; have HNL := Lib.hid hnl; have HNUM := Lib.hid hnu
  have hnnI : (nn : Int) ≤ 1000 := by omega
  clear hpost hpost1 hok hac hst hk hcd hmt hn1 hn2 hns hb1 hb2 hb3 hnl hnu hnm hNUM
  show Calls _ _ #[_, .agg #[.string act, .int .u64 (data : Nat), .slice na nn nc, .int .i64 kind, .slice ca cn cc, .int .i64 arg, .int .u64 (mask : Nat), .string sign, .int .u64 (value : Nat)]] _ _
  go_enter Try.func25, Try.ntmps25
  go_upto_region 1 with fail
  obtain ⟨W, hW⟩ : ∃ W, (w.alloc (.cells #[.string act, .int .u64 (data : Nat), .slice na nn nc, .int .i64 kind, .slice ca cn cc, .int .i64 arg, .int .u64 (mask : Nat), .string sign, .int .u64 (value : Nat)] 46)).alloc (.cells #[.slice none 0 0, .int .i64 0, .slice none 0 0, .int .i64 0, .int .u64 0, .string ⟨#[]⟩, .int .u64 0, .int .u32 0] 49) = W := ⟨_, rfl⟩
  rw [hW] at hw1 hB hR ⊢
  obtain ⟨B, hBB⟩ : ∃ B, w.heap.size = B := ⟨_, rfl⟩
  rw [hBB] at hB hR
  (try rw [hBB])
  have HB := Lib.hid hB; have HR := Lib.hid hR; have HW1 := Lib.hid hw1; have HBB := Lib.hid hBB
  clear hW hw1 hB hR hBB
  have d0 := below_cell (Below.refl _ W) HB.out 0 rfl
  have d1 := below_cell (Below.refl _ W) HB.out 1 rfl
  go_upto_region 2 with (first | (go_at_call 24; refine (HAC.out _).mono ?_; rintro e w2 ⟨rfl, hb2⟩))
  clear d0 d1
  have HB2 := Lib.hid hb2
  clear hb2 HAC
  have hz2 : ∀ u, Below w.heap.size w u → Calls Try.prog 37 #[.agg #[.int .i64 kind, .slice ca cn cc, .int .i64 arg, .int .u64 (mask : Nat), .string sign, .int .u64 (value : Nat)]] u (fun e w' => e = .returned (.bool ZZ) ∧ Below u.heap.size u w') := HZ.out
  have hr2 : ∀ u, Below w.heap.size w u → Calls Try.prog 10 #[.agg #[.int .i64 kind, .slice ca cn cc, .int .i64 arg, .int .u64 (mask : Nat), .string sign, .int .u64 (value : Nat)]] u (fun e w' => e = .returned (.bool RR) ∧ Below u.heap.size u w') := HRI.out
  have HZ2 := Lib.hid hz2; have HR2 := Lib.hid hr2
  clear hz2 hr2 HZ HRI
  have d2 := below_cell HB2.out HB.out 2 rfl
  have d3 := below_cell HB2.out HB.out 3 rfl
  have d4 := below_cell HB2.out HB.out 4 rfl
  have d5 := below_cell HB2.out HB.out 5 rfl
  have d6 := below_cell HB2.out HB.out 6 rfl
  have d7 := below_cell HB2.out HB.out 7 rfl
  have d8 := below_cell HB2.out HB.out 8 rfl
  cases AR with
  | none =>
    have HNO := Lib.hid (show OK = false from by rw [HOK.out]; rfl)
    clear HOK
    simp only [Option.getD_none, Option.isSome_none]
    go_upto_region 3 with fail
    have z0 := below_cell HB2.out HR.out 0 rfl
    have z1 := below_cell HB2.out HR.out 1 rfl
    have z2 := below_cell HB2.out HR.out 2 rfl
    have z3 := below_cell HB2.out HR.out 3 rfl
    have z4 := below_cell HB2.out HR.out 4 rfl
    have z5 := below_cell HB2.out HR.out 5 rfl
    have z6 := below_cell HB2.out HR.out 6 rfl
    have z7 := below_cell HB2.out HR.out 7 rfl
    have hRz := (HB2.out.block _ (lt_of_block HR.out)).trans HR.out
    have f0 := block_frozen hRz 0
    have f1 := block_frozen hRz 1
    have f2 := block_frozen hRz 2
    have f3 := block_frozen hRz 3
    have f4 := block_frozen hRz 4
    have f5 := block_frozen hRz 5
    have f6 := block_frozen hRz 6
    have f7 := block_frozen hRz 7
    have HRZ := Lib.hid hRz; have HBZ := Lib.hid (HW1.out.trans (HB2.out.mono HW1.out.size))
    clear hRz
    go_wp2_with fail
    exact bodyPost_ret (results_row_tmp rfl _ _ (B + 1) 49 #[.slice none 0 0, .int .i64 0, .slice none 0 0, .int .i64 0, .int .u64 0, .string ⟨#[]⟩, .int .u64 0, .int .u32 0] (0, 0) _ rfl (eight_block HRZ.out _ _ _ _ _ _ _ _) Try.underlying49 rfl (by kernel_rfl)) rfl ⟨HP0.out _ _ HNO.out rfl, eight_below HBZ.out (by have := HBB.out; omega) _ _ _ _ _ _ _ _⟩
  | some actN =>
    simp only [Option.getD_some, Option.isSome_some]
    have hok := HOK.out
    simp only [Option.isSome_some, Bool.true_and] at hok
    have hact := HACT.out
    simp only [Option.getD_some] at hact HP1
    by_cases hn0 : nn = 0
    · have HNO := Lib.hid (show OK = false from by rw [hok, HNL.out, decide_eq_true hn0]; rfl)
      subst hn0
      clear HOK hok
      go_upto_region 3 with fail
      have z0 := below_cell HB2.out HR.out 0 rfl
      have z1 := below_cell HB2.out HR.out 1 rfl
      have z2 := below_cell HB2.out HR.out 2 rfl
      have z3 := below_cell HB2.out HR.out 3 rfl
      have z4 := below_cell HB2.out HR.out 4 rfl
      have z5 := below_cell HB2.out HR.out 5 rfl
      have z6 := below_cell HB2.out HR.out 6 rfl
      have z7 := below_cell HB2.out HR.out 7 rfl
      have hRz := (HB2.out.block _ (lt_of_block HR.out)).trans HR.out
      have f0 := block_frozen hRz 0
      have f1 := block_frozen hRz 1
      have f2 := block_frozen hRz 2
      have f3 := block_frozen hRz 3
      have f4 := block_frozen hRz 4
      have f5 := block_frozen hRz 5
      have f6 := block_frozen hRz 6
      have f7 := block_frozen hRz 7
      have HRZ := Lib.hid hRz; have HBZ := Lib.hid (HW1.out.trans (HB2.out.mono HW1.out.size))
      clear hRz
      go_wp2_with fail
      exact bodyPost_ret (results_row_tmp rfl _ _ (B + 1) 49 #[.slice none 0 0, .int .i64 0, .slice none 0 0, .int .i64 0, .int .u64 0, .string ⟨#[]⟩, .int .u64 0, .int .u32 0] (0, 0) _ rfl (eight_block HRZ.out _ _ _ _ _ _ _ _) Try.underlying49 rfl (by kernel_rfl)) rfl ⟨HP0.out _ _ HNO.out rfl, eight_below HBZ.out (by have := HBB.out; omega) _ _ _ _ _ _ _ _⟩
    · have hnB : ((nn : Int) == 0) = false := by rw [beq_eq_false_iff_ne]; omega
      have hnN : (nn == 0) = false := by rw [beq_eq_false_iff_ne]; omega
      rw [HNL.out, decide_eq_false hn0] at hok
      have HOK2 := Lib.hid hok
      have HN0 := Lib.hid hn0
      clear hok HOK hn0
      by_cases hzr : (ZZ || RR) = true
      rotate_left
      · have hzr2 : ZZ = false ∧ RR = false := by cases ZZ <;> cases RR <;> simp_all
        obtain ⟨rfl, rfl⟩ := hzr2
        have HNO := Lib.hid (show OK = false from by rw [HOK2.out]; rfl)
        clear HOK2 hzr
        go_upto_region 3 with (first
          | (go_at_call 37; refine (HZ2.out _ (HW1.out.trans (HB2.out.mono HW1.out.size))).mono ?_; rintro e w3 ⟨rfl, hb3⟩; have hb23 := HB2.out.trans (hb3.mono HB2.out.size); have r3 := below_cell hb23 HB.out 3 rfl; have r4 := below_cell hb23 HB.out 4 rfl; have r5 := below_cell hb23 HB.out 5 rfl; have r6 := below_cell hb23 HB.out 6 rfl; have r7 := below_cell hb23 HB.out 7 rfl; have r8 := below_cell hb23 HB.out 8 rfl)
          | (go_at_call 10; refine (HR2.out _ (HW1.out.trans (hb23.mono HW1.out.size))).mono ?_; rintro e w4 ⟨rfl, hb4⟩; have hb24 := hb23.trans (hb4.mono hb23.size)))
        have z0 := below_cell hb24 HR.out 0 rfl
        have z1 := below_cell hb24 HR.out 1 rfl
        have z2 := below_cell hb24 HR.out 2 rfl
        have z3 := below_cell hb24 HR.out 3 rfl
        have z4 := below_cell hb24 HR.out 4 rfl
        have z5 := below_cell hb24 HR.out 5 rfl
        have z6 := below_cell hb24 HR.out 6 rfl
        have z7 := below_cell hb24 HR.out 7 rfl
        have hRz := (hb24.block _ (lt_of_block HR.out)).trans HR.out
        have f0 := block_frozen hRz 0
        have f1 := block_frozen hRz 1
        have f2 := block_frozen hRz 2
        have f3 := block_frozen hRz 3
        have f4 := block_frozen hRz 4
        have f5 := block_frozen hRz 5
        have f6 := block_frozen hRz 6
        have f7 := block_frozen hRz 7
        have HRZ := Lib.hid hRz; have HBZ := Lib.hid (HW1.out.trans (hb24.mono HW1.out.size))
        clear hRz
        go_wp2_with fail
        exact bodyPost_ret (results_row_tmp rfl _ _ (B + 1) 49 #[.slice none 0 0, .int .i64 0, .slice none 0 0, .int .i64 0, .int .u64 0, .string ⟨#[]⟩, .int .u64 0, .int .u32 0] (0, 0) _ rfl (eight_block HRZ.out _ _ _ _ _ _ _ _) Try.underlying49 rfl (by kernel_rfl)) rfl ⟨HP0.out _ _ HNO.out rfl, eight_below HBZ.out (by have := HBB.out; omega) _ _ _ _ _ _ _ _⟩
      · have HZR := Lib.hid hzr
        have HOK3 := Lib.hid (show OK = names.all (fun s => (nrQ a s).isSome) from by rw [HOK2.out, hzr]; rfl)
        have HSZ3 := Lib.hid (HSZ.out hzr)
        clear hzr HOK2 HSZ
        have key : ∃ w4, Below w2.heap.size w2 w4 ∧ True := ⟨w2, Below.refl _ _, trivial⟩
        clear key
        go_upto_region 2 with fail
        go_cut [40] (fun v wx => v = .bool false ∧ Hid (Below w2.heap.size w2 wx))
        case first =>
          cases ZZ with
          | true =>
            clear HZR HOK3
            go_wp2_with (first
              | (go_at_call 37; refine (HZ2.out _ (HW1.out.trans (HB2.out.mono HW1.out.size))).mono ?_; rintro e w3 ⟨rfl, hb3⟩))
            go_meet
            exact ⟨rfl, Lib.hid hb3⟩
          | false =>
            cases RR with
            | false => exact absurd HZR.out (by decide)
            | true =>
              clear HZR HOK3
              go_wp2_with (first
                | (go_at_call 37; refine (HZ2.out _ (HW1.out.trans (HB2.out.mono HW1.out.size))).mono ?_; rintro e w3 ⟨rfl, hb3⟩; have hb23 := HB2.out.trans (hb3.mono HB2.out.size); have r3 := below_cell hb23 HB.out 3 rfl; have r4 := below_cell hb23 HB.out 4 rfl; have r5 := below_cell hb23 HB.out 5 rfl; have r6 := below_cell hb23 HB.out 6 rfl; have r7 := below_cell hb23 HB.out 7 rfl; have r8 := below_cell hb23 HB.out 8 rfl)
                | (go_at_call 10; refine (HR2.out _ (HW1.out.trans (hb23.mono HW1.out.size))).mono ?_; rintro e w4 ⟨rfl, hb4⟩))
              go_meet
              exact ⟨rfl, Lib.hid (hb3.trans (hb4.mono hb3.size))⟩
        case rest =>
        obtain ⟨rfl, HBC⟩ := hcut
        have HB4 := Lib.hid (HB2.out.trans (HBC.out.mono HB2.out.size))
        obtain ⟨w4, hw4⟩ : ∃ w4, w4 = wc := ⟨_, rfl⟩
        subst hw4
        clear HBC HB2 HZ2 HR2 d2 d3 d4 d5 d6 d7 d8
        have d2 := below_cell HB4.out HB.out 2 rfl
        go_upto_region 6 with fail
        clear d2
        go_loopw [8, 45] (fun z8 z wr => ∃ (j : Nat) (A3 : Option Addr) (c3 : Nat), z = .int .i64 (j : Nat) ∧ z8 = .slice A3 j c3 ∧ j ≤ nn ∧ Hid (∀ i, i < j → (nrQ a (names.getD i ByteArray.empty)).isSome = true) ∧ Hid (wr.ownsRow W.heap.size 35 1 (.slice A3 j c3) j (((names.take j).map (fun s => (nrQ a s).getD 0)).map u32P)) ∧ Hid (Below W.heap.size W wr)) (fun _ z _ => nn - (intOf z).toNat)
        case atStart => exact ⟨0, none, 0, rfl, rfl, by omega, Lib.hid (fun i hi => absurd hi (Nat.not_lt_zero i)), Lib.hid (World.ownsRow_nil _ _ _ _), HB4⟩
        case round =>
          clear HB4
          obtain ⟨j, A3, c3, rfl, rfl, hj, HEV, HO, HWR⟩ := hrel
          by_cases hlt : j < nn
          · obtain ⟨_, _, _, hv, hsl, hs1, hs2, hs3, hs4⟩ := HST.out wr (HW1.out.trans (HWR.out.mono HW1.out.size))
            injection hv with q1 q2 q3
            subst q1 q2 q3
            obtain ⟨b, off, rfl, hbl, hat⟩ := hs4.resolve_left (by omega)
            have hcell := hat j hlt
            have hjI : (j : Int) < nn := by omega
            have hno := all_no a names j (by omega)
            have hstep := nums_step a names j (by omega)
            have hnr := HNR.out (names.getD j ByteArray.empty)
            have hle := nrQ_le a (names.getD j ByteArray.empty)
            have hnext : (nrQ a (names.getD j ByteArray.empty)).isSome = true → ∀ i, i < j + 1 → (nrQ a (names.getD i ByteArray.empty)).isSome = true := fun h i hi => by
              by_cases e : i < j
              · exact HEV.out i e
              · obtain rfl : i = j := by omega
                exact h
            change ∀ u, Calls Try.prog 38 #[.int .u32 (a : Int), .string (names.getD j ByteArray.empty)] u (fun e w' => e = .returned (.tuple #[.int .u32 (((nrQ a (names.getD j ByteArray.empty)).getD 0 : Nat) : Int), .bool (nrQ a (names.getD j ByteArray.empty)).isSome]) ∧ Below u.heap.size u w') at hnr
            generalize nrQ a (names.getD j ByteArray.empty) = Q at *
            generalize names.getD j ByteArray.empty = nm at *
            have HNO1 := Lib.hid hno; have HSTP := Lib.hid hstep; have HNRJ := Lib.hid hnr; have HNX := Lib.hid hnext; have HLT := Lib.hid hlt; have HLE := Lib.hid hle
            clear hno hstep hnr hnext hlt hle hat hs1 hs2 hs3 hsl hbl HEV
            cases Q with
            | none =>
              have HNO := Lib.hid (show OK = false from by rw [HOK3.out]; exact HNO1.out rfl)
              simp only [Option.getD_none, Option.isSome_none] at HNRJ
              clear HOK3 HNO1 HSTP HNX HLE
              go_upto_region 10 with (first | (go_at_call 38; refine (HNRJ.out _).mono ?_; rintro e w5 ⟨rfl, hb5⟩))
              have HB5 := Lib.hid (HWR.out.trans (hb5.mono HWR.out.size))
              clear hb5 HO HWR
              have z0 := below_cell HB5.out HR.out 0 rfl
              have z1 := below_cell HB5.out HR.out 1 rfl
              have z2 := below_cell HB5.out HR.out 2 rfl
              have z3 := below_cell HB5.out HR.out 3 rfl
              have z4 := below_cell HB5.out HR.out 4 rfl
              have z5 := below_cell HB5.out HR.out 5 rfl
              have z6 := below_cell HB5.out HR.out 6 rfl
              have z7 := below_cell HB5.out HR.out 7 rfl
              have hRz := (HB5.out.block _ (lt_of_block HR.out)).trans HR.out
              have f0 := block_frozen hRz 0
              have f1 := block_frozen hRz 1
              have f2 := block_frozen hRz 2
              have f3 := block_frozen hRz 3
              have f4 := block_frozen hRz 4
              have f5 := block_frozen hRz 5
              have f6 := block_frozen hRz 6
              have f7 := block_frozen hRz 7
              have HRZ := Lib.hid hRz; have HBZ := Lib.hid (HW1.out.trans (HB5.out.mono HW1.out.size))
              clear hRz
              go_wp2_with fail
              exact bodyPost_ret (results_row_tmp rfl _ _ (B + 1) 49 #[.slice none 0 0, .int .i64 0, .slice none 0 0, .int .i64 0, .int .u64 0, .string ⟨#[]⟩, .int .u64 0, .int .u32 0] (0, 0) _ rfl (eight_block HRZ.out _ _ _ _ _ _ _ _) Try.underlying49 rfl (by kernel_rfl)) rfl ⟨HP0.out _ _ HNO.out rfl, eight_below HBZ.out (by have := HBB.out; omega) _ _ _ _ _ _ _ _⟩
            | some x =>
              simp only [Option.getD_some, Option.isSome_some] at HNRJ HSTP HNX HLE
              have hxI : (x : Int) ≤ 4294967295 := by have := HLE.out; omega
              go_upto_region 11 with (first | (go_at_call 38; refine (HNRJ.out _).mono ?_; rintro e w5 ⟨rfl, hb5⟩))
              have HO5 := Lib.hid (own_stays HO.out hb5); have HB5 := Lib.hid (HWR.out.trans (hb5.mono HWR.out.size))
              clear hb5 HO HWR hcell
              have hj1000 : (j : Int) ≤ 1000 := by omega
              go_wp2_with (first
                | (at_builtin; go_must (refine wpList_push2 _ _ 47 35 (u32P x) HO5.out HB5.out (Nat.le_refl _) Try.underlying47 hi hz0 hz1 hz2 rfl rfl rfl rfl rfl rfl ?c1 ?_)))
              case c1 => omega
              intro v' w8 hown8 hbel8 hkeep8
              obtain ⟨A4, c4, rfl, _, _⟩ := own_form1 hown8
              have hown9 : w8.ownsRow W.heap.size 35 1 (.slice A4 (j + 1) c4) (j + 1) (((names.take (j + 1)).map (fun s => (nrQ a s).getD 0)).map u32P) := by rw [HSTP.out, List.map_append]; first | exact hown8 | simpa using hown8
              have HO8 := Lib.hid hown9; have HB8 := Lib.hid hbel8; have HE8 := Lib.hid (HNX.out (by first | trivial | rfl))
              clear hkeep8 hown8 hown9 hbel8 HO5 HB5
              go_wp2_with fail
              go_roundw
              case rel =>
                first
                | exact ⟨j + 1, A4, c4, by go_num, rfl, by have := HLT.out; omega, HE8, HO8, HB8⟩
                | (repeat apply Exists.intro; exact ⟨⟨j + 1, A4, c4, by go_num, rfl, by have := HLT.out; omega, HE8, HO8, HB8⟩, rfl⟩)
              case measure => have := HLT.out; simp [intOf]; omega
          · obtain rfl : j = nn := by omega
            have hOK : OK = true := by rw [HOK3.out]; exact all_yes a names j HNL.out HEV.out
            have htk : names.take j = names := by rw [← HNL.out, List.take_length]
            have ho := HO.out
            rw [htk, ← HNUM.out] at ho
            have hnumL : NUM.length = j := by rw [HNUM.out, List.length_map, HNL.out]
            have hgg : ∃ g, A3 = some ⟨g, 0, none⟩ := by
              rcases ho.2 with ⟨e, _⟩ | ⟨g, _, _, e, _⟩
              · injection e with _ e2 _; exact absurd e2 HN0.out
              · injection e with e1 _ _; exact ⟨g, e1⟩
            obtain ⟨g, rfl⟩ := hgg
            obtain ⟨hS, hbg, hncap, hcmax⟩ := own_srtP ho hnumL
            have hm3I : j ≤ 1000000 := by omega
            have HSO := Lib.hid (srSort g wr (intsN NUM) j c3 wr hS (by unfold intsN; rw [List.length_map, hnumL]) hm3I)
            have HCP := Lib.hid (fun u (hu : Srt wr g (sortN NUM).toArray u) => srCompact g wr (sortN NUM).toArray j c3 u hu (by rw [List.size_toArray, sortN_len, hnumL]) hm3I hncap hcmax)
            have hall : ∀ x ∈ NUM, x ≤ 4294967295 := fun x hx => by
              rw [HNUM.out] at hx
              obtain ⟨y, _, rfl⟩ := List.mem_map.1 hx
              exact nrQ_le a y
            have HU := Lib.hid (fun w' (hd : ∃ d' : Array Int, d'.size = j ∧ (∀ t, t < (cmpK (sortN NUM).toArray j).length → d'[t]! = (cmpK (sortN NUM).toArray j).getD t 0) ∧ Srt wr g d' w') => cmp_u32s hnumL hall hncap hcmax hd)
            have HBG := Lib.hid hbg; have HOKT := Lib.hid hOK
            clear hOK htk ho hnumL hS hbg hncap hcmax hall HO HEV hj hlt
            go_upto_region 14 with (first
              | (go_at_call 39; refine HSO.out.mono ?_; rintro e w8 ⟨rfl, hs8⟩; have HS8 := Lib.hid hs8; clear hs8))
            have HKS := Lib.hid (fun (u : World) (hu : Below W.heap.size W u) => (show u.cell? ⟨B, 3, none⟩ = some (.int .i64 kind) ∧ u.cell? ⟨B, 4, none⟩ = some (.slice ca cn cc) ∧ u.cell? ⟨B, 5, none⟩ = some (.int .i64 arg) ∧ u.cell? ⟨B, 6, none⟩ = some (.int .u64 (mask : Nat)) ∧ u.cell? ⟨B, 7, none⟩ = some (.string sign) ∧ u.cell? ⟨B, 8, none⟩ = some (.int .u64 (value : Nat)) from ⟨below_cell hu HB.out 3 rfl, below_cell hu HB.out 4 rfl, below_cell hu HB.out 5 rfl, below_cell hu HB.out 6 rfl, below_cell hu HB.out 7 rfl, below_cell hu HB.out 8 rfl⟩))
            have hb8 := HWR.out.trans (HS8.out.below HBG.out)
            have HCO2 := Lib.hid (fun u (hu : Below w.heap.size w u) => (show Calls Try.prog 41 #[.agg #[.int .i64 kind, .slice ca cn cc, .int .i64 arg, .int .u64 (mask : Nat), .string sign, .int .u64 (value : Nat)]] u (fun e w' => (∃ k', e = .returned (.agg #[.int .i64 kind, k', .int .i64 arg, .int .u64 (mask : Nat), .string sign, .int .u64 (value : Nat)]) ∧ IsIn w' u.heap.size k' kids) ∧ Below u.heap.size u w') from HCO.out HSZ3.out u hu))
            refine wp_region_held_drew (S := fun u => u.cell? ⟨B, 3, none⟩ = some (.int .i64 kind) ∧ u.cell? ⟨B, 4, none⟩ = some (.slice ca cn cc) ∧ u.cell? ⟨B, 5, none⟩ = some (.int .i64 arg) ∧ u.cell? ⟨B, 6, none⟩ = some (.int .u64 (mask : Nat)) ∧ u.cell? ⟨B, 7, none⟩ = some (.string sign) ∧ u.cell? ⟨B, 8, none⟩ = some (.int .u64 (value : Nat))) (by kernel_rfl) (HKS.out _ hb8.drew) (fun hS => ?_)
            have HSD := Lib.hid (show Srt wr g (sortN NUM).toArray w8.drew from ⟨HS8.out.os, HS8.out.tape, HS8.out.output, HS8.out.size, HS8.out.lt, HS8.out.keep, HS8.out.row⟩)
            obtain ⟨Wd, hWd⟩ : ∃ Wd, w8.drew = Wd := ⟨_, rfl⟩
            rw [hWd] at hS HSD ⊢
            clear hWd hb8 HS8 HCO HSO
            refine wpAnyH_take (i := 0) (v := (.slice (some ⟨g, 0, none⟩) j c3)) rfl (by kernel_rfl) (by kernel_rfl) (by kernel_rfl) (fun _ _ _ h => h) (Or.inl ⟨by rfl, fun w hSw => ?_⟩) (by assumption) ?_
            · clear hSw; go_simp
            try simp only [Act.put, List.setIfInBounds_toArray, List.set_cons_zero, List.set_cons_succ]
            refine wpAnyH_take (i := 2) (v := (.pointer (some ⟨B, 3, none⟩))) rfl (by kernel_rfl) (by kernel_rfl) (by kernel_rfl) (fun _ _ _ h => h) (Or.inl ⟨by rfl, fun w hSw => ?_⟩) (by assumption) ?_
            · clear hSw; go_simp
            try simp only [Act.put, List.setIfInBounds_toArray, List.set_cons_zero, List.set_cons_succ]
            refine wpAnyH_take (i := 3) (v := (.agg #[.int .i64 kind, .slice ca cn cc, .int .i64 arg, .int .u64 (mask : Nat), .string sign, .int .u64 (value : Nat)])) rfl (by kernel_rfl) (by kernel_rfl) (by kernel_rfl) (fun _ _ _ h => h) (Or.inl ⟨by rfl, fun w hSw => ?_⟩) (by assumption) ?_
            · obtain ⟨t0, t1, t2, t3, t4, t5⟩ := hSw
              go_simp
            try simp only [Act.put, List.setIfInBounds_toArray, List.set_cons_zero, List.set_cons_succ]
            refine wpAnyH_take (i := 5) (v := (.int .u32 (actN : Nat))) rfl (by kernel_rfl) (by kernel_rfl) (by kernel_rfl) (fun _ _ _ h => h) (Or.inl ⟨by rfl, fun w hSw => ?_⟩) (by assumption) ?_
            · clear hSw; go_simp
            try simp only [Act.put, List.setIfInBounds_toArray, List.set_cons_zero, List.set_cons_succ]
            refine wpAnyH_ready (rs := [1]) (by kernel_rfl) (by simp) ?_
            refine AllReadyH.cons rfl (fun K hK => ?_) AllReadyH.nil
            go_simp
            refine (HCP.out _ HSD.out).mono ?_
            rintro e w9 ⟨rfl, d', hd1, hd2, hs9⟩
            have hu9 := HU.out w9 ⟨d', hd1, hd2, hs9⟩
            have hb9 := HWR.out.trans (hs9.below HBG.out)
            generalize (cmpK (sortN NUM).toArray j).length = CL at *
            refine hK.out _ _ (HKS.out _ hb9) (fun hS => ?_)
            clear hK K
            try simp only [Act.put, List.setIfInBounds_toArray, List.set_cons_zero, List.set_cons_succ]
            refine wpAnyH_ready (rs := [4]) (by kernel_rfl) (by simp) ?_
            refine AllReadyH.cons rfl (fun K hK => ?_) AllReadyH.nil
            go_simp
            refine (HCO2.out _ (HW1.out.trans (hb9.mono HW1.out.size))).mono ?_
            rintro e w10 ⟨⟨k8, rfl, hk8⟩, hb10⟩
            obtain ⟨ka8, kn8, kc8, rfl, _⟩ := id hk8
            have hb910 := hb9.trans (hb10.mono hb9.size)
            have hu10 := hu9.below hb10
            refine hK.out _ _ (HKS.out _ hb910) (fun hS => ?_)
            clear hK K
            try simp only [Act.put, List.setIfInBounds_toArray, List.set_cons_zero, List.set_cons_succ]
            refine wpAnyH_ready (rs := [6]) (by kernel_rfl) (by simp) ?_
            refine AllReadyH.cons rfl (fun K hK => ?_) AllReadyH.nil
            go_simp
            refine hK.out _ _ (hS) (fun hS => ?_)
            clear hK K
            try simp only [Act.put, List.setIfInBounds_toArray, List.set_cons_zero, List.set_cons_succ]
            have hRz := (hb910.block _ (lt_of_block HR.out)).trans HR.out
            have z0 := below_cell (Below.refl _ w10) hRz 0 rfl
            have z1 := below_cell (Below.refl _ w10) hRz 1 rfl
            have z2 := below_cell (Below.refl _ w10) hRz 2 rfl
            have z3 := below_cell (Below.refl _ w10) hRz 3 rfl
            have z4 := below_cell (Below.refl _ w10) hRz 4 rfl
            have z5 := below_cell (Below.refl _ w10) hRz 5 rfl
            have z6 := below_cell (Below.refl _ w10) hRz 6 rfl
            have z7 := below_cell (Below.refl _ w10) hRz 7 rfl
            have f0 := block_frozen hRz 0
            have f1 := block_frozen hRz 1
            have f2 := block_frozen hRz 2
            have f3 := block_frozen hRz 3
            have f4 := block_frozen hRz 4
            have f5 := block_frozen hRz 5
            have f6 := block_frozen hRz 6
            have f7 := block_frozen hRz 7
            have hgW : W.heap.size ≤ g := HBG.out
            have hBW : B + 1 < W.heap.size := lt_of_block HR.out
            have HX : Hid (∀ v0 v1 v2 v3 v4 v5 v6 v7, ∀ V, V ≠ B + 1 → ((((((((w10.setCell ⟨B + 1, 0, none⟩ v0).setCell ⟨B + 1, 1, none⟩ v1).setCell ⟨B + 1, 2, none⟩ v2).setCell ⟨B + 1, 3, none⟩ v3).setCell ⟨B + 1, 4, none⟩ v4).setCell ⟨B + 1, 5, none⟩ v5).setCell ⟨B + 1, 6, none⟩ v6).setCell ⟨B + 1, 7, none⟩ v7).heap[V]? = w10.heap[V]?) := Lib.hid (fun v0 v1 v2 v3 v4 v5 v6 v7 V hV => eight_other hV v0 v1 v2 v3 v4 v5 v6 v7)
            have HSC := Lib.hid (fun (o : Nat) => cell_of_heap (o := o) (HX.out (.slice (some ⟨g, 0, none⟩) CL c3) (.int .i64 kind) (.slice ka8 kn8 kc8) (.int .i64 arg) (.int .u64 (mask : Nat)) (.string sign) (.int .u64 (value : Nat)) (.int .u32 (actN : Nat)) B (by omega)))
            have HU11 := Lib.hid (u32_move hu10 (HX.out (.slice (some ⟨g, 0, none⟩) CL c3) (.int .i64 kind) (.slice ka8 kn8 kc8) (.int .i64 arg) (.int .u64 (mask : Nat)) (.string sign) (.int .u64 (value : Nat)) (.int .u32 (actN : Nat)) g (by omega)) (by simp [World.setCell]))
            have hw9 : W.heap.size ≤ w9.heap.size := hb9.size
            have HI11 := Lib.hid (show IsIn ((((((((w10.setCell ⟨B + 1, 0, none⟩ (.slice (some ⟨g, 0, none⟩) CL c3)).setCell ⟨B + 1, 1, none⟩ (.int .i64 kind)).setCell ⟨B + 1, 2, none⟩ (.slice ka8 kn8 kc8)).setCell ⟨B + 1, 3, none⟩ (.int .i64 arg)).setCell ⟨B + 1, 4, none⟩ (.int .u64 (mask : Nat))).setCell ⟨B + 1, 5, none⟩ (.string sign)).setCell ⟨B + 1, 6, none⟩ (.int .u64 (value : Nat))).setCell ⟨B + 1, 7, none⟩ (.int .u32 (actN : Nat))) w.heap.size (.slice ka8 kn8 kc8) kids from (hk8.same (w' := ((((((((w10.setCell ⟨B + 1, 0, none⟩ (.slice (some ⟨g, 0, none⟩) CL c3)).setCell ⟨B + 1, 1, none⟩ (.int .i64 kind)).setCell ⟨B + 1, 2, none⟩ (.slice ka8 kn8 kc8)).setCell ⟨B + 1, 3, none⟩ (.int .i64 arg)).setCell ⟨B + 1, 4, none⟩ (.int .u64 (mask : Nat))).setCell ⟨B + 1, 5, none⟩ (.string sign)).setCell ⟨B + 1, 6, none⟩ (.int .u64 (value : Nat))).setCell ⟨B + 1, 7, none⟩ (.int .u32 (actN : Nat)))) ⟨by simp [World.setCell], fun V h1 h2 => HX.out _ _ _ _ _ _ _ _ V (by omega)⟩ (Nat.le_trans HW1.out.size hw9)))
            have HB11 := Lib.hid (eight_below (HW1.out.trans (hb910.mono HW1.out.size)) (show w.heap.size ≤ B + 1 by have := HBB.out; omega) (.slice (some ⟨g, 0, none⟩) CL c3) (.int .i64 kind) (.slice ka8 kn8 kc8) (.int .i64 arg) (.int .u64 (mask : Nat)) (.string sign) (.int .u64 (value : Nat)) (.int .u32 (actN : Nat)))
            have HRZ := Lib.hid hRz
            clear HX hgW hBW hw9 hRz hu10 hu9 hb9 hb10 hb910 hk8 hs9 hd1 hd2
            refine wpAnyH_ready (rs := [7]) (by kernel_rfl) (by simp) ?_
            refine AllReadyH.cons rfl (fun K hK => ?_) AllReadyH.nil
            go_simp
            refine hK.out _ _ (⟨(HSC.out 3).trans hS.1, (HSC.out 4).trans hS.2.1, (HSC.out 5).trans hS.2.2.1, (HSC.out 6).trans hS.2.2.2.1, (HSC.out 7).trans hS.2.2.2.2.1, (HSC.out 8).trans hS.2.2.2.2.2⟩) (fun hS => ?_)
            clear hK K
            try simp only [Act.put, List.setIfInBounds_toArray, List.set_cons_zero, List.set_cons_succ]
            clear z0 z1 z2 z3 z4 z5 z6 z7 f0 f1 f2 f3 f4 f5 f6 f7 HSC
            refine wpAnyH_ready (rs := [8]) (by kernel_rfl) (by simp) ?_
            refine AllReadyH.cons rfl (fun K hK => ?_) AllReadyH.nil
            go_simp
            refine hK.out _ _ (hS) (fun hS => ?_)
            clear hK K
            try simp only [Act.put, List.setIfInBounds_toArray, List.set_cons_zero, List.set_cons_succ]
            refine wpAnyH_done (by kernel_rfl) ?_ _
            clear hS
            go_wp2_with fail
            exact bodyPost_ret (results_row_tmp rfl _ _ (B + 1) 49 #[.slice (some ⟨g, 0, none⟩) CL c3, .int .i64 kind, .slice ka8 kn8 kc8, .int .i64 arg, .int .u64 (mask : Nat), .string sign, .int .u64 (value : Nat), .int .u32 (actN : Nat)] (0, 0) _ rfl (eight_block HRZ.out _ _ _ _ _ _ _ _) Try.underlying49 rfl (by kernel_rfl)) rfl ⟨HP1.out _ _ _ _ HOKT.out ⟨g, CL, c3, rfl, Nat.le_trans HW1.out.size HBG.out⟩ HU11.out HI11.out rfl, HB11.out⟩
end Go.Proofs.Ytbcoooaoofbboaa
