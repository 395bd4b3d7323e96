/- What the laws of layer 4 share. -/
import Derived.Test.YtmhondkomcmmoaaDoorRef04RH
import Derived.Deep.Strs
namespace Go.Proofs.YtmhondkomcmmoaaDoor
open Go.ChangeShapes Go.WideShapes Go.ChangeAt Go.RowKit Go.Joins Go.Deep
set_option linter.unusedVariables false

theorem openIntsS {H : Type} {enc : TypeId × Value → H} {W : World} {v : Value} {d : DataW H} {p : List MemPlace}
    (hv : ∃ a len cap, v = .slice a len cap) (h : DataW.Trod enc Tryd.prog W 0 (fun _ => true) true 22 v d p) : ∃ l, Reads1 encI W v l := by
  obtain ⟨a, len, cap, rfl, hl, hm, hat⟩ := openElemsS (e := 3) 1 undef Tryd.underlying22 (by kernel_rfl) (by omega) hv h
  rcases hat with rfl | ⟨b, off, rfl, hb, hat⟩
  · exact ⟨[], _, 0, _, rfl, rfl, by omega, hm, .inl rfl⟩
  · obtain ⟨l, hll, hP⟩ := list_of (P := fun i (k : Int) => W.cell? ⟨b, off + i, none⟩ = some (encI k)) 0 len fun i hlt => by
      obtain ⟨cs, n, y, hcl, hc, htr⟩ := hat i hlt
      match cs, hcl with
      | [c0], _ =>
        obtain ⟨a0, e0, _, w0⟩ := DataW.trod_int Tryd.underlying3 htr
        simp at e0
        subst e0
        have := hc 0 (by omega)
        exact ⟨a0, by simpa [encI] using this⟩
    refine ⟨l, _, len, _, rfl, hll, hl, hm, .inr ⟨b, off, rfl, hb, fun i hi => ?_⟩⟩
    have := hP i (by omega)
    rwa [show l.getD i 0 = l[i] from by simp [List.getD, hi]] at this
set_option maxRecDepth 100000 in
theorem openHead {H : Type} {enc : TypeId × Value → H} {W : World} {base : Nat} {v : Value} {d : DataW H} {p : List MemPlace}
    (hok : Value.okWide Tryd.prog W .any base 24 v) (h : DataW.Trod enc Tryd.prog W 0 (fun _ => true) true 24 v d p) : ∃ x, IsHd W v x := by
  obtain ⟨cs, rfl, hsz⟩ := okWide_struct Tryd.underlying24 hok
  have hC : Tryd.prog.cellsOf 24 = 3 := by kernel_rfl
  have h1 : Tryd.prog.cellsOf 3 = 1 := by kernel_rfl
  have h2 : Tryd.prog.cellsOf 22 = 1 := by kernel_rfl
  obtain ⟨c0, c1, c2, hl⟩ : ∃ c0 c1 c2, cs.toList = [c0, c1, c2] := by
    have : cs.toList.length = 3 := by rw [Array.length_toList, hsz, hC]
    match cs.toList, this with
    | [a, b, c], _ => exact ⟨a, b, c, rfl⟩
  obtain rfl : cs = #[c0, c1, c2] := Array.toList_inj.1 hl
  clear hl hsz hok
  obtain ⟨fuel, hf⟩ := h
  obtain ⟨y0, y1, y2, n, _, _, k0, k1, k2⟩ := trod_struct3 Tryd.underlying24 hf
  simp [Value.cells, h1, h2] at k0 k1 k2
  obtain ⟨a0, e0, _, w0⟩ := DataW.trod_int Tryd.underlying3 k0
  obtain ⟨a1, e1, _, w1⟩ := DataW.trod_int Tryd.underlying3 k1
  simp at e0 e1
  subst e0 e1
  obtain ⟨hv2, d2, p2, t2⟩ := slice_of_trod Tryd.underlying22 k2
  obtain ⟨l, i2⟩ := openIntsS hv2 t2
  exact ⟨⟨a0, a1, l⟩, _, rfl, i2⟩
def supS (n : Int) : ByteArray := if 1 ≤ n ∧ n ≤ 1099511627776 then layS (superL n) else ⟨#[]⟩
def supE (n : Int) : Int := if 1 ≤ n ∧ n ≤ 1099511627776 then 0 else 1
theorem slotSuper_any (n : Int) (w : World) : Calls Tryd.prog 8 #[.agg #[.int .i64 n]] w fun e w' => e = .returned (.tuple #[.string (supS n), .int .i64 (supE n)]) ∧ Below w.heap.size w w' := by
  unfold supS supE
  by_cases h : 1 ≤ n ∧ n ≤ 1099511627776
  · rw [if_pos h, if_pos h]; exact slotSuper_ok n w h.1 h.2
  · rw [if_neg h, if_neg h]; exact slotSuper_bad n w h
def comOk (n s : Int) : Prop := (1 ≤ n ∧ n ≤ 1099511627776) ∧ (0 ≤ s ∧ s < 6)
instance (n s : Int) : Decidable (comOk n s) := by unfold comOk; exact inferInstance
def comS (n s : Int) : ByteArray := if comOk n s then layS (commitL n s) else ⟨#[]⟩
def comE (n s : Int) : Int := if comOk n s then 0 else 1
theorem slotCommit_any (n s : Int) (w : World) : Calls Tryd.prog 9 #[.int .i64 n, .int .i64 s] w fun e w' => e = .returned (.tuple #[.string (comS n s), .int .i64 (comE n s)]) ∧ Below w.heap.size w w' := by
  unfold comS comE
  by_cases h : comOk n s
  · rw [if_pos h, if_pos h]; exact slotCommit_ok n s w h.1 h.2
  · rw [if_neg h, if_neg h]; exact slotCommit_bad n s w h
def Hd.wS (h : Hd) : ByteArray := if h.ok = true then h.bytes else ⟨#[]⟩
def Hd.wE (h : Hd) : Int := if h.ok = true then 0 else 1
theorem slotHead_any (v : Value) (h : Hd) (w : World) (hh : IsHd w v h) : Calls Tryd.prog 10 #[v] w fun e w' => e = .returned (.tuple #[.string h.wS, .int .i64 h.wE]) ∧ Below w.heap.size w w' := by
  obtain ⟨tv, rfl, hr⟩ := hh
  unfold Hd.wS Hd.wE
  by_cases hk : h.ok = true
  · rw [if_pos hk, if_pos hk]; exact slotHead_ok _ _ tv _ w hr hk
  · rw [if_neg hk, if_neg hk]; exact slotHead_bad _ _ tv _ w hr (by cases e : h.ok with | true => exact absurd e hk | false => exact e)
theorem ref4ReadHead_any (s : ByteArray) (w : World) (hs : s.size ≤ 2000) :
    Calls Tryd.prog 21 #[.string s] w fun e w' => ∃ v', e = .returned (.tuple #[v', .int .i64 (headE s)]) ∧ IsHd w' v' (headV s) ∧ Below w.heap.size w w' := by
  have h := ref4ReadHead_x s w hs
  rw [(refV_eq s).1, (refV_eq s).2] at h
  exact h
theorem commit_back (n s : Int) (h : comOk n s) : commitV (layS (commitL n s)) = n ∧ commitW (layS (commitL n s)) = s ∧ commitE (layS (commitL n s)) = 0 := by
  obtain ⟨h1, h2, _⟩ := commit_part n s h.1 h.2
  have e1 : ((n.toNat : Nat) : Int) = n := by have := h.1.1; omega
  have e2 : ((s.toNat : Nat) : Int) = s := by have := h.2.1; omega
  have his : commitIs (layS (commitL n s)) := by
    unfold commitIs
    rw [h1, h2, e1, e2]
    exact ⟨h, rfl⟩
  unfold commitV commitW commitE
  rw [if_pos his, if_pos his, if_pos his, h1, h2]
  exact ⟨e1, e2, rfl⟩
theorem commit_size (n s : Int) : (layS (commitL n s)).size ≤ 12 := by
  refine Nat.le_trans (lay_size _) ?_
  rw [commitL_eq, List.length_append, List.length_append, putL_length, putL_length]
  simp
set_option maxRecDepth 100000 in
theorem slotAlive (w : World) : Calls Tryd.prog 16 #[] w fun e w' => e = .returned (.bool true) ∧ Below w.heap.size w w' := by
  have hok : comOk 3 1 := by decide
  have H1 := Lib.hid (fun u => slotCommit_ok 3 1 u hok.1 hok.2)
  obtain ⟨b1, b2, b3⟩ := commit_back 3 1 hok
  have H2 := Lib.hid (fun u => slotReadCommit_any (layS (commitL 3 1)) u (by have := commit_size 3 1; omega))
  rw [b1, b2, b3] at H2
  generalize layS (commitL 3 1) = S at *
  clear b1 b2 b3
  go_enter Tryd.func16, Tryd.ntmps16
  go_wp2_with fail
  refine (H1.out _).mono ?_
  rintro e w1 ⟨rfl, hb1⟩
  go_wp2_with fail
  refine (H2.out _).mono ?_
  rintro e w2 ⟨rfl, hb2⟩
  go_wp2_with fail
  go_ret
  exact ⟨rfl, hb1.trans (hb2.mono hb1.size)⟩
set_option maxRecDepth 100000 in
theorem slotFew_any (E S : Int) (a : Option Addr) (len cap : Nat) (w : World) (h1 : len ≤ cap) (h2 : cap ≤ 9223372036854775807) :
    Calls Tryd.prog 7 #[.agg #[.int .i64 E, .int .i64 S, .slice a len cap]] w fun e w' => e = .returned (.agg #[.int .i64 E, .int .i64 S, .slice a (min len 60) cap]) ∧ Below w.heap.size w w' := by
  obtain ⟨m, hm, hm1, hm2, hm3⟩ := min_if len 60 (by omega)
  have hmm : min (len : Int) 60 = m := by omega
  rw [show min len 60 = m from hm3.symm]
  have hmI : (m : Int) ≤ len := by omega
  have hlc : (len : Int) ≤ cap := by omega
  have hcI : (cap : Int) ≤ 9223372036854775807 := by omega
  clear hm3
  have hset := heap_alloc_new (w.alloc (.cells #[.int .i64 E, .int .i64 S, .slice a m cap] 24)) (.cells #[.int .i64 E, .int .i64 S, .slice a m cap] 24)
  rw [World.size_alloc] at hset
  have HSET := Lib.hid hset
  clear hset
  go_enter Tryd.func7, Tryd.ntmps7
  go_wp2_with fail
  refine bodyPost_ret (v := .agg #[.int .i64 E, .int .i64 S, .slice a m cap]) (results_cell_row rfl _ _ (w.heap.size + 1) 24 #[.int .i64 E, .int .i64 S, .slice a m cap] (0, 0) _ rfl HSET.out Tryd.underlying24 rfl (by kernel_rfl)) rfl ⟨rfl, ?_⟩
  exact ((Below.refl _ w).alloc (Nat.le_refl _) _).alloc (by simp) _
end Go.Proofs.YtmhondkomcmmoaaDoor
