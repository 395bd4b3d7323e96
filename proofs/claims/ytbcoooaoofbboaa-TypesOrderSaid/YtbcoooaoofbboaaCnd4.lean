/- The call that tells the next condition. -/
import Derived.Test.YtbcoooaoofbboaaCnd3
namespace Go.Proofs.Ytbcoooaoofbboaa
open Go.RowKit Go.ChangeShapes Go.Deep
set_option linter.unusedVariables false

def cndV (c : Cnd) (k : Value) : Value := .agg #[.int .i64 c.kind, k, .int .i64 c.arg, .int .u64 (c.mask : Nat), .string c.sign, .int .u64 (c.value : Nat)]
/-- kids that are gone into -/
def pushed (l : List Cnd) : List Cnd := if l.length < 100 then l else []
theorem pushed_few {l : List Cnd} (h : l.length < 100) : pushed l = l := if_pos h
theorem pushed_many {l : List Cnd} (h : ¬ l.length < 100) : pushed l = [] := if_neg h
/-- behind the call: what is told, and what is left -/
def NextPost (W0 : World) (V : Nat) (st : List Cnd) (e : Ending) (u' : World) : Prop :=
  if st.length = 0 then e = .returned (.tuple #[.agg zeroCnd, .bool false]) ∧ Left W0 u' V st
  else ∃ k, IsCnds W0 k (st.getD (st.length - 1) cndZ).kids ∧ e = .returned (.tuple #[cndV (st.getD (st.length - 1) cndZ) k, .bool true]) ∧ (st.getD (st.length - 1) cndZ).bounded ∧
    Left W0 u' V (st.take (st.length - 1) ++ pushed (st.getD (st.length - 1) cndZ).kids)
theorem kids_source {W0 u : World} {k : Value} {l : List Cnd} (h : IsCnds W0 k l) (hb : Below W0.heap.size W0 u) : ∃ A n c js, k = .slice A n c ∧ n = l.length ∧ n ≤ c ∧ c ≤ 9223372036854775807 ∧ KsOk W0 l js ∧
    ((A = none ∧ n = 0 ∧ c = 0 ∧ cndCells l js = []) ∨ ∃ ad, A = some ad ∧ ∀ w', Below W0.heap.size W0 w' → ∀ j x, (cndCells l js)[j]? = some x → w'.cell? (ad.add j) = some x) := by
  obtain ⟨a, len, cap, rfl, h1, h2, h3, h4, h5⟩ := h
  rcases h5 with h5 | ⟨b, o, rfl, hlt, hk⟩
  · subst h5
    obtain rfl := List.eq_nil_of_length_eq_zero h1
    cases a with
    | none =>
      have := h4 rfl
      subst this
      exact ⟨none, 0, 0, [], rfl, rfl, by omega, by omega, trivial, .inl ⟨rfl, rfl, rfl, rfl⟩⟩
    | some ad =>
      exact ⟨some ad, 0, cap, [], rfl, rfl, by omega, h3, trivial, .inr ⟨ad, rfl, fun w' _ j x hx => by simp [cndCells] at hx⟩⟩
  · obtain ⟨js, k1, k2⟩ := kids_cells l b o hk
    refine ⟨_, len, cap, js, rfl, h1.symm, h2, h3, k1, .inr ⟨_, rfl, fun w' hw j x hx => ?_⟩⟩
    rw [addr_add]
    exact (hw.cell (p := ⟨b, o + j, none⟩) hlt).trans (k2 j x hx)
set_option maxRecDepth 100000 in
set_option maxHeartbeats 4000000 in
theorem tyNext_any (W0 u : World) (V : Nat) (st : List Cnd) (h : Left W0 u V st) (hN : st.length ≤ 1000000) :
    Calls Try.prog 44 #[.pointer (some ⟨V, 0, none⟩)] u fun e u' => NextPost W0 V st e u' := by
  obtain ⟨iI, hNI, hzI0, hzI1, hzI2⟩ := info_parts infoCnd
  obtain ⟨v, ks, hV, hVb, hks, hown, hbel⟩ := h
  obtain ⟨A, c, rfl, hc1, hc2, hA⟩ := own_form6 hown
  have hVlt := lt_of_block hV
  by_cases h0 : st.length = 0
  · have hL : Left W0 u V st := ⟨_, ks, hV, hVb, hks, hown, hbel⟩
    have HL := Lib.hid hL
    have q := below_cell ((Below.refl u.heap.size u).alloc (Nat.le_refl _) (.cells zeroCnd 25)) hV 0 rfl
    have hR := heap_alloc_new u (.cells zeroCnd 25)
    have hbz := (Below.refl u.heap.size u).alloc (Nat.le_refl _) (.cells zeroCnd 25)
    have HP := Lib.hid (fun (e : Ending) (u' : World) (h1 : e = .returned (.tuple #[.agg zeroCnd, .bool false])) (h2 : Left W0 u' V st) => (show NextPost W0 V st e u' by unfold NextPost; rw [if_pos h0]; exact ⟨h1, h2⟩))
    rw [h0] at q
    unfold zeroCnd at q hR hbz
    go_enter Try.func44, Try.ntmps44
    go_upto_region 1 with fail
    generalize u.alloc (.cells #[.int .i64 0, .slice none 0 0, .int .i64 0, .int .u64 0, .string ⟨#[]⟩, .int .u64 0] 25) = ua at *
    have HR := Lib.hid hR; have HBZ := Lib.hid hbz
    have z0 := below_cell (Below.refl _ _) hR 0 rfl
    have z1 := below_cell (Below.refl _ _) hR 1 rfl
    have z2 := below_cell (Below.refl _ _) hR 2 rfl
    have z3 := below_cell (Below.refl _ _) hR 3 rfl
    have z4 := below_cell (Below.refl _ _) hR 4 rfl
    have z5 := below_cell (Below.refl _ _) hR 5 rfl
    have f0 := block_frozen hR 0
    have f1 := block_frozen hR 1
    have f2 := block_frozen hR 2
    have f3 := block_frozen hR 3
    have f4 := block_frozen hR 4
    have f5 := block_frozen hR 5
    clear hR hbz hV hks hown hbel hL h0
    go_wp2_with fail
    refine bodyPost_ret (results_row_tmp rfl _ _ u.heap.size 25 #[.int .i64 0, .slice none 0 0, .int .i64 0, .int .u64 0, .string ⟨#[]⟩, .int .u64 0] (0, 0) _ rfl (set6_block HR.out _ _ _ _ _ _) Try.underlying25 rfl (by kernel_rfl)) rfl (HP.out _ _ rfl ?_)
    obtain ⟨v', ks', h1, h2, h3, h4, h5⟩ := HL.out.below HBZ.out
    have hne : V ≠ u.heap.size := by omega
    have hlt4 := h4.lt
    refine ⟨v', ks', (set6_other hne _ _ _ _ _ _).trans h1, h2, h3, set6_own h4 ?_ _ _ _ _ _ _, set6_below h5 (by omega) _ _ _ _ _ _⟩
    intro he
    have : (∀ k, v'.ownBlock = some k → k < u.heap.size) := by
      obtain ⟨v2, ks2, g1, _, _, g4, _⟩ := HL.out
      have e1 := (HBZ.out.block _ hVlt).trans g1
      rw [h1] at e1
      injection e1 with e1
      injection e1 with e1
      injection (congrArg Array.toList e1) with e1
      subst e1
      exact fun k hk => (g4.lt k hk).2
    exact absurd (this _ he) (Nat.lt_irrefl _)
  · obtain ⟨m, hm⟩ : ∃ m, st.length = m + 1 := ⟨st.length - 1, by omega⟩
    have hsp := split_last st h0
    have HP := Lib.hid (fun (e : Ending) (u' : World) (k : Value) (h1 : IsCnds W0 k (st.getD (st.length - 1) cndZ).kids) (h2 : e = .returned (.tuple #[cndV (st.getD (st.length - 1) cndZ) k, .bool true])) (h3 : (st.getD (st.length - 1) cndZ).bounded) (h4 : Left W0 u' V (st.take (st.length - 1) ++ pushed (st.getD (st.length - 1) cndZ).kids)) => (show NextPost W0 V st e u' by unfold NextPost; rw [if_neg h0]; exact ⟨k, h1, h2, h3, h4⟩))
    have hml : (st.take (st.length - 1)).length = m := by rw [List.length_take]; omega
    generalize st.take (st.length - 1) = st' at *
    generalize st.getD (st.length - 1) cndZ = cc at *
    subst hsp
    obtain ⟨ks', k, rfl, hk1, hk2, hk3, hk4⟩ := hks.last
    rw [hk4, hm] at hown
    rw [hm] at hV hc1 hA
    obtain ⟨g, rfl⟩ := hA (by omega)
    obtain ⟨kA, kn, kc, js, rfl, hkn, hkc, hkc2, hjs, hsrc⟩ := kids_source hk3 hbel
    have hpl := hk1.len.2
    rw [hml] at hpl
    have hpop := ownsRow_pop hpl hown
    have hat : ∀ j x, (cc.cells (.slice kA kn kc))[j]? = some x → u.cell? ⟨g, m * 6 + j, none⟩ = some x := fun j x hx => by
      have hj : j < 6 := (List.getElem?_eq_some_iff.1 hx).1
      rw [hown.cellAt (m * 6 + j) (by omega), List.getElem?_append_right (by omega), hpl, Nat.add_sub_cancel_left]
      exact hx
    have hglt := (hown.lt g rfl).2
    have hVne : V ≠ g := fun e => own_kind hown hV (by decide) (by simp [Value.ownBlock, e])
    obtain ⟨kind, kids, arg, mask, sign, value⟩ := cc
    have hmI : (m : Int) ≤ 1000000 := by simp at hN; omega
    have hcI : (m : Int) ≤ c := by omega
    have hc2I : (c : Int) ≤ 9223372036854775807 := by omega
    have c0 := hat 0 _ rfl
    have c1 := hat 1 _ rfl
    have c2 := hat 2 _ rfl
    have c3 := hat 3 _ rfl
    have c4 := hat 4 _ rfl
    have c5 := hat 5 _ rfl
    dsimp only [Cnd.kind, Cnd.arg, Cnd.mask, Cnd.sign, Cnd.value, Cnd.kids] at c0 c1 c2 c3 c4 c5 HP hk2 hk3 hkn hjs hsrc
    generalize NextPost W0 V _ = PP at *
    have hkcI : (kn : Int) ≤ kc := by omega
    have hkc2I : (kc : Int) ≤ 9223372036854775807 := by omega
    have hc0 : 0 < c := by omega
    clear hkc hkc2 hc2 hc1
    rw [Nat.add_zero] at c0
    have hbz := ((Below.refl u.heap.size u).alloc (Nat.le_refl _) (.cells #[.int .i64 0, .slice none 0 0, .int .i64 0, .int .u64 0, .string ⟨#[]⟩, .int .u64 0] 25)).alloc (by simp) (.cells #[.int .i64 kind, .slice kA kn kc, .int .i64 arg, .int .u64 (mask : Nat), .string sign, .int .u64 (value : Nat)] 25)
    have hR := (heap_alloc_old (u.alloc (.cells #[.int .i64 0, .slice none 0 0, .int .i64 0, .int .u64 0, .string ⟨#[]⟩, .int .u64 0] 25)) (.cells #[.int .i64 kind, .slice kA kn kc, .int .i64 arg, .int .u64 (mask : Nat), .string sign, .int .u64 (value : Nat)] 25) (r := u.heap.size) (by simp)).trans (heap_alloc_new u (.cells #[.int .i64 0, .slice none 0 0, .int .i64 0, .int .u64 0, .string ⟨#[]⟩, .int .u64 0] 25))
    have hL := heap_alloc_new (u.alloc (.cells #[.int .i64 0, .slice none 0 0, .int .i64 0, .int .u64 0, .string ⟨#[]⟩, .int .u64 0] 25)) (.cells #[.int .i64 kind, .slice kA kn kc, .int .i64 arg, .int .u64 (mask : Nat), .string sign, .int .u64 (value : Nat)] 25)
    rw [World.size_alloc] at hL
    have hV1 := (hbz.block _ hVlt).trans hV
    have hO1 := own_stays hpop hbz
    have hq1 := fun (o : Obj) => below_cell ((Below.refl u.heap.size u).alloc (Nat.le_refl _) o) hV 0 rfl
    have hq2 := below_cell hbz hV 0 rfl
    have hd := fun (o : Obj) (j : Nat) (x : Value) (hx : u.cell? ⟨g, j, none⟩ = some x) => (((Below.refl u.heap.size u).alloc (Nat.le_refl _) o).cell (p := ⟨g, j, none⟩) hglt).trans hx
    have d0 := fun o => hd o _ _ c0
    have d1 := fun o => hd o _ _ c1
    have d2 := fun o => hd o _ _ c2
    have d3 := fun o => hd o _ _ c3
    have d4 := fun o => hd o _ _ c4
    have d5 := fun o => hd o _ _ c5
    have HSRC := Lib.hid hsrc; have HJS := Lib.hid hjs; have HK1 := Lib.hid hk1; have HK3 := Lib.hid hk3; have HK2 := Lib.hid hk2; have HKN := Lib.hid hkn; have HBEL := Lib.hid hbel; have HML := Lib.hid hml
    have HV1 := Lib.hid hV1; have HO1 := Lib.hid hO1; have HBZ := Lib.hid hbz; have HRR := Lib.hid hR; have HLL := Lib.hid hL
    have fV := block_frozen hV1 0
    clear hN h0 hm hks hk4 hown hat hsrc hjs hk1 hk3 hk2 hkn hbel hml hA hd c0 c1 c2 c3 c4 c5 hpop hV hV1 hO1 hbz hR hL hpl
    go_enter Try.func44, Try.ntmps44
    go_upto_region 3 with fail
    go_upto_region 4 with fail
    generalize (u.alloc (.cells #[.int .i64 0, .slice none 0 0, .int .i64 0, .int .u64 0, .string ⟨#[]⟩, .int .u64 0] 25)).alloc (.cells #[.int .i64 kind, .slice kA kn kc, .int .i64 arg, .int .u64 (mask : Nat), .string sign, .int .u64 (value : Nat)] 25) = w2 at *
    clear d0 d1 d2 d3 d4 d5 hq1
    go_upto_region 5 with fail
    have hV3 : (w2.setCell ⟨V, 0, none⟩ (.slice (some ⟨g, 0, none⟩) m c)).heap[V]? = some (.cells #[.slice (some ⟨g, 0, none⟩) m c] 22 (0, 0)) := block_set HV1.out 0 _
    have hO3 := own_put HO1.out (B := V) (by simp [Value.ownBlock]; exact fun e => hVne e.symm) 0 (.slice (some ⟨g, 0, none⟩) m c)
    have hL3 := (Below.heap_setCell w2 ⟨V, 0, none⟩ (.slice (some ⟨g, 0, none⟩) m c) (u.heap.size + 1) (by show u.heap.size + 1 ≠ V; omega)).trans HLL.out
    have hR3 := (Below.heap_setCell w2 ⟨V, 0, none⟩ (.slice (some ⟨g, 0, none⟩) m c) u.heap.size (by show u.heap.size ≠ V; omega)).trans HRR.out
    have hb3 := (HBEL.out.trans (HBZ.out.mono HBEL.out.size)).setCell (p := ⟨V, 0, none⟩) hVb (.slice (some ⟨g, 0, none⟩) m c)
    generalize w2.setCell ⟨V, 0, none⟩ (.slice (some ⟨g, 0, none⟩) m c) = w3 at *
    have l0 := below_cell (Below.refl _ _) hL3 0 rfl
    have l1 := below_cell (Below.refl _ _) hL3 1 rfl
    have l2 := below_cell (Below.refl _ _) hL3 2 rfl
    have l3 := below_cell (Below.refl _ _) hL3 3 rfl
    have l4 := below_cell (Below.refl _ _) hL3 4 rfl
    have l5 := below_cell (Below.refl _ _) hL3 5 rfl
    have hgu : (Value.slice (some ⟨g, 0, none⟩) m c).ownBlock = some g := rfl
    have HO3 := Lib.hid hO3; have HV3 := Lib.hid hV3; have HL3 := Lib.hid hL3; have HR3 := Lib.hid hR3; have HB3 := Lib.hid hb3
    clear hq2 fV HV1 HO1 HLL HRR HBZ hV3 hO3 hL3 hR3 hb3
    by_cases hk100 : kn < 100
    · have hkI : (kn : Int) < 100 := by omega
      have hsz : (cndCells kids js).length = kn * 6 := by rw [HJS.out.len.2, HKN.out]
      have hone := HJS.out.one
      have hs3 : (kA = none ∧ kn = 0 ∧ kc = 0 ∧ cndCells kids js = []) ∨ ∃ ad, kA = some ad ∧ ∀ j x, (cndCells kids js)[j]? = some x → w3.cell? (ad.add j) = some x := HSRC.out.imp id (fun ⟨ad, h1, h2⟩ => ⟨ad, h1, h2 w3 HB3.out⟩)
      have v3 := below_cell (Below.refl _ _) HV3.out 0 rfl
      have HSZ := Lib.hid hsz; have HON := Lib.hid hone; have HS3 := Lib.hid hs3
      clear hsz hone hs3
      go_upto_region 6 with fail
      go_wp2_with (first | (at_builtin; go_must (refine wpList_extendK _ _ 22 25 (cndCells kids js) HO3.out hc0 HB3.out.size Try.underlying22 hNI hzI0 hzI1 hzI2 rfl (by decide) rfl rfl rfl rfl HS3.out HSZ.out HON.out ?c7 ?_)))
      case c7 => omega
      intro v7 w7 hown7 hg7 helse7
      have hR7b := helse7 u.heap.size _ _ HR3.out rfl (by omega)
      obtain ⟨A7, c7, rfl, _, _, _⟩ := own_form6 hown7
      have hV7 := (hg7.block V (lt_of_block HV3.out) (by simp; exact hVne)).trans HV3.out
      have hL7 := (hg7.block (u.heap.size + 1) (lt_of_block HL3.out) (by simp; omega)).trans HL3.out
      have hR7 := (hg7.block u.heap.size (lt_of_block HR3.out) (by simp; omega)).trans HR3.out
      have hb7 := HB3.out.grown hg7 HB3.out.size (fun k hk => (HO3.out.lt k (by rw [← hk]; rfl)).1)
      have hvk := own_kind hown7 hV7 (by decide)
      have hV8 : (w7.setCell ⟨V, 0, none⟩ (.slice A7 (m + kn) c7)).heap[V]? = some (.cells #[.slice A7 (m + kn) c7] 22 (0, 0)) := block_set hV7 0 _
      have hO8 := own_put hown7 hvk 0 (.slice A7 (m + kn) c7)
      have hL8 := (Below.heap_setCell w7 ⟨V, 0, none⟩ (.slice A7 (m + kn) c7) (u.heap.size + 1) (by show u.heap.size + 1 ≠ V; omega)).trans hL7
      have hR8 := (Below.heap_setCell w7 ⟨V, 0, none⟩ (.slice A7 (m + kn) c7) u.heap.size (by show u.heap.size ≠ V; omega)).trans hR7
      have hb8 := hb7.setCell (p := ⟨V, 0, none⟩) hVb (.slice A7 (m + kn) c7)
      have q7 := below_cell (Below.refl _ _) hV7 0 rfl
      have f7 := block_frozen hV7 0
      have HO8 := Lib.hid hO8; have HV8 := Lib.hid hV8; have HL8 := Lib.hid hL8; have HR8 := Lib.hid hR8; have HB8 := Lib.hid hb8; have HR7B := Lib.hid hR7b
      clear hown7 hg7 helse7 hV7 hL7 hR7 hb7 hvk hV8 hO8 hL8 hR8 hb8 hR7b HO3 HV3 HL3 HR3 l0 l1 l2 l3 l4 l5 v3
      go_upto_region 7 with fail
      generalize w7.setCell ⟨V, 0, none⟩ (.slice A7 (m + kn) c7) = w8 at *
      clear q7 f7
      have m0 := below_cell (Below.refl _ _) HL8.out 0 rfl
      have m1 := below_cell (Below.refl _ _) HL8.out 1 rfl
      have m2 := below_cell (Below.refl _ _) HL8.out 2 rfl
      have m3 := below_cell (Below.refl _ _) HL8.out 3 rfl
      have m4 := below_cell (Below.refl _ _) HL8.out 4 rfl
      have m5 := below_cell (Below.refl _ _) HL8.out 5 rfl
      have z0 := below_cell (Below.refl _ _) HR8.out 0 rfl
      have z1 := below_cell (Below.refl _ _) HR8.out 1 rfl
      have z2 := below_cell (Below.refl _ _) HR8.out 2 rfl
      have z3 := below_cell (Below.refl _ _) HR8.out 3 rfl
      have z4 := below_cell (Below.refl _ _) HR8.out 4 rfl
      have z5 := below_cell (Below.refl _ _) HR8.out 5 rfl
      have f0 := block_frozen HR8.out 0
      have f1 := block_frozen HR8.out 1
      have f2 := block_frozen HR8.out 2
      have f3 := block_frozen HR8.out 3
      have f4 := block_frozen HR8.out 4
      have f5 := block_frozen HR8.out 5
      go_wp2_with fail
      refine bodyPost_ret (results_row_tmp rfl _ _ u.heap.size 25 #[.int .i64 kind, .slice kA kn kc, .int .i64 arg, .int .u64 (mask : Nat), .string sign, .int .u64 (value : Nat)] (0, 0) _ rfl (set6_block HR8.out _ _ _ _ _ _) Try.underlying25 rfl (by kernel_rfl)) rfl (HP.out _ _ (.slice kA kn kc) HK3.out rfl HK2.out ?_)
      have happ := HK1.out.app HJS.out
      have hkk : kids.length < 100 := by rw [← HKN.out]; exact hk100
      rw [pushed_few hkk]
      refine ⟨.slice A7 (m + kn) c7, ks' ++ js, (set6_other (by omega) _ _ _ _ _ _).trans HV8.out, hVb, happ.1, ?_, set6_below HB8.out (by have := HB8.out.size; have := HBEL.out.size; omega) _ _ _ _ _ _⟩
      rw [happ.2, List.length_append, HML.out, ← HKN.out]
      exact set6_own HO8.out HR7B.out _ _ _ _ _ _
    · have hkI : ¬ (kn : Int) < 100 := by omega
      have HKE := Lib.hid (show ¬ kids.length < 100 by rw [← HKN.out]; exact hk100)
      have z0 := below_cell (Below.refl _ _) HR3.out 0 rfl
      have z1 := below_cell (Below.refl _ _) HR3.out 1 rfl
      have z2 := below_cell (Below.refl _ _) HR3.out 2 rfl
      have z3 := below_cell (Below.refl _ _) HR3.out 3 rfl
      have z4 := below_cell (Below.refl _ _) HR3.out 4 rfl
      have z5 := below_cell (Below.refl _ _) HR3.out 5 rfl
      have f0 := block_frozen HR3.out 0
      have f1 := block_frozen HR3.out 1
      have f2 := block_frozen HR3.out 2
      have f3 := block_frozen HR3.out 3
      have f4 := block_frozen HR3.out 4
      have f5 := block_frozen HR3.out 5
      clear hk100
      go_wp2_with fail
      refine bodyPost_ret (results_row_tmp rfl _ _ u.heap.size 25 #[.int .i64 kind, .slice kA kn kc, .int .i64 arg, .int .u64 (mask : Nat), .string sign, .int .u64 (value : Nat)] (0, 0) _ rfl (set6_block HR3.out _ _ _ _ _ _) Try.underlying25 rfl (by kernel_rfl)) rfl (HP.out _ _ (.slice kA kn kc) HK3.out rfl HK2.out ?_)
      rw [pushed_many HKE.out]
      refine ⟨.slice (some ⟨g, 0, none⟩) m c, ks', (set6_other (by omega) _ _ _ _ _ _).trans HV3.out, hVb, by rw [List.append_nil]; exact HK1.out, ?_, set6_below HB3.out (by have := HBEL.out.size; omega) _ _ _ _ _ _⟩
      rw [List.append_nil, HML.out]
      exact set6_own HO3.out (by simp [Value.ownBlock]; omega) _ _ _ _ _ _
end Go.Proofs.Ytbcoooaoofbboaa
