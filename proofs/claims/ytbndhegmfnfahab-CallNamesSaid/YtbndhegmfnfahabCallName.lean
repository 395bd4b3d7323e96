/- call.Name. -/
import Derived.Test.YtbndhegmfnfahabCallNr
namespace Go.Proofs.Ytbndhegmfnfahab
open Go.RowKit
set_option linter.unusedVariables false

def keyOfR (e : List UInt8 × Nat) : Int := (e.2 : Nat)
/-- the map from numbers to places, behind i rounds -/
def placesR (l : List (List UInt8 × Nat)) : Nat → Int → Option Value
  | 0 => fun _ => none
  | i + 1 => fun k => if k = keyOfR (l.getD i ([], 0)) then some (.int .i64 i) else placesR l i k
/-- the call's name of a number -/
def nameOf (l : List (List UInt8 × Nat)) (nr : Int) : Option ByteArray := (l.find? fun e => decide (keyOfR e = nr)).map fun e => ⟨e.1.toArray⟩
theorem placesR_is_none (l : List (List UInt8 × Nat)) (i : Nat) (k : Int) (h : placesR l i k = none) : ∀ j, j < i → keyOfR (l.getD j ([], 0)) ≠ k := by
  induction i with
  | zero => intro j hj; omega
  | succ i ih =>
    simp only [placesR] at h
    split at h
    · cases h
    · rename_i hk
      intro j hj
      by_cases hji : j = i
      · subst hji; exact fun e => hk e.symm
      · exact ih h j (by omega)
theorem placesR_some (l : List (List UInt8 × Nat)) (i : Nat) (k : Int) (v : Value) (h : placesR l i k = some v) : ∃ j, j < i ∧ keyOfR (l.getD j ([], 0)) = k ∧ v = .int .i64 j := by
  induction i with
  | zero => cases h
  | succ i ih =>
    simp only [placesR] at h
    split at h
    · rename_i hk
      injection h with h
      exact ⟨i, by omega, hk.symm, h.symm⟩
    · obtain ⟨j, h1, h2, h3⟩ := ih h
      exact ⟨j, by omega, h2, h3⟩
theorem nodup_keysR (l : List (List UInt8 × Nat)) (hn : (l.map (·.2)).Nodup) (i j : Nat) (hi : i < l.length) (hj : j < l.length) (h : keyOfR (l.getD i ([], 0)) = keyOfR (l.getD j ([], 0))) : i = j := by
  have h1 : (l.getD i ([], 0)).2 = (l.getD j ([], 0)).2 := by unfold keyOfR at h; omega
  have e1 : (l.map (·.2))[i]'(by simpa using hi) = (l.map (·.2))[j]'(by simpa using hj) := by
    simpa [List.getD, hi, hj] using h1
  exact (List.getElem_inj hn).1 e1
theorem nameOf_at (l : List (List UInt8 × Nat)) (hn : (l.map (·.2)).Nodup) (i : Nat) (hi : i < l.length) : nameOf l (keyOfR (l.getD i ([], 0))) = some ⟨(l.getD i ([], 0)).1.toArray⟩ := by
  unfold nameOf
  cases hf : l.find? fun e => decide (keyOfR e = keyOfR (l.getD i ([], 0))) with
  | none =>
    have := List.find?_eq_none.1 hf (l[i]) (List.getElem_mem _)
    simp [List.getD, hi] at this
  | some e =>
    have h1 := List.find?_some hf
    have h2 := List.mem_of_find?_eq_some hf
    obtain ⟨j, hj, he⟩ := List.mem_iff_getElem.1 h2
    have he' : l.getD j ([], 0) = e := by simp [List.getD, hj, he]
    have : j = i := nodup_keysR l hn j i hj hi (by rw [he']; exact of_decide_eq_true h1)
    subst this
    rw [he']; rfl
theorem nameOf_none (l : List (List UInt8 × Nat)) (k : Int) (h : ∀ j, j < l.length → keyOfR (l.getD j ([], 0)) ≠ k) : nameOf l k = none := by
  unfold nameOf
  rw [List.find?_eq_none.2]; rfl
  intro e he
  obtain ⟨j, hj, hje⟩ := List.mem_iff_getElem.1 he
  have := h j hj
  simp [List.getD, hj, hje] at this
  simpa using this

set_option maxHeartbeats 1000000 in
set_option maxRecDepth 100000 in
theorem callName_any (a : Int) (s : Int) (w : World) (h0 : 0 ≤ a) (h1 : a ≤ 4294967295) (s0 : 0 ≤ s) (s1 : s ≤ 4294967295) :
    Calls Try.prog 25 #[.int .u32 a, .int .u32 s] w fun e w' => e = .returned (.tuple #[.string ((nameOf (tabOf a) s).getD ⟨#[]⟩), .bool (nameOf (tabOf a) s).isSome]) ∧ Below w.heap.size w w' := by
  have hmm := @run_makeMap Try.prog
  have htl := tab_len a
  have hnd := tab_nodup a
  have hsm := tab_small a
  have HN := Lib.hid hnd; have HSM := Lib.hid hsm
  clear hnd hsm
  have hb0 := (Below.refl w.heap.size w).alloc (Nat.le_refl _) (.map #[] 0)
  have hm0 := HoldsMap.new u32Keys w
  go_enter Try.func25, Try.ntmps25
  go_wp2_with fail
  refine (table_any a _ h0 h1).mono ?_
  rintro e w1 ⟨⟨v, rfl, htab⟩, hb1⟩
  have hm1 : HoldsMap u32Keys w1 w.heap.size (placesR (tabOf a) 0) := hm0.of_block (hb1.block _ (by simp))
  have hbel := hb0.trans (hb1.mono (by simp))
  have hsz : w.heap.size < w1.heap.size := hm1.lt
  clear hb0 hm0 hmm
  rcases htab with ⟨hnil, rfl⟩ | ⟨g, hg, rfl, hblk⟩
  · have hlk := hm1.lookup (P := Try.prog) s Try.underlying88 Try.underlying30 (zeroI64 _)
    simp only [u32Keys, placesR, Option.getD_none, Option.isSome_none] at hlk
    have hnr : nameOf (tabOf a) s = none := by rw [hnil]; rfl
    have HNR := Lib.hid hnr
    clear hm1 hb1 hnil hnr
    go_wp2_with fail
    refine wp_loop_once ?_
    go_wp2_with fail
    go_ret2
    exact ⟨by rw [HNR.out]; rfl, hbel⟩
  · have hgl : g < w1.heap.size := lt_of_block hblk
    clear hb1
    have hg' : w.heap.size < g := by simp at hg; omega
    clear hg
    obtain ⟨l, hl⟩ : ∃ l, tabOf a = l := ⟨_, rfl⟩
    rw [hl] at htl HN HSM hm1 hblk ⊢
    have HLT := Lib.hid hl
    clear hl
    go_wp2_with fail
    go_loopw [17] (fun c wr => ∃ i : Nat, i ≤ l.length ∧ c = .int .i64 i ∧ HoldsMap u32Keys wr w.heap.size (placesR l i) ∧ wr.heap[g]? = some (.cells (tabV l).toArray 82 (0, 0)) ∧ Below w.heap.size w wr) (fun c _ => l.length - (intOf c).toNat)
    case atStart => exact ⟨0, by omega, rfl, hm1, hblk, hbel⟩
    case round =>
      clear hm1 hblk hbel
      obtain ⟨i, hi, rfl, hm, hblk, hbel⟩ := hrel
      by_cases hlt : i < l.length
      · have hc1 : wr.cell? ⟨g, i * 2, none⟩ = some (.string (keyOfN (l.getD i ([], 0)))) := by
          rw [cell_of_row _ _ _ _ _ _ hblk, List.getElem?_toArray, Nat.mul_comm i 2, tabV_name l i hlt]; rfl
        have hc2 : wr.cell? ⟨g, i * 2 + 1, none⟩ = some (.int .u32 ((l.getD i ([], 0)).2 : Nat)) := by
          rw [cell_of_row _ _ _ _ _ _ hblk, List.getElem?_toArray, Nat.mul_comm i 2, tabV_nr l i hlt]
        have hsi := HSM.out i hlt
        have hsiI : (((l.getD i ([], 0)).2 : Nat) : Int) ≤ 4294967295 := by omega
        clear hsi
        have HK := Lib.hid hblk
        clear hblk
        have hkey : keyOfR (l.getD i ([], 0)) = (((l.getD i ([], 0)).2 : Nat) : Int) := rfl
        generalize keyOfN (l.getD i ([], 0)) = key at *
        obtain ⟨nr, hnr⟩ : ∃ nr, (l.getD i ([], 0)).2 = nr := ⟨_, rfl⟩
        rw [hnr] at hkey hc2 hsiI
        have HKEY := Lib.hid hkey
        clear hkey hnr
        go_wp2_with (at_mapUpdate; go_must (refine wpList_mapSet (K := u32Keys) (hm.alloc _) (hbel.alloc hbel.size _) (Nat.le_refl _) (Nat.le_refl _) 88 30 3 _ _ _ (nr : Int) (.int .i64 i) rfl (.inl rfl) Try.underlying88 Try.underlying30 rfl rfl rfl ?_); intro w3 hm3 hbel3 hg3)
        go_roundw
        case rel =>
          refine ⟨i + 1, by omega, by go_num, ?_, ?_, hbel3⟩
          · simp only [placesR]; rw [HKEY.out]; exact hm3
          · rw [hg3.block g (by simp; exact Nat.lt_succ_of_lt (lt_of_block HK.out)) (by intro e; injection e with e; omega), Below.heap_alloc _ _ _ (lt_of_block HK.out)]
            exact HK.out
        case measure => simp [intOf]; omega
      · obtain rfl : i = l.length := by omega
        have hlk := hm.lookup (P := Try.prog) s Try.underlying88 Try.underlying30 (zeroI64 _)
        have HM := Lib.hid hm
        clear hm
        cases hp : placesR l l.length s with
        | none =>
          rw [hp] at hlk
          have hnr : nameOf l s = none := nameOf_none l s (placesR_is_none l _ s hp)
          have HNR := Lib.hid hnr
          clear hp hnr
          simp only [u32Keys, Option.getD_none, Option.isSome_none] at hlk
          go_wp2_with fail
          go_ret2
          exact ⟨by rw [HLT.out, HNR.out]; rfl, hbel⟩
        | some v =>
          rw [hp] at hlk
          obtain ⟨j, hj, hk, rfl⟩ := placesR_some l _ s v hp
          have hnr := nameOf_at l HN.out.2 j hj
          rw [hk] at hnr
          have hc1 : wr.cell? ⟨g, j * 2, none⟩ = some (.string ⟨(l.getD j ([], 0)).1.toArray⟩) := by
            rw [cell_of_row _ _ _ _ _ _ hblk, List.getElem?_toArray, Nat.mul_comm j 2, tabV_name l j hj]
          generalize ByteArray.mk (l.getD j ([], 0)).1.toArray = nm at *
          have HNR := Lib.hid hnr
          have hjI : (j : Int) < l.length := by omega
          clear hp hnr hblk hk
          simp only [u32Keys, Option.getD_some, Option.isSome_some] at hlk
          go_wp2_with fail
          go_ret2
          exact ⟨by rw [HLT.out, HNR.out]; rfl, hbel⟩
end Go.Proofs.Ytbndhegmfnfahab
