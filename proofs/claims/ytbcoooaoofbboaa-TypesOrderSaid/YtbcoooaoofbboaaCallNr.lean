/- call.Nr. -/
import Derived.Test.YtbcoooaoofbboaaCallTab
import Derived.Test.YtbcoooaoofbboaaMaps
namespace Go.Proofs.Ytbcoooaoofbboaa
open Go.RowKit
set_option linter.unusedVariables false

def keyOfN (e : List UInt8 × Nat) : ByteArray := ⟨e.1.toArray⟩
/-- the map from names to places, behind i rounds -/
def placesN (l : List (List UInt8 × Nat)) : Nat → ByteArray → Option Value
  | 0 => fun _ => none
  | i + 1 => fun k => if k = keyOfN (l.getD i ([], 0)) then some (.int .i64 i) else placesN l i k
/-- the call's number of a name -/
def nrOf (l : List (List UInt8 × Nat)) (name : ByteArray) : Option Nat := (l.find? fun e => decide (keyOfN e = name)).map (·.2)
theorem placesN_none (l : List (List UInt8 × Nat)) (i : Nat) (k : ByteArray) (h : ∀ j, j < i → keyOfN (l.getD j ([], 0)) ≠ k) : placesN l i k = none := by
  induction i with
  | zero => rfl
  | succ i ih =>
    simp only [placesN]
    rw [if_neg (fun e => h i (by omega) e.symm)]
    exact ih fun j hj => h j (by omega)
theorem placesN_is_none (l : List (List UInt8 × Nat)) (i : Nat) (k : ByteArray) (h : placesN l i k = none) : ∀ j, j < i → keyOfN (l.getD j ([], 0)) ≠ k := by
  induction i with
  | zero => intro j hj; omega
  | succ i ih =>
    simp only [placesN] at h
    split at h
    · cases h
    · rename_i hk
      intro j hj
      by_cases hji : j = i
      · subst hji; exact fun e => hk e.symm
      · exact ih h j (by omega)
theorem placesN_some (l : List (List UInt8 × Nat)) (i : Nat) (k : ByteArray) (v : Value) (h : placesN l i k = some v) : ∃ j, j < i ∧ keyOfN (l.getD j ([], 0)) = k ∧ v = .int .i64 j := by
  induction i with
  | zero => cases h
  | succ i ih =>
    simp only [placesN] at h
    split at h
    · rename_i hk
      injection h with h
      exact ⟨i, by omega, hk.symm, h.symm⟩
    · obtain ⟨j, h1, h2, h3⟩ := ih h
      exact ⟨j, by omega, h2, h3⟩
theorem nodup_keys (l : List (List UInt8 × Nat)) (hn : (l.map (·.1)).Nodup) (i j : Nat) (hi : i < l.length) (hj : j < l.length) (h : keyOfN (l.getD i ([], 0)) = keyOfN (l.getD j ([], 0))) : i = j := by
  have h1 : (l.getD i ([], 0)).1 = (l.getD j ([], 0)).1 := ba_inj h
  have e1 : (l.map (·.1))[i]'(by simpa using hi) = (l.map (·.1))[j]'(by simpa using hj) := by
    simpa [List.getD, hi, hj] using h1
  exact (List.getElem_inj hn).1 e1
theorem nrOf_at (l : List (List UInt8 × Nat)) (hn : (l.map (·.1)).Nodup) (i : Nat) (hi : i < l.length) : nrOf l (keyOfN (l.getD i ([], 0))) = some (l.getD i ([], 0)).2 := by
  unfold nrOf
  cases hf : l.find? fun e => decide (keyOfN e = keyOfN (l.getD i ([], 0))) with
  | none =>
    have := List.find?_eq_none.1 hf (l[i]) (List.getElem_mem _)
    simp [List.getD, hi] at this
  | some e =>
    have h1 := List.find?_some hf
    have h2 := List.mem_of_find?_eq_some hf
    obtain ⟨j, hj, he⟩ := List.mem_iff_getElem.1 h2
    have he' : l.getD j ([], 0) = e := by simp [List.getD, hj, he]
    have : j = i := nodup_keys l hn j i hj hi (by rw [he']; exact of_decide_eq_true h1)
    subst this
    rw [he']; rfl
theorem nrOf_none (l : List (List UInt8 × Nat)) (k : ByteArray) (h : ∀ j, j < l.length → keyOfN (l.getD j ([], 0)) ≠ k) : nrOf l k = none := by
  unfold nrOf
  rw [List.find?_eq_none.2]; rfl
  intro e he
  obtain ⟨j, hj, hje⟩ := List.mem_iff_getElem.1 he
  have := h j hj
  simp [List.getD, hj, hje] at this
  simpa using this
theorem x86_nodup : (x86T.map (·.1)).Nodup ∧ (x86T.map (·.2)).Nodup := by decide +kernel
theorem arm_nodup : (armT.map (·.1)).Nodup ∧ (armT.map (·.2)).Nodup := by decide +kernel
theorem tab_nodup (a : Int) : ((tabOf a).map (·.1)).Nodup ∧ ((tabOf a).map (·.2)).Nodup := by
  unfold tabOf
  split
  · exact x86_nodup
  · split
    · exact arm_nodup
    · exact ⟨by simp, by simp⟩
theorem x86_small : x86T.all (fun e => decide (e.2 < 4294967296 ∧ e.1.length < 100)) = true := by decide +kernel
theorem arm_small : armT.all (fun e => decide (e.2 < 4294967296 ∧ e.1.length < 100)) = true := by decide +kernel
theorem tab_len (a : Int) : (tabOf a).length ≤ 35 := by
  unfold tabOf
  split
  · decide
  · split
    · decide
    · simp
theorem tab_small (a : Int) : ∀ i, i < (tabOf a).length → ((tabOf a).getD i ([], 0)).2 < 4294967296 := by
  intro i hi
  have h : (tabOf a).all (fun e => decide (e.2 < 4294967296 ∧ e.1.length < 100)) = true := by
    unfold tabOf
    split
    · exact x86_small
    · split
      · exact arm_small
      · rfl
  have := List.all_eq_true.1 h _ (List.getElem_mem hi)
  have h2 := (of_decide_eq_true this).1
  simpa [List.getD, hi] using h2

theorem zeroI64 (w : World) : (zeroValue 3).run Try.prog w = .ok (.int .i64 0) w := by kernel_rfl

set_option maxHeartbeats 1000000 in
set_option maxRecDepth 100000 in
theorem callNr_any (a : Int) (s : ByteArray) (w : World) (h0 : 0 ≤ a) (h1 : a ≤ 4294967295) :
    Calls Try.prog 38 #[.int .u32 a, .string s] w fun e w' => e = .returned (.tuple #[.int .u32 (((nrOf (tabOf a) s).getD 0 : Nat) : Int), .bool (nrOf (tabOf a) s).isSome]) ∧ Below w.heap.size w w' := by
  have hmm := @run_makeMap Try.prog
  have htl := tab_len a
  have hnd := tab_nodup a
  have hsm := tab_small a
  have HN := Lib.hid hnd; have HSM := Lib.hid hsm
  clear hnd hsm
  have hb0 := (Below.refl w.heap.size w).alloc (Nat.le_refl _) (.map #[] 0)
  have hm0 := HoldsMap.new strKeys w
  go_enter Try.func38, Try.ntmps38
  go_wp2_with fail
  refine (table_any a _ h0 h1).mono ?_
  rintro e w1 ⟨⟨v, rfl, htab⟩, hb1⟩
  have hm1 : HoldsMap strKeys w1 w.heap.size (placesN (tabOf a) 0) := hm0.of_block (hb1.block _ (by simp))
  have hbel := hb0.trans (hb1.mono (by simp))
  have hsz : w.heap.size < w1.heap.size := hm1.lt
  clear hb0 hm0 hmm
  rcases htab with ⟨hnil, rfl⟩ | ⟨g, hg, rfl, hblk⟩
  · have hlk := hm1.lookup (P := Try.prog) s Try.underlying79 Try.underlying9 (zeroI64 _)
    simp only [strKeys, placesN, Option.getD_none, Option.isSome_none] at hlk
    have hnr : nrOf (tabOf a) s = none := by rw [hnil]; rfl
    have HNR := Lib.hid hnr
    clear hm1 hb1 hnil hnr
    go_wp2_with fail
    refine wp_loop_once ?_
    go_wp2_with fail
    go_ret2
    exact ⟨by rw [HNR.out]; rfl, hbel⟩
  · have hgl : g < w1.heap.size := lt_of_block hblk
    clear hb1
    have hg' : w.heap.size < g := by simp at hg; omega
    clear hg
    obtain ⟨l, hl⟩ : ∃ l, tabOf a = l := ⟨_, rfl⟩
    rw [hl] at htl HN HSM hm1 hblk ⊢
    have HLT := Lib.hid hl
    clear hl
    go_wp2_with fail
    go_loopw [17] (fun c wr => ∃ i : Nat, i ≤ l.length ∧ c = .int .i64 i ∧ HoldsMap strKeys wr w.heap.size (placesN l i) ∧ wr.heap[g]? = some (.cells (tabV l).toArray 83 (0, 0)) ∧ Below w.heap.size w wr) (fun c _ => l.length - (intOf c).toNat)
    case atStart => exact ⟨0, by omega, rfl, hm1, hblk, hbel⟩
    case round =>
      clear hm1 hblk hbel
      obtain ⟨i, hi, rfl, hm, hblk, hbel⟩ := hrel
      by_cases hlt : i < l.length
      · have hc1 : wr.cell? ⟨g, i * 2, none⟩ = some (.string (keyOfN (l.getD i ([], 0)))) := by
          rw [cell_of_row _ _ _ _ _ _ hblk, List.getElem?_toArray, Nat.mul_comm i 2, tabV_name l i hlt]; rfl
        have hc2 : wr.cell? ⟨g, i * 2 + 1, none⟩ = some (.int .u32 ((l.getD i ([], 0)).2 : Nat)) := by
          rw [cell_of_row _ _ _ _ _ _ hblk, List.getElem?_toArray, Nat.mul_comm i 2, tabV_nr l i hlt]
        have hsi := HSM.out i hlt
        have hsiI : (((l.getD i ([], 0)).2 : Nat) : Int) ≤ 4294967295 := by omega
        clear hsi
        have HK := Lib.hid hblk
        clear hblk
        generalize hkey : keyOfN (l.getD i ([], 0)) = key at *
        generalize (l.getD i ([], 0)).2 = nr at *
        have HKEY := Lib.hid hkey
        clear hkey
        go_wp2_with (at_mapUpdate; go_must (refine wpList_mapSet (K := strKeys) (hm.alloc _) (hbel.alloc hbel.size _) (Nat.le_refl _) (Nat.le_refl _) 79 9 3 _ _ _ key (.int .i64 i) rfl (.inl rfl) Try.underlying79 Try.underlying9 rfl rfl rfl ?_); intro w3 hm3 hbel3 hg3)
        go_roundw
        case rel =>
          refine ⟨i + 1, by omega, by go_num, ?_, ?_, hbel3⟩
          · simp only [placesN]; rw [HKEY.out]; exact hm3
          · rw [hg3.block g (by simp; exact Nat.lt_succ_of_lt (lt_of_block HK.out)) (by intro e; injection e with e; omega), Below.heap_alloc _ _ _ (lt_of_block HK.out)]
            exact HK.out
        case measure => simp [intOf]; omega
      · obtain rfl : i = l.length := by omega
        have hlk := hm.lookup (P := Try.prog) s Try.underlying79 Try.underlying9 (zeroI64 _)
        have HM := Lib.hid hm
        clear hm
        cases hp : placesN l l.length s with
        | none =>
          rw [hp] at hlk
          have hnr : nrOf l s = none := nrOf_none l s (placesN_is_none l _ s hp)
          have HNR := Lib.hid hnr
          clear hp hnr
          simp only [strKeys, Option.getD_none, Option.isSome_none] at hlk
          go_wp2_with fail
          go_ret2
          exact ⟨by rw [HLT.out, HNR.out]; rfl, hbel⟩
        | some v =>
          rw [hp] at hlk
          obtain ⟨j, hj, hk, rfl⟩ := placesN_some l _ s v hp
          have hnr := nrOf_at l HN.out.1 j hj
          rw [hk] at hnr
          have hc2 : wr.cell? ⟨g, j * 2 + 1, none⟩ = some (.int .u32 ((l.getD j ([], 0)).2 : Nat)) := by
            rw [cell_of_row _ _ _ _ _ _ hblk, List.getElem?_toArray, Nat.mul_comm j 2, tabV_nr l j hj]
          generalize (l.getD j ([], 0)).2 = nr at *
          have HNR := Lib.hid hnr
          have hjI : (j : Int) < l.length := by omega
          clear hp hnr hblk hk
          simp only [strKeys, Option.getD_some, Option.isSome_some] at hlk
          go_wp2_with fail
          go_ret2
          exact ⟨by rw [HLT.out, HNR.out]; rfl, hbel⟩
end Go.Proofs.Ytbcoooaoofbboaa
