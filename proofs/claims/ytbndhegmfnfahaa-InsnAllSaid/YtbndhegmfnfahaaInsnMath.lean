/- Filters written and read: plain facts. -/
import Derived.Test.YtbndhegmfnfahaaInsnLike
namespace Go.Proofs.Ytbndhegmfnfahaa
set_option linter.unusedVariables false

theorem chunk_list (s : ByteArray) (k : Nat) : (insChunk s k).data.toList = (s.data.toList.drop (8 * k)).take 8 := by
  rw [insChunk, ba_extract_list, show 8 * k + 8 - 8 * k = 8 from by omega]
theorem allL_at (l : List Ins) (k : Nat) (h : k < l.length) : ((allL l).drop (8 * k)).take 8 = (l.getD k insZ).bytes.data.toList := by
  induction l generalizing k with
  | nil => simp at h
  | cons a l ih =>
    have hz : a.bytes.data.toList.length = 8 := by rw [ba_len, Ins.bytes_size]
    rw [allL, List.flatMap_cons, ← allL]
    cases k with
    | zero => simp only [Nat.mul_zero, List.drop_zero]; rw [← hz, List.take_left]; rfl
    | succ k =>
      rw [List.drop_append, List.drop_eq_nil_of_le (by omega), List.nil_append, hz, show 8 * (k + 1) - 8 = 8 * k from by omega, ih k (by simpa using h)]
      rfl
def allB (l : List Ins) : ByteArray := ⟨(allL l).toArray⟩
theorem allB_list (l : List Ins) : (allB l).data.toList = allL l := by simp [allB]
theorem allB_size (l : List Ins) : (allB l).size = 8 * l.length := by rw [← ba_len, allB_list, allL_len]
theorem allB_chunk (l : List Ins) (k : Nat) (h : k < l.length) : insChunk (allB l) k = (l.getD k insZ).bytes := by
  apply ba_ext
  rw [chunk_list, allB_list, allL_at l k h]
theorem cut_first (a r : List UInt8) (k : Nat) (h : a.length = k) : ((a ++ r).drop 0).take k = a := by
  rw [List.drop_zero, ← h, List.take_left]
theorem cut_next (a r : List UInt8) (p q k : Nat) (h : p = a.length + q) : ((a ++ r).drop p).take k = (r.drop q).take k := by
  rw [h, List.drop_append, List.drop_eq_nil_of_le (by omega), List.nil_append, Nat.add_sub_cancel_left]
theorem gotIns_bytes (i : Ins) (hb : i.bounded) (hf : i.fits) : gotIns i.bytes = i := by
  obtain ⟨c0, c1, t0, t1, f0, f1⟩ := hf
  obtain ⟨_, _, _, k0, k1⟩ := hb
  obtain ⟨code, jt, jf, k⟩ := i
  dsimp only at c0 c1 t0 t1 f0 f1 k0 k1
  obtain ⟨code, rfl⟩ := Int.eq_ofNat_of_zero_le c0
  obtain ⟨jt, rfl⟩ := Int.eq_ofNat_of_zero_le t0
  obtain ⟨jf, rfl⟩ := Int.eq_ofNat_of_zero_le f0
  obtain ⟨k, rfl⟩ := Int.eq_ofNat_of_zero_le k0
  have p2 : (256 : Nat) ^ 2 = 65536 := by decide
  have p4 : (256 : Nat) ^ 4 = 4294967296 := by decide
  have e1 : getL (cutL (Ins.bytes ⟨code, jt, jf, k⟩) 0 2) = code := by
    rw [cutL, Ins.bytes_list]
    simp only [Int.toNat_natCast]
    rw [cut_first _ _ _ (putL_length _ _), getL_putL, Nat.mod_eq_of_lt (by omega)]
  have e2 : getL (cutL (Ins.bytes ⟨code, jt, jf, k⟩) 2 1) = jt := by
    rw [cutL, Ins.bytes_list]
    simp only [Int.toNat_natCast]
    rw [cut_next _ _ 2 0 _ (by rw [putL_length]), cut_first _ _ _ (putL_length _ _), getL_putL, Nat.mod_eq_of_lt (by omega)]
  have e3 : getL (cutL (Ins.bytes ⟨code, jt, jf, k⟩) 3 1) = jf := by
    rw [cutL, Ins.bytes_list]
    simp only [Int.toNat_natCast]
    rw [cut_next _ _ 3 1 _ (by rw [putL_length]), cut_next _ _ 1 0 _ (by rw [putL_length]), cut_first _ _ _ (putL_length _ _), getL_putL, Nat.mod_eq_of_lt (by omega)]
  have e4 : getL (cutL (Ins.bytes ⟨code, jt, jf, k⟩) 4 4) = k := by
    rw [cutL, Ins.bytes_list]
    simp only [Int.toNat_natCast]
    rw [cut_next _ _ 4 2 _ (by rw [putL_length]), cut_next _ _ 2 1 _ (by rw [putL_length]), cut_next _ _ 1 0 _ (by rw [putL_length]), List.drop_zero, List.take_of_length_le (by rw [putL_length]; omega), getL_putL, Nat.mod_eq_of_lt (by omega)]
  rw [gotIns, e1, e2, e3, e4]
theorem getB_bytes (i : Ins) (hb : i.bounded) (hf : i.fits) : insGetB i.bytes = insKnown i.code := by
  have h := congrArg Ins.code (gotIns_bytes i hb hf)
  have h' : ((getL (cutL i.bytes 0 2) : Nat) : Int) = i.code := h
  rw [insGetB, h', Ins.bytes_size]
  simp
theorem take_split (l : List UInt8) (a b : Nat) : (l.drop a).take b ++ l.drop (a + b) = l.drop a := by
  rw [← List.drop_drop, List.take_append_drop]
theorem bytes_got (c : ByteArray) (h : c.size = 8) : (gotIns c).bytes = c := by
  apply ba_ext
  rw [Ins.bytes_list]
  simp only [gotIns, Int.toNat_natCast]
  have g := fun p k (hp : p + k ≤ c.size) => by
    have := putL_getL (cutL c p k)
    rw [cutL_length _ _ _ hp] at this
    exact this
  rw [g 0 2 (by omega), g 2 1 (by omega), g 3 1 (by omega), g 4 4 (by omega)]
  simp only [cutL]
  rw [List.take_of_length_le (l := c.data.toList.drop 4) (by rw [List.length_drop, ba_len]; omega)]
  rw [show c.data.toList.drop 4 = c.data.toList.drop (3 + 1) from rfl, take_split, show c.data.toList.drop 3 = c.data.toList.drop (2 + 1) from rfl, take_split, show c.data.toList.drop 2 = c.data.toList.drop (0 + 2) from rfl, take_split, List.drop_zero]
theorem chunk_size (s : ByteArray) (k : Nat) (h : 8 * k + 8 ≤ s.size) : (insChunk s k).size = 8 := by
  rw [insChunk, ByteArray.size_extract]; omega
theorem bytes_chunk (s : ByteArray) (k : Nat) (h : insGetB (insChunk s k) = true) : (insGetI (insChunk s k)).bytes = insChunk s k ∧ (insGetI (insChunk s k)).fits := by
  have hz : (insChunk s k).size = 8 := by
    unfold insGetB at h
    simp only [Bool.and_eq_true, decide_eq_true_eq] at h
    exact h.1
  unfold insGetI
  rw [if_pos h]
  exact ⟨bytes_got _ hz, gotIns_fits _ hz⟩
theorem allL_row (s : ByteArray) (k : Nat) (h : insGood s k) (hk : 8 * k ≤ s.size) : allL (insRow s k) = s.data.toList.take (8 * k) := by
  induction k with
  | zero => simp [insRow, allL]
  | succ k ih =>
    rw [insRow_snoc, allL, List.flatMap_append, ← allL, ih (fun j hj => h j (by omega)) (by omega)]
    simp only [List.flatMap_cons, List.flatMap_nil, List.append_nil]
    rw [(bytes_chunk s k (h k (by omega))).1, chunk_list, show 8 * (k + 1) = 8 * k + 8 from by omega, List.take_add]
theorem insRow_bounded (s : ByteArray) (k : Nat) : ∀ i ∈ insRow s k, i.bounded := by
  intro i hi
  obtain ⟨j, _, rfl⟩ := List.mem_map.1 hi
  exact insGetI_bounded _
theorem insReadL_bounded (s : ByteArray) : ∀ i ∈ insReadL s, i.bounded := by
  unfold insReadL
  split
  · exact insRow_bounded s _
  · intro i hi; cases hi
theorem insReadE_zero {s : ByteArray} (h : insReadE s = 0) : s.size ≤ 32768 ∧ s.size % 8 = 0 ∧ insGood s (s.size / 8) := by
  unfold insReadE at h
  split at h
  · cases h
  · split at h
    · split at h
      · exact ⟨by omega, by assumption, by assumption⟩
      · cases h
    · cases h
theorem readE_cases (s : ByteArray) : insReadE s = 0 ∨ (insReadE s = 2 ∧ insReadL s = []) ∨ (insReadE s = 50 ∧ insReadL s = []) := by
  have hL : insReadE s ≠ 0 → insReadL s = [] := fun h => by unfold insReadL; rw [if_neg h]
  have h : insReadE s = 0 ∨ insReadE s = 2 ∨ insReadE s = 50 := by
    unfold insReadE
    split
    · exact .inr (.inl rfl)
    · split
      · split
        · exact .inl rfl
        · exact .inr (.inr rfl)
      · exact .inr (.inr rfl)
  rcases h with h | h | h
  · exact .inl h
  · exact .inr (.inl ⟨h, hL (by rw [h]; decide)⟩)
  · exact .inr (.inr ⟨h, hL (by rw [h]; decide)⟩)
/-- what is read, written, is the bytes -/
theorem all_read (s : ByteArray) (h : insReadE s = 0) : insAllE (insReadL s) = 0 ∧ insAllS (insReadL s) = s := by
  obtain ⟨h1, h2, h3⟩ := insReadE_zero h
  have hL : insReadL s = insRow s (s.size / 8) := by unfold insReadL; rw [if_pos h]
  have hE : insAllE (insReadL s) = 0 := by
    unfold insAllE
    rw [hL, insRow_len, if_neg (by omega), if_pos]
    intro i hi
    obtain ⟨j, hj, rfl⟩ := List.mem_map.1 hi
    exact (bytes_chunk s j (h3 j (List.mem_range.1 hj))).2
  refine ⟨hE, ?_⟩
  unfold insAllS
  rw [if_pos hE, hL]
  apply ba_ext
  show ((allL (insRow s (s.size / 8))).toArray).toList = _
  rw [List.toList_toArray, allL_row s _ h3 (by omega), List.take_of_length_le (by rw [ba_len]; omega)]
def allKn (l : List Ins) : Bool := l.all fun i => insKnown i.code
theorem good_all (l : List Ins) (hf : allFit l) (hb : ∀ i ∈ l, i.bounded) : insGood (allB l) l.length ↔ allKn l = true := by
  have hg : ∀ j, j < l.length → insGetB (insChunk (allB l) j) = insKnown (l.getD j insZ).code := fun j hj => by
    rw [allB_chunk l j hj]
    exact getB_bytes _ (hb _ (getD_mem l j hj)) (hf _ (getD_mem l j hj))
  constructor
  · intro h
    rw [allKn, List.all_eq_true]
    intro i hi
    obtain ⟨j, hj, rfl⟩ := List.mem_iff_getElem.1 hi
    have := hg j hj
    rw [h j hj] at this
    rw [show l.getD j insZ = l[j] from by simp [List.getD, hj]] at this
    exact this.symm
  · intro h j hj
    rw [hg j hj]
    rw [allKn, List.all_eq_true] at h
    exact h _ (getD_mem l j hj)
/-- what is written, read: if all codes are known -/
theorem read_all (l : List Ins) (hE : insAllE l = 0) (hb : ∀ i ∈ l, i.bounded) : insAllS l = allB l ∧ insReadE (allB l) = (if allKn l then 0 else 50) ∧ (allKn l = true → insReadL (allB l) = l) := by
  have hlf : l.length ≤ 4096 ∧ allFit l := by
    unfold insAllE at hE
    split at hE
    · cases hE
    · split at hE
      · exact ⟨by omega, by assumption⟩
      · cases hE
  obtain ⟨hl, hf⟩ := hlf
  have hg := good_all l hf hb
  have hR : insReadE (allB l) = (if allKn l then 0 else 50) := by
    unfold insReadE
    rw [allB_size, if_neg (by omega), if_pos (by omega), show 8 * l.length / 8 = l.length from by omega]
    by_cases h : allKn l = true
    · rw [if_pos (hg.2 h), if_pos h]
    · rw [if_neg (fun x => h (hg.1 x)), if_neg h]
  refine ⟨by unfold insAllS; rw [if_pos hE]; rfl, hR, fun h => ?_⟩
  have h0 : insReadE (allB l) = 0 := by rw [hR, if_pos h]
  unfold insReadL
  rw [if_pos h0, allB_size, show 8 * l.length / 8 = l.length from by omega]
  refine insEq_ext (insRow_len _ _) fun j hj => ?_
  rw [insRow_len] at hj
  have hj' : (insRow (allB l) l.length).getD j insZ = insGetI (insChunk (allB l) j) := by
    simp [insRow, List.getD, hj]
  have hbj := hb _ (getD_mem l j hj)
  have hfj := hf _ (getD_mem l j hj)
  have hk : insKnown (l.getD j insZ).code = true := by
    rw [allKn, List.all_eq_true] at h
    exact h _ (getD_mem l j hj)
  rw [hj', allB_chunk l j hj]
  unfold insGetI
  rw [getB_bytes _ hbj hfj, if_pos hk, gotIns_bytes _ hbj hfj]
end Go.Proofs.Ytbndhegmfnfahaa
