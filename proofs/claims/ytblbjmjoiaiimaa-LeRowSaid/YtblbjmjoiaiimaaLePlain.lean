/- Plain facts on what le answers: back and forth. -/
import Derived.Test.YtblbjmjoiaiimaaLeCut
namespace Go.Proofs.Ytblbjmjoiaiimaa
set_option linter.unusedVariables false

theorem cutL_mid (x : ByteArray) (pre mid post : List UInt8) (hx : x.data.toList = pre ++ (mid ++ post)) : cutL x pre.length mid.length = mid := by
  rw [cutL, hx, List.drop_left, List.take_left]
theorem size_mid (x : ByteArray) (pre mid post : List UInt8) (hx : x.data.toList = pre ++ (mid ++ post)) : x.size = pre.length + mid.length + post.length := by
  rw [← ba_len, hx]; simp; omega
theorem putOk_parts {n k : Int} (h : putOk n k = true) : 1 ≤ k ∧ k ≤ 8 ∧ n.toNat < 256 ^ k.toNat := of_decide_eq_true h
theorem putS_ok {n k : Int} (h : putOk n k = true) : putS n k = ⟨(putL n.toNat k.toNat).toArray⟩ := by simp [putS, h]
theorem putS_size {n k : Int} (h : putOk n k = true) : (putS n k).size = k.toNat := by rw [putS_ok h, ba_size, putL_length]
theorem putS_size_le (n k : Int) : (putS n k).size ≤ 8 := by
  cases h : putOk n k with
  | true => rw [putS_size h]; have := putOk_parts h; omega
  | false => simp [putS, h, ByteArray.size]
/-- what is put behind a text is got there -/
theorem get_put (t : ByteArray) (n k : Int) (h : putOk n k = true) (h0 : 0 ≤ n) :
    getE (t ++ putS n k) t.size k = 0 ∧ getN (t ++ putS n k) t.size k = n ∧ getT (t ++ putS n k) t.size k = t.size + k := by
  obtain ⟨h1, h8, hlt⟩ := putOk_parts h
  have hsz : (t ++ putS n k).size = t.size + k.toNat := by rw [ByteArray.size_append, putS_size h]
  have he : getE (t ++ putS n k) t.size k = 0 := by
    unfold getE; rw [if_pos ⟨h1, h8, by omega⟩, if_pos (by rw [hsz]; omega)]
  refine ⟨he, ?_, by simp [getT, he]⟩
  have hx : (t ++ putS n k).data.toList = t.data.toList ++ (putL n.toNat k.toNat ++ []) := by rw [ba_append_list, putS_ok h]; simp
  have hc := cutL_mid _ _ _ _ hx
  rw [putL_length, ba_len] at hc
  simp only [getN, he, if_pos, Int.toNat_natCast, hc, getL_putL]
  rw [Nat.mod_eq_of_lt hlt]; omega
/-- what is got at the beginning, put, is the beginning -/
theorem put_get (s : ByteArray) (k : Int) (h : getE s 0 k = 0) :
    putOk (getN s 0 k) k = true ∧ putS (getN s 0 k) k = s.extract 0 k.toNat ∧ k.toNat ≤ s.size := by
  obtain ⟨h1, h8, _, hk⟩ := getE_ok h
  obtain ⟨j, rfl⟩ := Int.eq_ofNat_of_zero_le (show 0 ≤ k by omega)
  have hN : getN s 0 j = (getL (cutL s 0 j) : Nat) := by simp [getN, h]
  have hl : (cutL s 0 j).length = j := cutL_length s 0 j (by omega)
  have hok : putOk (getN s 0 j) j = true := by
    rw [hN]
    refine decide_eq_true ⟨h1, h8, ?_⟩
    have := getL_lt (cutL s 0 j)
    rw [hl] at this
    simpa using this
  refine ⟨hok, ?_, by omega⟩
  rw [putS_ok hok, hN, ba_extract]
  simp only [Int.toNat_natCast]
  have := putL_getL (cutL s 0 j)
  rw [hl] at this
  rw [this]
  simp [cutL]
/-- a text in the midst of bytes is cut there -/
theorem cut_text (x s : ByteArray) (pre post : List UInt8) (hs : s.size ≤ 65535) (hx : x.data.toList = pre ++ ((textL s).data.toList ++ post)) :
    cutE x pre.length = 0 ∧ cutS x pre.length = s ∧ cutT x pre.length = pre.length + 2 + s.size := by
  have hx1 : x.data.toList = pre ++ (putL s.size 2 ++ (s.data.toList ++ post)) := by rw [hx]; simp [textL]
  have hc2 := cutL_mid _ _ _ _ hx1
  rw [putL_length] at hc2
  have hsz := size_mid _ _ _ _ hx1
  rw [putL_length, List.length_append, ba_len] at hsz
  have hg : getE x pre.length 2 = 0 := by
    unfold getE; rw [if_pos ⟨by omega, by omega, by omega⟩, if_pos (by omega)]
  have hL : getL (putL s.size 2) = s.size := by rw [getL_putL]; exact Nat.mod_eq_of_lt (by omega)
  have hN : getN x pre.length 2 = s.size := by
    simp only [getN, hg, if_pos, Int.toNat_natCast]
    show ((getL (cutL x pre.length 2) : Nat) : Int) = _
    rw [hc2, hL]
  have hE : cutE x pre.length = 0 := by
    unfold cutE; rw [if_neg (by omega), hN, if_pos (by omega)]
  refine ⟨hE, ?_, by unfold cutT; rw [if_pos hE, hN]⟩
  unfold cutS
  rw [if_pos hE]
  simp only [Int.toNat_natCast]
  rw [hc2, hL]
  have hx2 : x.data.toList = (pre ++ putL s.size 2) ++ (s.data.toList ++ post) := by rw [hx1]; simp
  have hc3 := cutL_mid _ _ _ _ hx2
  rw [List.length_append, putL_length, ba_len] at hc3
  rw [hc3, ← ba_eq]
theorem getN_nonneg (s : ByteArray) (p k : Int) : 0 ≤ getN s p k := by unfold getN; split <;> omega
theorem getN_le (s : ByteArray) (p k : Int) : getN s p k ≤ 18446744073709551615 := by
  unfold getN
  split
  · rename_i h
    obtain ⟨h1, h8, _, _⟩ := getE_ok h
    have h2 := getL_lt (cutL s p.toNat k.toNat)
    have h3 : (cutL s p.toNat k.toNat).length ≤ k.toNat := List.length_take_le _ _
    have h4 : 256 ^ (cutL s p.toNat k.toNat).length ≤ 256 ^ 8 := Nat.pow_le_pow_right (by omega) (by omega)
    rw [pow256_8] at h4
    omega
  · omega
end Go.Proofs.Ytblbjmjoiaiimaa
