/- slices.Repeat of one bool. -/
import Derived.Test.YthnmnnlbglpjaaaDoorDiskW
import Derived.Test.YthnmnnlbglpjaaaDoorShelf
import Derived.Laws.CopyOwn
import Derived.Deep.RegionLaw
namespace Go.Proofs.YthnmnnlbglpjaaaDoor
open Go.RowKit
set_option linter.unusedVariables false

def rowT (n k : Nat) : List Value := List.replicate n (.bool true) ++ List.replicate (k - n) (.bool false)
theorem rowT_zero (k : Nat) : (falses k).map Value.bool = rowT 0 k := by simp [falses, rowT]
theorem rowT_len (n k : Nat) (h : n ≤ k) : (rowT n k).length = k := by simp [rowT]; omega
theorem rowT_splice (n c k : Nat) (h : n + c ≤ k) : splice (rowT n k) n (List.replicate c (Value.bool true)) = rowT (n + c) k := by
  have h1 : (rowT n k).take n = List.replicate n (.bool true) := by unfold rowT; rw [List.take_left' (by simp)]
  have h2 : (rowT n k).drop (n + c) = List.replicate (k - (n + c)) (.bool false) := by
    unfold rowT
    rw [List.drop_append]
    simp only [List.length_replicate, List.drop_replicate]
    rw [show n - (n + c) = 0 by omega, show k - n - (n + c - n) = k - (n + c) by omega]
    rfl
  unfold splice
  rw [h1, List.length_replicate, h2, ← List.append_assoc, List.replicate_append_replicate]
  rfl
theorem rowT_full (k : Nat) : rowT k k = (List.replicate k true).map Value.bool := by simp [rowT]
def copied (c : Nat) : List Value := List.replicate c (.bool true)
theorem copied_at (n c k : Nat) (h : c ≤ n) (h2 : n ≤ k) : ∀ (j : Nat) (u : Value), (copied c)[j]? = some u → (rowT n k)[j]? = some u := by
  intro j u hj
  unfold copied at hj
  rw [List.getElem?_replicate] at hj
  split at hj
  · cases hj
    unfold rowT
    rw [List.getElem?_append_left (by simp; omega), List.getElem?_replicate, if_pos (by omega)]
  · cases hj
theorem copied_len (c : Nat) : (copied c).length = c := by simp [copied]
theorem copied_one (c : Nat) : ∀ v ∈ copied c, v.oneCell' = true := fun v hv => by rw [List.eq_of_mem_replicate hv]; rfl
theorem copied_get (c : Nat) (j : Nat) (u : Value) (h : (copied c)[j]? = some u) : j < c ∧ u = .bool true := by
  unfold copied at h
  rw [List.getElem?_replicate] at h
  split at h
  · cases h; exact ⟨by assumption, rfl⟩
  · cases h
theorem rowT_step (n c k : Nat) (h : n + c ≤ k) : splice (rowT n k) n (copied c) = rowT (n + c) k := rowT_splice n c k h
set_option maxRecDepth 100000 in
set_option maxHeartbeats 500000 in
theorem repeat_any (k b : Nat) (w : World) (hb : w.heap[b]? = some (.cells #[.bool true] 4 (0, 0))) (hk : k ≤ 1000) :
    Calls Tryd.prog 71 #[.slice (some ⟨b, 0, none⟩) 1 1, .int .i64 k] w fun e w' => ∃ v', e = .returned v' ∧ IsBools w' v' (List.replicate k true) ∧ Below w.heap.size w w' := by
  have hkI : (k : Int) ≤ 1000 := by omega
  have hm := fun u => Tryd.bits_Mul 1 k (by omega) (by omega) u
  rw [show 1 * k / 18446744073709551616 = 0 by omega, show 1 * k % 18446744073709551616 = k by omega] at hm
  have hmk := make_bls k (by omega)
  rw [rowT_zero] at hmk
  have hm2 : ∀ u : World, Calls Tryd.prog 79 #[.int .u64 (1 : Nat), .int .u64 (k : Nat)] u fun e w' => e = .returned (.tuple #[.int .u64 (0 : Nat), .int .u64 (k : Nat)]) ∧ u = w' := fun u => (hm u).mono (fun e w' h => And.intro h.1 h.2.symm)
  have HM := Lib.hid hm2
  have hlt := (Array.getElem?_eq_some_iff.1 hb).1
  clear hm hm2
  go_enter Tryd.func71, Tryd.ntmps71
  have hbel := (Below.refl w.heap.size w).alloc (Nat.le_refl _) (.cells (rowT 0 k).toArray 4)
  have hg := heap_alloc_new w (.cells (rowT 0 k).toArray 4)
  have hb2 := (heap_alloc_old w (.cells (rowT 0 k).toArray 4) hlt).trans hb
  have HG := Lib.hid hg
  obtain ⟨c, hc⟩ : ∃ c, min 1 k = c := ⟨_, rfl⟩
  have HCc := Lib.hid hc
  clear hg hc
  have hn : (copied c).length = Nat.min 1 k := by rw [copied_len, ← HCc.out]
  have hpos : ∀ j v, (copied c)[j]? = some v → (w.alloc (.cells (rowT 0 k).toArray 4)).cell? ((⟨b, 0, none⟩ : Addr).add j) = some v := fun j v hj => by
    obtain ⟨h1, rfl⟩ := copied_get c j v hj
    have := HCc.out
    obtain rfl : j = 0 := by omega
    rw [addr_add, cell_of_row _ _ _ _ _ _ hb2]
    rfl
  have hfit : 0 + (copied c).length ≤ (rowT 0 k).length := by have := HCc.out; rw [copied_len, rowT_len 0 k (Nat.zero_le _)]; omega
  have HL := Lib.hid hn; have HP := Lib.hid hpos; have HF := Lib.hid hfit; have HB := Lib.hid hbel
  clear hn hpos hfit hbel hb2
  go_wp2_with (first | (go_at_call 79; refine (HM.out _).mono ?_; rintro e w' ⟨rfl, rfl⟩) | (with_reducible refine wpList_copy_splice rfl (.tmp 31) (.tmp 32) 116 116 rfl 4 Tryd.underlying116 (by kernel_rfl) _ _ _ _ _ _ rfl rfl w.heap.size 0 (rowT 0 k) 4 HG.out (copied c) HL.out (fun _ => ⟨rfl, _, rfl, HP.out⟩) HF.out (copied_one _) w.heap.size w HB.out (Nat.le_refl _) ?_))
  intro w2 hg2 hbel2
  have h2 : splice (rowT 0 k) 0 (copied c) = rowT c k := by
    have := HCc.out
    have h := rowT_step 0 c k (by omega)
    rwa [Nat.zero_add] at h
  rw [copied_len]
  rw [h2] at hg2
  have HG2 := Lib.hid hg2
  clear h2 hg2
  go_wp2_with fail
  go_loopw [8] (fun z wr => ∃ n : Nat, n ≤ k ∧ min 1 k ≤ n ∧ z = .int .i64 n ∧ wr.heap[w.heap.size]? = some (.cells (rowT n k).toArray 4 (0, 0)) ∧ Below w.heap.size w wr) (fun z _ => k - (intOf z).toNat)
  case atStart => exact ⟨c, by have := HCc.out; omega, by have := HCc.out; omega, rfl, HG2.out, hbel2⟩
  case round =>
    clear HG2 hbel2
    obtain ⟨n, hn, hn1, rfl, hgr, hbw⟩ := hrel
    by_cases hlt : n < k
    · have hltI : (n : Int) < k := by omega
      obtain ⟨e, he⟩ : ∃ e, min n (k - n) = e := ⟨_, rfl⟩
      have he1 : 1 ≤ e := by omega
      have hkn : ¬ k = n := by omega
      have hek : n + e ≤ k := by omega
      have hen : e ≤ n := by omega
      have hnI : (n : Int) ≤ 1000 := by omega
      have heI : (e : Int) ≤ 1000 := by omega
      have heq : (copied e).length = Nat.min n (k - n) := by rw [copied_len, ← he]
      have hpos : ∀ j v, (copied e)[j]? = some v → wr.drew.cell? ((⟨w.heap.size, 0, none⟩ : Addr).add j) = some v := fun j v hj => by
        have h := copied_at n e k hen hn j v hj
        rw [addr_add, Nat.zero_add, show wr.drew.cell? ⟨w.heap.size, j, none⟩ = wr.cell? ⟨w.heap.size, j, none⟩ from rfl, cell_of_row _ _ _ _ _ _ hgr]
        simpa using h
      have hfit : n + (copied e).length ≤ (rowT n k).length := by rw [copied_len, rowT_len n k hn]; exact hek
      have hst := rowT_step n e k hek
      have HL := Lib.hid heq; have HP := Lib.hid hpos; have HF := Lib.hid hfit; have HB := Lib.hid hbw.drew; have HGR := Lib.hid hgr; have HST := Lib.hid hst; have HE := Lib.hid he
      clear heq hpos hfit hbw hgr hst he
      have hbi : (Tryd.prog.info? 4).map (·.size) = some 1 := by kernel_rfl
      have HBI := Lib.hid hbi
      clear hbi
      go_wp2_with fail
      go_region_law (refine step_copy_splice (by rfl) (.tmp 41) (.tmp 44) 116 116 (by rfl) 4 Tryd.underlying116 HBI.out (some ⟨w.heap.size, n, none⟩) (some ⟨w.heap.size, 0, none⟩) (k - n) (k - n) n k (by simp [go_sem]) (by simp [go_sem]) w.heap.size n (rowT n k) 4 HGR.out (copied e) HL.out (fun _ => ⟨rfl, _, rfl, HP.out⟩) HF.out (copied_one _) w.heap.size w HB.out (Nat.le_refl _) ?_; rw [copied_len]; intro w4 hg4 hb4)
      have hg5 : w4.heap[w.heap.size]? = some (.cells (rowT (n + e) k).toArray 4 (0, 0)) := by have := hg4.out; rwa [HST.out] at this
      have HG5 := Lib.hid hg5
      clear hg4 hg5
      go_simp
      have hwr : IntKind.i64.wrap ((n : Int) + e) = ((n + e : Nat) : Int) := by
        rw [IntKind.wrap_i64]; omega
      rw [hwr]
      go_roundw
      case rel => exact ⟨_, _, _, _, _, _, _, _, _, _, _, _, _, _, ⟨n + e, hek, by omega, rfl, HG5.out, hb4⟩, rfl⟩
      case measure => simp [intOf]; omega
    · obtain rfl : n = k := by omega
      have hbk : IsBools wr (.slice (some ⟨w.heap.size, 0, none⟩) n n) (List.replicate n true) := by
        have h := hgr
        rw [rowT_full] at h
        have := block_reads1 h (by rw [List.length_replicate]; omega)
        rwa [List.length_replicate] at this
      have HBK := Lib.hid hbk
      clear hbk hgr
      go_wp2_with fail
      go_ret
      exact ⟨_, rfl, HBK.out, hbw⟩
end Go.Proofs.YthnmnnlbglpjaaaDoor
