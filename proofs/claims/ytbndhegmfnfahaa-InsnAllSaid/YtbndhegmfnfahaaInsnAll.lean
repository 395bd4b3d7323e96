/- insn.All. -/
import Derived.Test.YtbndhegmfnfahaaInsnRow
import Derived.Test.YtbndhegmfnfahaaBuilder
import Derived.Outline
namespace Go.Proofs.Ytbndhegmfnfahaa
open Go.RowKit
set_option linter.unusedVariables false

/-- the bytes of a filter -/
def allL (l : List Ins) : List UInt8 := l.flatMap fun i => i.bytes.data.toList
theorem allL_len (l : List Ins) : (allL l).length = 8 * l.length := by
  induction l with
  | nil => rfl
  | cons i l ih => rw [allL, List.flatMap_cons, List.length_append, ← allL, ih, ba_len, Ins.bytes_size, List.length_cons]; omega
def allFit (l : List Ins) : Prop := ∀ i ∈ l, i.fits
instance (l : List Ins) : Decidable (allFit l) := by unfold allFit; exact inferInstance
def insAllE (l : List Ins) : Int := if 4096 < l.length then 2 else if allFit l then 0 else 1
def insAllS (l : List Ins) : ByteArray := if insAllE l = 0 then ⟨(allL l).toArray⟩ else ⟨#[]⟩
theorem allL_snoc (l : List Ins) (k : Nat) (h : k < l.length) : allL (l.take (k + 1)) = allL (l.take k) ++ (l.getD k insZ).bytes.data.toList := by
  have hg : l.getD k insZ = l[k] := by simp [List.getD, h]
  rw [← List.take_append_getElem h, allL, List.flatMap_append, hg]
  simp [allL]
theorem getD_mem (l : List Ins) (k : Nat) (h : k < l.length) : l.getD k insZ ∈ l := by
  rw [show l.getD k insZ = l[k] from by simp [List.getD, h]]
  exact List.getElem_mem h

set_option maxRecDepth 100000 in
set_option maxHeartbeats 1000000 in
theorem insnAll_few (l : List Ins) (v : Value) (w : World) (hv : IsInsns w v l) (hl : l.length ≤ 4096) :
    Calls Try.prog 50 #[v] w fun e w' => e = .returned (.tuple #[.string (insAllS l), .int .i64 (insAllE l)]) ∧ Below w.heap.size w w' := by
  obtain ⟨a, len, cap, rfl, hlen, hc1, hc2, hbd, hat⟩ := hv
  have hl2 : len ≤ 4096 := by omega
  have hl3 : (len : Int) ≤ 4096 := by omega
  have hat' : len = 0 ∨ ∃ b off, a = some ⟨b, off, none⟩ ∧ b < w.heap.size ∧ ∀ i, i < len → InsAt w b (off + i * 4) (l.getD i insZ) := hat
  have HAT := Lib.hid hat'
  have HLEN := Lib.hid hlen
  have HBD := Lib.hid (fun i (hi : i < len) => hbd _ (getD_mem l i (by omega)))
  have hE : insAllE l = if allFit l then 0 else 1 := by unfold insAllE; rw [if_neg (by omega)]
  have HE := Lib.hid hE
  clear hat hat' hlen hbd hE hl
  go_enter Try.func50, Try.ntmps50
  go_wp2_with fail
  have h0 : Lib.IsBuilder 87 5 w.heap.size w.heap.size [] (w.alloc (.cells #[.pointer none, .slice none 0 0] 87)) := Lib.fresh_isBuilder 87 5 w
  have b0 : Below w.heap.size w (w.alloc (.cells #[.pointer none, .slice none 0 0] 87)) := (Below.refl _ w).alloc (Nat.le_refl _) _
  have H0 := Lib.hid h0
  clear h0
  go_loopw [14] (fun c wr => ∃ k : Nat, k ≤ len ∧ c = .int .i64 k ∧ allFit (l.take k) ∧ Lib.IsBuilder 87 5 w.heap.size w.heap.size (Lib.byteCells (allL (l.take k))) wr ∧ Below w.heap.size w wr) (fun c _ => len - (intOf c).toNat)
  case atStart => exact ⟨0, by omega, rfl, by simp [allFit], H0.out, b0⟩
  case round =>
    clear H0 b0
    obtain ⟨k, hk, rfl, hfit, hbl, hwr⟩ := hrel
    by_cases hlt : k < len
    · have hat := HAT.out.resolve_left (by omega)
      obtain ⟨b, off, rfl, hb, hat⟩ := hat
      have hin := (hat k hlt).below hwr hb
      have hbd := HBD.out k hlt
      obtain ⟨x, ex⟩ : ∃ x, x = l.getD k insZ := ⟨_, rfl⟩
      rw [← ex] at hin hbd
      obtain ⟨c0, c1, c2, c3⟩ := hin
      have HP := Lib.hid (fun u => insnPut_any x u hbd)
      have HX := Lib.hid ex
      have HF := Lib.hid hfit
      have HBL := Lib.hid hbl
      clear ex hfit hat hbl hbd
      obtain ⟨xc, xt, xf, xk⟩ := x
      simp only [Ins.value] at HP
      dsimp only at c0 c1 c2 c3
      go_wp2_with fail
      refine (HP.out _).mono ?_
      rintro e w1 ⟨rfl, hb1⟩
      have HBL1 := Lib.hid (bldBelow (bldBelow HBL.out ((Below.refl wr.heap.size wr).alloc (Nat.le_refl _) (.cells #[.int .i64 xc, .int .i64 xt, .int .i64 xf, .int .u32 xk] 55))) hb1)
      have hw1 : Below w.heap.size w w1 := (hwr.alloc hwr.size _).trans (hb1.mono (by have := hwr.size; simp; omega))
      clear hb1 HBL c0 c1 c2 c3 hwr
      have hsz := HX.out
      by_cases hx : Ins.fits ⟨xc, xt, xf, xk⟩
      · have e1 : insPutS ⟨xc, xt, xf, xk⟩ = Ins.bytes ⟨xc, xt, xf, xk⟩ := by unfold insPutS; rw [if_pos hx]
        have e2 : insPutE ⟨xc, xt, xf, xk⟩ = 0 := by unfold insPutE; rw [if_pos hx]
        rw [e1, e2]
        clear e1 e2 hsz
        have HFX := Lib.hid hx
        clear hx
        have hz := Ins.bytes_size ⟨xc, xt, xf, xk⟩
        have HZ := Lib.hid hz
        clear hz
        have HSN := Lib.hid (allL_snoc l k (by have := HLEN.out; omega))
        go_wp2_with fail
        refine (bldWrite _ _ _ _ _ HBL1.out (by rw [Lib.byteCells_length, allL_len, HZ.out]; have : (l.take k).length ≤ k := List.length_take_le _ _; omega) hw1.size).mono ?_
        rintro e w2 ⟨rfl, hbl2, hb2⟩
        have hbl3 : Lib.IsBuilder 87 5 w.heap.size w.heap.size (Lib.byteCells (allL (l.take (k + 1)))) w2 := by
          rw [HSN.out, ← HX.out, Lib.byteCells_append, ← Lib.strCells_eq]
          exact Or.inr hbl2
        have HB3 := Lib.hid hbl3
        have hw2 := hw1.trans hb2
        clear hbl2 hbl3 hb2 hw1 HBL1
        go_wp2_with fail
        go_roundw
        case rel =>
          refine ⟨k + 1, by omega, by go_num, ?_, HB3.out, hw2⟩
          intro i hi
          rw [← List.take_append_getElem (by have := HLEN.out; omega), List.mem_append, List.mem_singleton] at hi
          rcases hi with hi | rfl
          · exact HF.out i hi
          · have := HFX.out
            rw [HX.out] at this
            rwa [show l.getD k insZ = l[k]'(by have := HLEN.out; omega) from by simp [List.getD, show k < l.length by have := HLEN.out; omega]] at this
        case measure => simp [intOf]; omega
      · have e1 : insPutS ⟨xc, xt, xf, xk⟩ = ⟨#[]⟩ := by unfold insPutS; rw [if_neg hx]
        have e2 : insPutE ⟨xc, xt, xf, xk⟩ = 1 := by unfold insPutE; rw [if_neg hx]
        have e3 : ¬ allFit l := fun h => hx (by rw [hsz]; exact h _ (getD_mem l k (by have := HLEN.out; omega)))
        have e4 : insAllE l = 1 := by rw [HE.out, if_neg e3]
        have HE4 := Lib.hid e4
        rw [e1, e2]
        clear e1 e2 e3 e4 hsz hx
        go_wp2_with fail
        go_ret2
        refine ⟨?_, hw1⟩
        unfold insAllS
        rw [HE4.out]
        rfl
    · obtain rfl : k = len := by omega
      have hall : l.take k = l := List.take_of_length_le (by have := HLEN.out; omega)
      rw [hall] at hfit hbl
      have e4 : insAllE l = 0 := by rw [HE.out, if_pos hfit]
      have HE4 := Lib.hid e4
      have HBL := Lib.hid hbl
      clear e4 hall hfit hbl HAT
      go_wp2_with fail
      refine (Try.Builder_String_any w.heap.size w.heap.size (allL l) _ HBL.out hwr.size).mono ?_
      rintro e w2 ⟨rfl, hb2⟩
      go_wp2_with fail
      go_ret2
      refine ⟨?_, hwr.trans hb2⟩
      unfold insAllS
      rw [HE4.out]
      rfl

theorem insnAll_any (l : List Ins) (v : Value) (w : World) (hv : IsInsns w v l) :
    Calls Try.prog 50 #[v] w fun e w' => e = .returned (.tuple #[.string (insAllS l), .int .i64 (insAllE l)]) ∧ Below w.heap.size w w' := by
  by_cases hl : l.length ≤ 4096
  · exact insnAll_few l v w hv hl
  · obtain ⟨a, len, cap, rfl, hlen, hc1, hc2, hbd, hat⟩ := hv
    have e1 : insAllE l = 2 := by unfold insAllE; rw [if_pos (by omega)]
    have e2 : insAllS l = ⟨#[]⟩ := by unfold insAllS; rw [e1]; rfl
    rw [e1, e2]
    have hgt : (4096 : Int) < len := by omega
    clear e1 e2 hat hbd hlen hl
    go_enter Try.func50, Try.ntmps50
    go_wp2_with fail
    go_ret2
    exact ⟨rfl, Below.refl _ _⟩
end Go.Proofs.Ytbndhegmfnfahaa
