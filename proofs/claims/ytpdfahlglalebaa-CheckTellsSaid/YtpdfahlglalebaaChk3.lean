/- Which filters are well: the first instruction that is not. -/
import Derived.Test.YtpdfahlglalebaaChk2
namespace Go.Proofs.Ytpdfahlglalebaa
open Go.RowKit Go.ChangeShapes
set_option linter.unusedVariables false

theorem insns_below {w w' : World} {v : Value} {l : List Ins} (h : IsInsns w v l) (hb : Below w.heap.size w w') : IsInsns w' v l := by
  obtain ⟨a, len, cap, rfl, hlen, hc1, hc2, hbd, hat⟩ := h
  refine ⟨a, len, cap, rfl, hlen, hc1, hc2, hbd, hat.imp id ?_⟩
  rintro ⟨b, off, rfl, hlt, hat⟩
  exact ⟨b, off, rfl, Nat.lt_of_lt_of_le hlt hb.size, fun i hi => (hat i hi).below hb hlt⟩
def firstBad (p : Nat → Bool) (n : Nat) : Option Nat := (List.range n).find? fun i => !p i
theorem firstBad_some {p : Nat → Bool} {n k : Nat} (h : k < n) (hk : p k = false) (hb : ∀ j, j < k → p j = true) : firstBad p n = some k := by
  unfold firstBad
  rw [List.find?_eq_some_iff_getElem]
  refine ⟨by rw [hk]; rfl, k, by simpa using h, by simp, fun j hj => ?_⟩
  simp [hb j hj]
theorem firstBad_none {p : Nat → Bool} {n : Nat} (hb : ∀ j, j < n → p j = true) : firstBad p n = none := by
  unfold firstBad
  rw [List.find?_eq_none]
  intro x hx
  rw [hb x (by simpa using hx)]
  decide
theorem firstBad_cases (p : Nat → Bool) (n : Nat) : (firstBad p n = none ∧ ∀ j, j < n → p j = true) ∨ ∃ k, firstBad p n = some k ∧ k < n ∧ p k = false ∧ ∀ j, j < k → p j = true := by
  induction n with
  | zero => exact .inl ⟨rfl, fun j h => by omega⟩
  | succ n ih =>
    rcases ih with ⟨_, h⟩ | ⟨k, _, h1, h2, h3⟩
    · cases hp : p n with
      | true =>
        have : ∀ j, j < n + 1 → p j = true := fun j hj => by
          by_cases e : j = n
          · rw [e]; exact hp
          · exact h j (by omega)
        exact .inl ⟨firstBad_none this, this⟩
      | false => exact .inr ⟨n, firstBad_some (by omega) hp h, by omega, hp, h⟩
    · exact .inr ⟨k, firstBad_some (by omega) h2 h3, by omega, h2, h3⟩
def wellB (l : List Ins) (i : Nat) : Bool := fitsB (l.getD i insZ) && landsB l i
def badV (o : Option Nat) : Value := match o with
  | none => .tuple #[.int .i64 0, .int .i64 0]
  | some k => .tuple #[.int .i64 (k : Int), .int .i64 51]
def wellV (l : List Ins) : Value := if l.length = 0 then .tuple #[.int .i64 0, .int .i64 51] else if 4096 < l.length then .tuple #[.int .i64 0, .int .i64 2] else badV (firstBad (wellB l) l.length)
set_option maxRecDepth 100000 in
set_option maxHeartbeats 1000000 in
theorem chkWell_any (l : List Ins) (v : Value) (w : World) (hl : IsInsns w v l) :
    Calls Try.prog 16 #[graphV v] w fun e w' => e = .returned (wellV l) ∧ Below w.heap.size w w' := by
  have hl0 := hl
  obtain ⟨a, len, cap, rfl, hlen, hcap, hcm, hbd, hat2⟩ := hl
  unfold graphV wellV
  have hcI : (cap : Int) ≤ 9223372036854775807 := by omega
  have hlI : (len : Int) ≤ cap := by omega
  have hw1 := (Below.refl w.heap.size w).alloc (Nat.le_refl _) (Obj.cells #[Value.slice a len cap, Value.func (Fn.func 15) #[] #[]] 41)
  by_cases h0 : len = 0
  · rw [if_pos (by omega)]
    subst h0
    clear hat2 hbd
    go_enter Try.func16, Try.ntmps16
    go_wp2_with fail
    go_ret2
    exact ⟨rfl, hw1⟩
  rw [if_neg (by omega)]
  by_cases hbig : 4096 < len
  · rw [if_pos (by omega)]
    have hbI : (4096 : Int) < len := by omega
    have h0b : ((len : Int) == 0) = false := by rw [beq_eq_false_iff_ne]; omega
    clear hat2 hbd
    go_enter Try.func16, Try.ntmps16
    go_wp2_with fail
    go_ret2
    exact ⟨rfl, hw1⟩
  rw [if_neg (by omega), hlen]
  have hbI : (len : Int) ≤ 4096 := by omega
  have h0b : ((len : Int) == 0) = false := by rw [beq_eq_false_iff_ne]; omega
  obtain ⟨b, off, rfl, hb, hat2⟩ := hat2.resolve_left (by omega)
  obtain ⟨R, hR⟩ : ∃ R, badV (firstBad (wellB l) len) = R := ⟨_, rfl⟩
  rw [hR]
  have HR := Lib.hid hR; have HL := Lib.hid hl0; have HAT := Lib.hid hat2; have HBD := Lib.hid hbd; have HLEN := Lib.hid hlen
  have hg1 := heap_alloc_new w (Obj.cells #[Value.slice (some ⟨b, off, none⟩) len cap, Value.func (Fn.func 15) #[] #[]] 41)
  have HW1 := Lib.hid hw1
  have HG := Lib.hid hg1
  clear hR hl0 hat2 hbd hlen hw1 hg1 h0 hbig
  go_enter Try.func16, Try.ntmps16
  go_wp2_with fail
  go_loopw [17] (fun z wr => ∃ j : Nat, z = .int .i64 j ∧ j ≤ len ∧ (∀ k, k < j → wellB l k = true) ∧ Below w.heap.size w wr ∧ wr.heap[w.heap.size]? = some (.cells #[Value.slice (some ⟨b, off, none⟩) len cap, Value.func (Fn.func 15) #[] #[]] 41 (0, 0))) (fun z _ => len - (intOf z).toNat)
  case atStart => exact ⟨0, rfl, by omega, fun k h => by omega, HW1.out, HG.out⟩
  case round =>
    obtain ⟨j, rfl, hj, hall, hwr, hgr⟩ := hrel
    have q0 := below_cell (Below.refl _ wr) hgr 0 rfl
    have q1 := below_cell (Below.refl _ wr) hgr 1 rfl
    have HALL := Lib.hid hall; have HGR := Lib.hid hgr; have HWR := Lib.hid hwr
    clear hall
    by_cases hlt : j < len
    · have hi := (HAT.out j hlt).below hwr hb
      have hbi : (l.getD j insZ).bounded := by
        have := HLEN.out
        rw [List.getD_eq_getElem?_getD, List.getElem?_eq_getElem (by omega)]
        exact HBD.out _ (List.getElem_mem _)
      have hfits := fun u => chkFits_any (l.getD j insZ) u hbi
      have hlands := fun u hu (hf : fitsB (l.getD j insZ) = true) => chkLands_any l (.slice (some ⟨b, off, none⟩) len cap) j u hu (by have := HLEN.out; omega) (by have := HLEN.out; omega) hf
      unfold graphV at hlands
      have hwb : wellB l j = (fitsB (l.getD j insZ) && landsB l j) := rfl
      generalize landsB l j = L at *
      generalize l.getD j insZ = i at *
      obtain ⟨c, jt, jf, k⟩ := i
      unfold Ins.value at hfits
      obtain ⟨c0, c1, c2, c3⟩ := hi
      dsimp only at hfits c0 c1 c2 c3
      generalize fitsB ⟨c, jt, jf, k⟩ = F at *
      have hjI : (j : Int) < len := by omega
      have HF := Lib.hid hfits; have HLA := Lib.hid hlands; have HWB := Lib.hid hwb
      clear hfits hlands hwb hbi hgr
      go_upto_region 8 with fail
      have hA := heap_alloc_new wr (Obj.cells #[.int .i64 c, .int .i64 jt, .int .i64 jf, .int .u32 k] 38)
      have hG := (heap_alloc_old wr (Obj.cells #[.int .i64 c, .int .i64 jt, .int .i64 jf, .int .u32 k] 38) (lt_of_block HGR.out)).trans HGR.out
      have hWA := hwr.alloc hwr.size (Obj.cells #[.int .i64 c, .int .i64 jt, .int .i64 jf, .int .u32 k] 38)
      clear c0 c1 c2 c3 q0 q1 hwr
      generalize wr.alloc (Obj.cells #[.int .i64 c, .int .i64 jt, .int .i64 jf, .int .u32 k] 38) = wA at *
      have i0 := below_cell (Below.refl _ wA) hA 0 rfl
      have i1 := below_cell (Below.refl _ wA) hA 1 rfl
      have i2 := below_cell (Below.refl _ wA) hA 2 rfl
      have i3 := below_cell (Below.refl _ wA) hA 3 rfl
      have HG2 := Lib.hid hG; have HWA := Lib.hid hWA
      clear hA hG hWA
      go_wp2_with fail
      refine (HF.out _).mono ?_
      rintro e w2 ⟨rfl, hb2⟩
      have hG2 := (hb2.block _ (lt_of_block HG2.out)).trans HG2.out
      have hW2 := HWA.out.trans (hb2.mono HWA.out.size)
      have p0 := below_cell (Below.refl _ w2) hG2 0 rfl
      have p1 := below_cell (Below.refl _ w2) hG2 1 rfl
      have HG3 := Lib.hid hG2; have HW2 := Lib.hid hW2
      clear hb2 hG2 hW2 i0 i1 i2 i3
      cases F with
      | false =>
        have hE : R = .tuple #[.int .i64 (j : Int), .int .i64 51] := by
          rw [← HR.out, firstBad_some hlt HWB.out HALL.out]; rfl
        subst hE
        clear HR
        go_wp2_with fail
        go_ret2
        exact ⟨rfl, HW2.out⟩
      | true =>
        go_wp2_with fail
        refine (HLA.out _ (insns_below HL.out HW2.out) trivial).mono ?_
        rintro e w3 ⟨rfl, hb3⟩
        have HG4 := Lib.hid ((hb3.block _ (lt_of_block HG3.out)).trans HG3.out)
        have HW3 := Lib.hid (HW2.out.trans (hb3.mono HW2.out.size))
        clear hb3 p0 p1
        cases L with
        | false =>
          have hE : R = .tuple #[.int .i64 (j : Int), .int .i64 51] := by
            rw [← HR.out, firstBad_some hlt HWB.out HALL.out]; rfl
          subst hE
          clear HR
          go_wp2_with fail
          go_ret2
          exact ⟨rfl, HW3.out⟩
        | true =>
          go_wp2_with fail
          go_roundw
          case rel => exact ⟨j + 1, by go_num, by omega, fun k hk => by
            by_cases e : k = j
            · rw [e]; exact HWB.out
            · exact HALL.out k (by omega), HW3.out, HG4.out⟩
          case measure => simp [intOf]; omega
    · obtain rfl : j = len := by omega
      have hE : R = .tuple #[.int .i64 0, .int .i64 0] := by
        rw [← HR.out, firstBad_none HALL.out]; rfl
      subst hE
      clear HR
      go_wp2_with fail
      go_ret2
      exact ⟨rfl, hwr⟩
end Go.Proofs.Ytpdfahlglalebaa
