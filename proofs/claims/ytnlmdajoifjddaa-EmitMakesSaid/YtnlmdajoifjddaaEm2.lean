/- emit's writer: what it adds. -/
import Derived.Test.YtnlmdajoifjddaaEm1
import Derived.Test.YtnlmdajoifjddaaInsOwn
import Derived.StillTailTactics
namespace Go.Proofs.Ytnlmdajoifjddaa
open Go.RowKit
set_option linter.unusedVariables false

/-- the writer in memory -/
structure Wr (w : World) (gW gI gM N : Nat) (s : Asm) : Prop where
  wr : w.heap[gW]? = some (.cells #[.slice (some ⟨gI, 0, none⟩) N N, .int .i64 ((N - s.c.length : Nat) : Int), .map (some gM)] 50 (0, 0))
  ins : w.heap[gI]? = some (.cells (insCells (List.replicate (N - s.c.length) insZ ++ s.c)).toArray 44 (0, 0))
  mp : HoldsMap i64Keys w gM (fun T => (s.env T).map fun e => .int .i64 ((N - e : Nat) : Int))
  len : s.c.length ≤ N
  ok : s.ok
  neI : gI ≠ gW
  neM : gM ≠ gW
  neN : gM ≠ gI
/-- all other blocks are as they were -/
def KeepW (gW gI gM : Nat) (u u' : World) : Prop := u.heap.size ≤ u'.heap.size ∧ (∀ b0 w0, b0 ≤ gW → b0 ≤ gI → b0 ≤ gM → Below b0 w0 u → Below b0 w0 u') ∧ ∀ g, g ≠ gW → g ≠ gI → g ≠ gM → g < u.heap.size → u'.heap[g]? = u.heap[g]?
theorem KeepW.refl (gW gI gM : Nat) (u : World) : KeepW gW gI gM u u := ⟨Nat.le_refl _, fun _ _ _ _ _ h => h, fun _ _ _ _ _ => rfl⟩
theorem KeepW.trans {gW gI gM : Nat} {a b c : World} (h : KeepW gW gI gM a b) (k : KeepW gW gI gM b c) : KeepW gW gI gM a c :=
  ⟨Nat.le_trans h.1 k.1, fun b0 w0 h1 h2 h3 hb => k.2.1 b0 w0 h1 h2 h3 (h.2.1 b0 w0 h1 h2 h3 hb), fun g h1 h2 h3 hlt => (k.2.2 g h1 h2 h3 (Nat.lt_of_lt_of_le hlt h.1)).trans (h.2.2 g h1 h2 h3 hlt)⟩
theorem KeepW.set {gW gI gM : Nat} {u u' : World} (h : KeepW gW gI gM u u') {g : Nat} (hg : g = gW ∨ g = gI) (j : Nat) (v : Value) : KeepW gW gI gM u (u'.setCell ⟨g, j, none⟩ v) :=
  ⟨by rw [World.size_setCell]; exact h.1, fun b0 w0 h1 h2 h3 hb => (h.2.1 b0 w0 h1 h2 h3 hb).setCell (p := ⟨g, j, none⟩) (by show b0 ≤ g; rcases hg with rfl | rfl <;> assumption) v,
    fun k h1 h2 h3 hlt => (Below.heap_setCell u' ⟨g, j, none⟩ v k (by show k ≠ g; rcases hg with rfl | rfl <;> assumption)).trans (h.2.2 k h1 h2 h3 hlt)⟩
theorem KeepW.drew {gW gI gM : Nat} {u u' : World} (h : KeepW gW gI gM u u') : KeepW gW gI gM u u'.drew := ⟨h.1, fun b0 w0 h1 h2 h3 hb => (h.2.1 b0 w0 h1 h2 h3 hb).drew, h.2.2⟩
theorem KeepW.alloc {gW gI gM : Nat} {u u' : World} (h : KeepW gW gI gM u u') (hI : gI < u.heap.size) (o : Obj) : KeepW gW gI gM u (u'.alloc o) :=
  ⟨Nat.le_trans h.1 (by simp), fun b0 w0 h1 h2 h3 hb => (h.2.1 b0 w0 h1 h2 h3 hb).alloc (by have := h.1; omega) o, fun k h1 h2 h3 hlt => (heap_alloc_old u' o (Nat.lt_of_lt_of_le hlt h.1)).trans (h.2.2 k h1 h2 h3 hlt)⟩
theorem Wr.alloc {w : World} {gW gI gM N : Nat} {s : Asm} (h : Wr w gW gI gM N s) (o : Obj) : Wr (w.alloc o) gW gI gM N s :=
  ⟨(heap_alloc_old w o (lt_of_block h.wr)).trans h.wr, (heap_alloc_old w o (lt_of_block h.ins)).trans h.ins, h.mp.alloc o, h.len, h.ok, h.neI, h.neM, h.neN⟩
theorem Wr.drew {w : World} {gW gI gM N : Nat} {s : Asm} (h : Wr w gW gI gM N s) : Wr w.drew gW gI gM N s := ⟨h.wr, h.ins, h.mp.drew, h.len, h.ok, h.neI, h.neM, h.neN⟩
theorem Wr.below {w w' : World} {gW gI gM N : Nat} {s : Asm} (h : Wr w gW gI gM N s) (hb : Below w.heap.size w w') : Wr w' gW gI gM N s :=
  ⟨(hb.block _ (lt_of_block h.wr)).trans h.wr, (hb.block _ (lt_of_block h.ins)).trans h.ins, h.mp.of_block (hb.block _ h.mp.lt), h.len, h.ok, h.neI, h.neM, h.neN⟩
theorem ins_set4 (p : Nat) (c : List Ins) (i : Ins) :
    ((((insCells (List.replicate (p + 1) insZ ++ c)).toArray.setIfInBounds (p * 4) (.int .i64 i.code)).setIfInBounds (p * 4 + 1) (.int .i64 i.jt)).setIfInBounds (p * 4 + 2) (.int .i64 i.jf)).setIfInBounds (p * 4 + 3) (.int .u32 i.k) =
      (insCells (List.replicate p insZ ++ i :: c)).toArray := by
  have e1 : insCells (List.replicate (p + 1) insZ ++ c) = insCells (List.replicate p insZ) ++ (insZ.cells ++ insCells c) := by
    rw [List.replicate_succ', List.append_assoc]
    simp [insCells]
  have e2 : insCells (List.replicate p insZ ++ i :: c) = insCells (List.replicate p insZ) ++ (i.cells ++ insCells c) := by simp [insCells]
  have hl : (insCells (List.replicate p insZ)).length = p * 4 := by rw [insCells_len, List.length_replicate]
  rw [e1, e2]
  generalize insCells (List.replicate p insZ) = A at *
  generalize insCells c = C
  obtain ⟨cc, jt, jf, k⟩ := i
  apply Array.toList_inj.1
  simp only [List.setIfInBounds_toArray, Ins.cells, insZ]
  rw [List.set_append_right _ _ (by omega), show p * 4 - A.length = 0 by omega]
  rw [List.set_append_right _ _ (by omega), show p * 4 + 1 - A.length = 1 by omega]
  rw [List.set_append_right _ _ (by omega), show p * 4 + 2 - A.length = 2 by omega]
  rw [List.set_append_right _ _ (by omega), show p * 4 + 3 - A.length = 3 by omega]
  rfl
theorem Wr.added {w : World} {gW gI gM N : Nat} {s : Asm} (h : Wr w gW gI gM N s) (p : Nat) (hp : N = s.c.length + p + 1) (i : Ins) (hi : i.bounded) :
    Wr (((((w.setCell ⟨gW, 1, none⟩ (.int .i64 (p : Int))).setCell ⟨gI, p * 4, none⟩ (.int .i64 i.code)).setCell ⟨gI, p * 4 + 1, none⟩ (.int .i64 i.jt)).setCell ⟨gI, p * 4 + 2, none⟩ (.int .i64 i.jf)).setCell ⟨gI, p * 4 + 3, none⟩ (.int .u32 i.k)) gW gI gM N (s.add i) := by
  have hne := h.neI
  have hw := block_set h.wr 1 (.int .i64 (p : Int))
  have hI0 := (Below.heap_setCell w ⟨gW, 1, none⟩ (.int .i64 (p : Int)) gI (by show gI ≠ gW; exact hne)).trans h.ins
  rw [show N - s.c.length = p + 1 by omega] at hI0
  have hI4 := block_set (block_set (block_set (block_set hI0 (p * 4) (.int .i64 i.code)) (p * 4 + 1) (.int .i64 i.jt)) (p * 4 + 2) (.int .i64 i.jf)) (p * 4 + 3) (.int .u32 i.k)
  rw [ins_set4] at hI4
  have hlen : (s.add i).c.length = s.c.length + 1 := rfl
  have hoth : ∀ g, g ≠ gI → (((((w.setCell ⟨gW, 1, none⟩ (.int .i64 (p : Int))).setCell ⟨gI, p * 4, none⟩ (.int .i64 i.code)).setCell ⟨gI, p * 4 + 1, none⟩ (.int .i64 i.jt)).setCell ⟨gI, p * 4 + 2, none⟩ (.int .i64 i.jf)).setCell ⟨gI, p * 4 + 3, none⟩ (.int .u32 i.k)).heap[g]? = (w.setCell ⟨gW, 1, none⟩ (.int .i64 (p : Int))).heap[g]? := fun g hg =>
    (Below.heap_setCell _ ⟨gI, p * 4 + 3, none⟩ _ g hg).trans ((Below.heap_setCell _ ⟨gI, p * 4 + 2, none⟩ _ g hg).trans ((Below.heap_setCell _ ⟨gI, p * 4 + 1, none⟩ _ g hg).trans (Below.heap_setCell _ ⟨gI, p * 4, none⟩ _ g hg)))
  refine ⟨?_, ?_, ?_, by rw [hlen]; omega, Asm.add_ok h.ok hi, hne, h.neM, h.neN⟩
  · rw [hoth gW hne.symm, hw, hlen, show N - (s.c.length + 1) = p by omega]
    rfl
  · rw [hI4, hlen, show N - (s.c.length + 1) = p by omega]
    rfl
  · refine h.mp.of_block ?_
    rw [hoth gM h.neN]
    exact Below.heap_setCell w ⟨gW, 1, none⟩ _ gM h.neM
set_option maxRecDepth 100000 in
set_option maxHeartbeats 1000000 in
theorem emAdd_any (gW gI gM N : Nat) (s : Asm) (i : Ins) (w : World) (h : Wr w gW gI gM N s) (hlt : s.c.length < N) (hN : N ≤ 1000000) (hi : i.bounded) :
    Calls Try.prog 31 #[.pointer (some ⟨gW, 0, none⟩), i.value] w fun e w' => e = .returned (.bool true) ∧ Wr w' gW gI gM N (s.add i) ∧ KeepW gW gI gM w w' := by
  obtain ⟨p, hp⟩ : ∃ p, N = s.c.length + p + 1 := ⟨N - s.c.length - 1, by omega⟩
  have hA := h.alloc (Obj.cells #[.int .i64 i.code, .int .i64 i.jt, .int .i64 i.jf, .int .u32 i.k] 44)
  have hI := heap_alloc_new w (Obj.cells #[.int .i64 i.code, .int .i64 i.jt, .int .i64 i.jf, .int .u32 i.k] 44)
  have hfin := hA.added p hp i hi
  have hk0 := (KeepW.refl gW gI gM w).alloc (lt_of_block h.ins) (Obj.cells #[.int .i64 i.code, .int .i64 i.jt, .int .i64 i.jf, .int .u32 i.k] 44)
  have hkf := (((((hk0.set (.inl rfl) 1 (.int .i64 (p : Int))).set (.inr rfl) (p * 4) (.int .i64 i.code)).set (.inr rfl) (p * 4 + 1) (.int .i64 i.jt)).set (.inr rfl) (p * 4 + 2) (.int .i64 i.jf)).set (.inr rfl) (p * 4 + 3) (.int .u32 i.k))
  have HF := Lib.hid hfin; have HK := Lib.hid hkf; have HA := Lib.hid hA
  have hne := h.neI
  have hneW : gW < w.heap.size := lt_of_block h.wr
  have hneI2 : gI < w.heap.size := lt_of_block h.ins
  clear hfin hkf hk0 hA
  unfold Ins.value
  go_enter Try.func31, Try.ntmps31
  go_upto_region 1 with fail
  have HI := Lib.hid hI
  clear hI
  generalize w.alloc (Obj.cells #[.int .i64 i.code, .int .i64 i.jt, .int .i64 i.jf, .int .u32 i.k] 44) = w1 at *
  have hwr1 := HA.out.wr
  rw [show N - s.c.length = p + 1 by omega] at hwr1
  have hins1 := HA.out.ins
  rw [show N - s.c.length = p + 1 by omega] at hins1
  have q1 := below_cell (v := .int .i64 ((p : Int) + 1)) (Below.refl _ w1) hwr1 1 rfl
  have f1 := block_frozen hwr1 1
  have hwr2 := block_set hwr1 1 (.int .i64 (p : Int))
  have hI2 := (Below.heap_setCell w1 ⟨gW, 1, none⟩ (.int .i64 (p : Int)) w.heap.size (by show w.heap.size ≠ gW; omega)).trans HI.out
  have hins2 := (Below.heap_setCell w1 ⟨gW, 1, none⟩ (.int .i64 (p : Int)) gI (by show gI ≠ gW; exact hne)).trans hins1
  have hpI : (p : Int) ≤ 1000000 := by omega
  have hpN : (p : Int) < N := by omega
  have HWR2 := Lib.hid hwr2; have HI2 := Lib.hid hI2; have HINS2 := Lib.hid hins2
  have hpl : p < (List.replicate (p + 1) insZ ++ s.c).length := by rw [List.length_append, List.length_replicate]; omega
  have HPL := Lib.hid hpl
  clear hwr1 hins1 hwr2 hI2 hins2 hp hlt hpl
  go_upto_region 2 with fail
  generalize w1.setCell ⟨gW, 1, none⟩ (.int .i64 (p : Int)) = w2 at *
  clear q1 f1
  have q0 := below_cell (v := .slice (some ⟨gI, 0, none⟩) N N) (Below.refl _ w2) HWR2.out 0 rfl
  have q1 := below_cell (v := .int .i64 (p : Int)) (Below.refl _ w2) HWR2.out 1 rfl
  have i0 := below_cell (v := .int .i64 i.code) (Below.refl _ w2) HI2.out 0 rfl
  have i1 := below_cell (v := .int .i64 i.jt) (Below.refl _ w2) HI2.out 1 rfl
  have i2 := below_cell (v := .int .i64 i.jf) (Below.refl _ w2) HI2.out 2 rfl
  have i3 := below_cell (v := .int .u32 i.k) (Below.refl _ w2) HI2.out 3 rfl
  have hz : ∀ j u, j < 4 → insZ.cells[j]? = some u → w2.cell? ⟨gI, p * 4 + j, none⟩ = some u := fun j u hj hu => by
    refine below_cell (Below.refl _ w2) HINS2.out (p * 4 + j) ?_
    rw [List.getElem?_toArray, insCells_at _ p j HPL.out hj]
    rw [show (List.replicate (p + 1) insZ ++ s.c).getD p insZ = insZ from by simp [List.getD, List.getElem?_append_left]]
    exact hu
  have z0 := hz 0 _ (by omega) rfl
  have z1 := hz 1 _ (by omega) rfl
  have z2 := hz 2 _ (by omega) rfl
  have z3 := hz 3 _ (by omega) rfl
  have g0 := block_frozen HINS2.out (p * 4)
  have g1 := block_frozen HINS2.out (p * 4 + 1)
  have g2 := block_frozen HINS2.out (p * 4 + 2)
  have g3 := block_frozen HINS2.out (p * 4 + 3)
  rw [Nat.add_zero] at z0
  clear hz HWR2 HI2 HINS2
  go_still_tail 10, (by kernel_rfl)
  go_wp2_with fail
  go_ret
  exact ⟨rfl, HF.out.drew, HK.out.drew⟩
theorem zeroI (w : World) : (zeroValue 3).run Try.prog w = .ok (.int .i64 0) w := by
  have hi : (Try.prog.info? 3).map (fun i => i.zero) = some (some (.int .i64 0)) := by kernel_rfl
  cases h : Try.prog.info? 3 with
  | none => rw [h] at hi; cases hi
  | some i =>
    rw [h] at hi
    have hz : i.zero = some (.int .i64 0) := by simpa using hi
    simp [zeroValue, typeInfo, h, hz]
def WayPost (gW gI gM N : Nat) (w : World) (o : Option Asm) (s : Asm) (e : Ending) (w' : World) : Prop :=
  match o with
  | some s' => e = .returned (.bool true) ∧ Wr w' gW gI gM N s' ∧ KeepW gW gI gM w w'
  | none => e = .returned (.bool false) ∧ KeepW gW gI gM w w'
set_option maxRecDepth 100000 in
set_option maxHeartbeats 1000000 in
theorem emWay_any (gW gI gM N : Nat) (s : Asm) (label : Int) (w : World) (h : Wr w gW gI gM N s) (hlt : s.c.length < N) (hN : N ≤ 1000000) :
    Calls Try.prog 32 #[.pointer (some ⟨gW, 0, none⟩), .int .i64 label] w (WayPost gW gI gM N w (s.way label) s) := by
  have q1 := below_cell (v := .int .i64 ((N - s.c.length : Nat) : Int)) (Below.refl _ w) h.wr 1 rfl
  have q2 := below_cell (v := .map (some gM)) (Below.refl _ w) h.wr 2 rfl
  have hlk := h.mp.lookup (P := Try.prog) label Try.underlying48 Try.underlying3 (zeroI w)
  have hok := h.ok.1 label
  unfold Asm.way
  cases he : s.env label with
  | none =>
    rw [he] at hlk
    have hlk2 : (Instr.lookup 48 (.map (some gM)) (.int .i64 label) true).run Try.prog w = .ok (.tuple #[.int .i64 0, .bool false]) w := hlk
    clear hlk hok
    go_enter Try.func32, Try.ntmps32
    go_wp2_with fail
    go_ret
    exact ⟨rfl, KeepW.refl _ _ _ _⟩
  | some e =>
    rw [he] at hlk
    have hlk2 : (Instr.lookup 48 (.map (some gM)) (.int .i64 label) true).run Try.prog w = .ok (.tuple #[.int .i64 ((N - e : Nat) : Int), .bool true]) w := hlk
    have hel := hok e he
    have hAdd := fun u hu => emAdd_any gW gI gM N s ⟨5, 0, 0, ((s.c.length - e : Nat) : Int)⟩ u hu hlt hN (bnd_k 5 0 _ (by omega) (by omega) (by omega))
    obtain ⟨d, hd⟩ : ∃ d, s.c.length - e = d := ⟨_, rfl⟩
    have hsub : ((N - e : Nat) : Int) - ((N - s.c.length : Nat) : Int) = d := by omega
    have hdI : (d : Int) ≤ 1000000 := by omega
    have hw : IntKind.u32.wrap (d : Int) = d := by simp [IntKind.wrap, IntKind.signed, IntKind.bits]; omega
    have hm : (d : Int) % 4294967296 = d := by omega
    have ha : ((N - e : Nat) : Int) ≤ 1000000 := by omega
    have hb : ((N - s.c.length : Nat) : Int) ≤ 1000000 := by omega
    rw [hd] at hAdd
    show Calls _ _ _ _ (fun e' w' => e' = .returned (.bool true) ∧ Wr w' gW gI gM N (s.add ⟨5, 0, 0, ((s.c.length - e : Nat) : Int)⟩) ∧ KeepW gW gI gM w w')
    rw [hd]
    unfold Ins.value at hAdd
    have HADD := Lib.hid hAdd; have HW := Lib.hid h
    generalize N - e = x at *
    generalize N - s.c.length = y at *
    clear hlk hok hel he hAdd h hd hlt
    go_enter Try.func32, Try.ntmps32
    go_wp2_with fail
    refine (HADD.out _ HW.out).mono ?_
    rintro e2 w2 ⟨rfl, h2, hk2⟩
    have H2 := Lib.hid h2; have HK2 := Lib.hid hk2
    clear h2 hk2
    go_wp2_with fail
    go_ret
    exact ⟨rfl, H2.out, HK2.out⟩
end Go.Proofs.Ytnlmdajoifjddaa
