/- lex.Lex. -/
import Derived.Test.YtpkpbohkdkmoiaaDoorLx8
import Derived.Test.YtpkpbohkdkmoiaaDoorResRow
namespace Go.Proofs.YtpkpbohkdkmoiaaDoor
open Go.RowKit
set_option linter.unusedVariables false

def Tk.cells (t : Tk) : List Value := [.int .i64 t.kind, .string t.text, .int .i64 (t.pos : Int)]
def tkCells (l : List Tk) : List Value := l.flatMap Tk.cells
theorem tkCells_len (l : List Tk) : (tkCells l).length = l.length * 3 := by
  induction l with
  | nil => rfl
  | cons v l ih => rw [tkCells, List.flatMap_cons, List.length_append, ← tkCells, ih, List.length_cons]; simp [Tk.cells]; omega
theorem tkCells_snoc (l : List Tk) (v : Tk) : tkCells (l ++ [v]) = tkCells l ++ v.cells := by simp [tkCells]
def lexE (s : ByteArray) : Nat := if 2000 < s.size then 2 else match lexS s with | .bad _ => 60 | .ok _ => 0
def lexAt (s : ByteArray) : Nat := if 2000 < s.size then 0 else match lexS s with | .bad p => p | .ok _ => 0
def endTk (s : ByteArray) : Tk := ⟨0, ⟨#[]⟩, s.size⟩
def lexToks (s : ByteArray) : List Tk := if 2000 < s.size then [] else match lexS s with | .bad _ => [] | .ok l => l ++ [endTk s]
def LexPost (s : ByteArray) (w : World) (e : Ending) (w' : World) : Prop :=
  ∃ v, e = .returned (.tuple #[v, .int .i64 (lexE s : Nat), .int .i64 (lexAt s : Nat)]) ∧ w'.ownsRow w.heap.size 34 3 v (lexToks s).length (tkCells (lexToks s)) ∧ Below w.heap.size w w'
theorem infoTk : (Tryd.prog.info? 34).map (fun i => (i.zero, i.size, i.bytes)) = some (some (.agg #[.int .i64 0, .string ⟨#[]⟩, .int .i64 0]), 3, 32) := by kernel_rfl
theorem tk_info {z : Value} {a b : Nat} (h : (Tryd.prog.info? 34).map (fun i => (i.zero, i.size, i.bytes)) = some (some z, a, b)) : ∃ iI, Tryd.prog.info? 34 = some iI ∧ iI.zero = some z ∧ iI.size = a ∧ iI.bytes = b := by
  cases hx : Tryd.prog.info? 34 with
  | none => rw [hx] at h; cases h
  | some i =>
    rw [hx] at h
    simp only [Option.map_some, Option.some.injEq, Prod.mk.injEq] at h
    exact ⟨i, rfl, h.1, h.2.1, h.2.2⟩
set_option maxRecDepth 100000 in
set_option maxHeartbeats 2000000 in
theorem lxLex (s : ByteArray) (w : World) (hs : s.size ≤ 1000000) (hE : Errs w) : Calls Tryd.prog 9 #[.string s] w (LexPost s w) := by
  obtain ⟨iI, hNI, hzI0, hzI1, hzI2⟩ := tk_info infoTk
  have hsI : (s.size : Int) ≤ 1000000 := by omega
  unfold LexPost
  obtain ⟨RE, hRE⟩ : ∃ RE, lexE s = RE := ⟨_, rfl⟩
  obtain ⟨RA, hRA⟩ : ∃ RA, lexAt s = RA := ⟨_, rfl⟩
  obtain ⟨RT, hRT⟩ : ∃ RT, lexToks s = RT := ⟨_, rfl⟩
  rw [hRE, hRA, hRT]
  unfold lexE at hRE
  unfold lexAt at hRA
  unfold lexToks at hRT
  by_cases h2 : 2000 < s.size
  · rw [if_pos h2] at hRE hRA hRT
    subst hRE hRA hRT
    have h2I : (2000 : Int) < s.size := by omega
    clear h2 hE
    go_enter Tryd.func9, Tryd.ntmps9
    go_wp2_with fail
    go_ret3
    exact ⟨_, rfl, World.ownsRow_nil _ _ _ _, Below.refl _ _⟩
  rw [if_neg h2] at hRE hRA hRT
  have h2I : (s.size : Int) ≤ 2000 := by omega
  have HRE := Lib.hid hRE; have HRA := Lib.hid hRA; have HRT := Lib.hid hRT
  clear hRE hRA hRT h2
  go_enter Tryd.func9, Tryd.ntmps9
  go_wp2_with fail
  go_loopw [5, 6] (fun z5 z6 wr => ∃ (p : Nat) (l : List Tk), z6 = .int .i64 p ∧ p ≤ s.size ∧ l.length ≤ p ∧ Hid (lexS s = (lexR s p).pre l) ∧ Hid (wr.ownsRow w.heap.size 34 3 z5 l.length (tkCells l)) ∧ Hid (Below w.heap.size w wr)) (fun _ z6 _ => s.size - (intOf z6).toNat)
  case atStart => exact ⟨0, [], rfl, by omega, by simp, Lib.hid (by rw [Lx.pre_nil]; rfl), Lib.hid (World.ownsRow_nil _ _ _ _), Lib.hid (Below.refl _ _)⟩
  case round =>
    obtain ⟨p, l, rfl, hp, hlp, HL, HO, HB⟩ := hrel
    by_cases hlt : p < s.size
    · have hltI : (p : Int) < s.size := by omega
      have hxs : (s.extract p s.size).size = s.size - p := by rw [ByteArray.size_extract]; omega
      have HF := Lib.hid (lxFirst (s.extract p s.size) wr (by omega) (by omega) (hE.keep HB.out))
      have hle := fstL_le (s.extract p s.size) (by omega)
      have hkd := fstL_kind (s.extract p s.size)
      obtain ⟨K, hK⟩ : ∃ K, (fstL (s.extract p s.size)).1 = K := ⟨_, rfl⟩
      obtain ⟨Z, hZ⟩ : ∃ Z, (fstL (s.extract p s.size)).2 = Z := ⟨_, rfl⟩
      have HFL := Lib.hid (show fstL (s.extract p s.size) = (K, Z) by rw [← hK, ← hZ])
      rw [hK, hZ] at HF
      rw [hZ, hxs] at hle
      rw [hK] at hkd
      clear hK hZ hxs
      go_wp2_with fail
      refine HF.out.mono ?_
      rintro e w1 ⟨rfl, hb1⟩
      by_cases hz0 : Z = 0
      · subst hz0
        have hbad := lexR_bad s p hlt HFL.out
        have hlex := HL.out
        rw [hbad] at hlex
        have e1 := HRE.out; have e2 := HRA.out; have e3 := HRT.out
        rw [hlex] at e1 e2 e3
        simp only [Lx.pre] at e1 e2 e3
        subst e1 e2 e3
        have HBB := Lib.hid (HB.out.trans (hb1.mono HB.out.size))
        clear hlex hbad hb1 HL HO HB HFL hle hkd
        go_wp2_with fail
        go_ret3
        exact ⟨_, rfl, World.ownsRow_nil _ _ _ _, HBB.out⟩
      have hzI : ((Z : Int) == 0) = false := by rw [beq_eq_false_iff_ne]; omega
      have hstep := Lib.hid (lexR_step s p hlt HFL.out hz0)
      have hown := HO.out
      have hown1 := hown.kept (w' := w1) (row := none) ⟨hb1.os, hb1.tape, hb1.output, hb1.size, fun i hi _ => hb1.block i hi⟩ (Classical.em _)
      have hw1 := HB.out.trans (hb1.mono HB.out.size)
      clear hown HO HF hb1
      by_cases hk1 : K = -1
      · subst hk1
        have HL2 := Lib.hid (show lexS s = (lexR s (p + Z)).pre l by rw [HL.out, hstep.out, if_pos rfl, Lx.pre_nil])
        have HO1 := Lib.hid hown1; have HW1 := Lib.hid hw1
        clear hown1 hw1 HL hstep HFL hkd
        go_wp2_with fail
        go_roundw
        case rel => exact ⟨p + Z, l, by go_num, by omega, by omega, HL2, HO1, HW1⟩
        case measure => simp [intOf]; omega
      · have hkb : (K != -1) = true := by rw [bne_iff_ne]; exact hk1
        have HL2 := Lib.hid (show lexS s = (lexR s (p + Z)).pre (l ++ [⟨K, s.extract p (p + Z), p⟩]) by rw [HL.out, hstep.out, if_neg hk1, Lx.pre_pre])
        obtain ⟨q, hq⟩ : ∃ q, p + Z = q := ⟨_, rfl⟩
        have hqs : q ≤ s.size := by omega
        have hqI : (p : Int) + (Z : Int) = (q : Int) := by omega
        rw [hq] at HL2
        clear HL hstep HFL hkd hk1 
        go_wp2_with (first | (at_builtin; go_must (refine wpList_push _ _ 23 34 hown1 hw1 (Nat.le_refl _) Tryd.underlying23 hNI hzI0 hzI1 hzI2 rfl (by decide) rfl rfl rfl rfl rfl ?c1 ?c2 ?_)))
        case c1 => intro u hu; simp at hu; rcases hu with rfl | rfl | rfl <;> rfl
        case c2 => omega
        intro v' w3 hown3 hb3
        have HO3 := Lib.hid (show w3.ownsRow w.heap.size 34 3 v' (l ++ [(⟨K, s.extract p q, p⟩ : Tk)]).length (tkCells (l ++ [(⟨K, s.extract p q, p⟩ : Tk)])) by rw [tkCells_snoc, List.length_append]; exact hown3)
        have HW3 := Lib.hid hb3
        clear hown1 hw1 hown3 hb3
        go_wp2_with fail
        go_roundw
        case rel => exact ⟨q, _, rfl, by omega, by rw [List.length_append, List.length_singleton]; omega, HL2, HO3, HW3⟩
        case measure => simp [intOf]; omega
    · obtain rfl : p = s.size := by omega
      have hlex := HL.out
      rw [lexR_end s _ (Nat.le_refl _)] at hlex
      simp only [Lx.pre, List.append_nil] at hlex
      have e1 := HRE.out; have e2 := HRA.out; have e3 := HRT.out
      rw [hlex] at e1 e2 e3
      simp only at e1 e2 e3
      subst e1 e2 e3
      clear hlex HL
      go_wp2_with (first | (at_builtin; go_must (refine wpList_push _ _ 23 34 HO.out HB.out (Nat.le_refl _) Tryd.underlying23 hNI hzI0 hzI1 hzI2 rfl (by decide) rfl rfl rfl rfl rfl ?c1 ?c2 ?_)))
      case c1 => intro u hu; simp at hu; rcases hu with rfl | rfl | rfl <;> rfl
      case c2 => omega
      intro v' w3 hown3 hb3
      have HO3 := Lib.hid (show w3.ownsRow w.heap.size 34 3 v' (l ++ [endTk s]).length (tkCells (l ++ [endTk s])) by rw [tkCells_snoc, List.length_append]; exact hown3)
      have HW3 := Lib.hid hb3
      clear HO HB hown3 hb3
      go_wp2_with fail
      go_ret3
      exact ⟨_, rfl, HO3.out, HW3.out⟩
end Go.Proofs.YtpkpbohkdkmoiaaDoor
