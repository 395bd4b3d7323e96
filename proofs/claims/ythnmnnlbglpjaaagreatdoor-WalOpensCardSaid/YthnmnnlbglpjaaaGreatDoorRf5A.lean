/- The reference: writes by rising sectors, with one more. -/
import Derived.Test.YthnmnnlbglpjaaaGreatDoorPushE
import Derived.Test.YthnmnnlbglpjaaaGreatDoorPk2
import Derived.Test.YthnmnnlbglpjaaaGreatDoorPkC
namespace Go.Proofs.YthnmnnlbglpjaaaGreatDoor
open Go.RowKit
set_option linter.unusedVariables false
set_option linter.unusedSimpArgs false

def withS (x : Wrt) (o : List Wrt × Bool) (y : Wrt) : List Wrt × Bool :=
  if o.2 = false ∧ x.sector ≤ y.sector then (if y.sector = x.sector then (o.1 ++ [x], true) else (o.1 ++ [x] ++ [y], true))
  else (if y.sector = x.sector then o else (o.1 ++ [y], o.2))
def withR (x : Wrt) (l : List Wrt) : List Wrt × Bool := l.foldl (withS x) ([], false)
def withE (x : Wrt) (l : List Wrt) : List Wrt := if (withR x l).2 = true then (withR x l).1 else (withR x l).1 ++ [x]
theorem withR_snoc (x : Wrt) (l : List Wrt) (i : Nat) (h : i < l.length) : withR x (l.take (i + 1)) = withS x (withR x (l.take i)) (l.getD i wrtZ) := by
  unfold withR
  rw [List.take_add_one, List.foldl_append]
  simp [List.getD, h]
theorem with_put (x : Wrt) : ∀ (l acc : List Wrt) (p : Int), risesB p l → x.sector ≤ p → l.foldl (withS x) (acc, true) = (acc ++ l, true)
  | [], acc, _, _, _ => by simp
  | y :: l, acc, p, h, hp => by
    have h1 : p < y.sector := h.1
    rw [List.foldl_cons, show withS x (acc, true) y = (acc ++ [y], true) from by unfold withS; rw [if_neg (by simp), if_neg (by omega)], with_put x l _ y.sector h.2 (by omega)]
    simp
theorem with_fold (x : Wrt) : ∀ (l acc : List Wrt) (p : Int), risesB p l → (if (l.foldl (withS x) (acc, false)).2 = true then (l.foldl (withS x) (acc, false)).1 else (l.foldl (withS x) (acc, false)).1 ++ [x]) = acc ++ withW x l
  | [], acc, _, _ => by simp [withW]
  | y :: l, acc, p, h => by
    have hW : withW x (y :: l) = if y.sector < x.sector then y :: withW x l else if y.sector = x.sector then x :: l else x :: y :: l := by rw [withW]
    rw [List.foldl_cons]
    by_cases h1 : x.sector ≤ y.sector
    · by_cases h2 : y.sector = x.sector
      · rw [show withS x (acc, false) y = (acc ++ [x], true) from by unfold withS; rw [if_pos ⟨rfl, h1⟩, if_pos h2], with_put x l _ y.sector h.2 (by omega), if_pos rfl]
        rw [hW, if_neg (by omega), if_pos h2]; simp
      · rw [show withS x (acc, false) y = (acc ++ [x] ++ [y], true) from by unfold withS; rw [if_pos ⟨rfl, h1⟩, if_neg h2], with_put x l _ y.sector h.2 (by omega), if_pos rfl]
        rw [hW, if_neg (by omega), if_neg h2]; simp
    · rw [show withS x (acc, false) y = (acc ++ [y], false) from by unfold withS; rw [if_neg (fun h => h1 h.2), if_neg (by omega)], with_fold x l _ y.sector h.2]
      rw [hW, if_pos (by omega)]; simp
theorem withE_rises (x : Wrt) (l : List Wrt) (p : Int) (h : risesB p l) : withE x l = withW x l := by
  have := with_fold x l [] p h
  unfold withE withR
  rw [this]; simp
theorem withS_len (x : Wrt) (o : List Wrt × Bool) (y : Wrt) (n : Nat) (h : o.1.length + (if o.2 = true then 0 else 1) ≤ n + 1) : (withS x o y).1.length + (if (withS x o y).2 = true then 0 else 1) ≤ n + 1 + 1 := by
  obtain ⟨o, p⟩ := o
  unfold withS
  split
  · split
    · simp at *; split at h <;> omega
    · rename_i h1 h2
      obtain ⟨h1, _⟩ := h1
      simp only at h1
      subst h1
      simp at *; omega
  · split
    · simp only at *; omega
    · simp only [List.length_append, List.length_cons, List.length_nil] at *; omega
theorem withR_len (x : Wrt) (l : List Wrt) : ∀ i, i ≤ l.length → (withR x (l.take i)).1.length + (if (withR x (l.take i)).2 = true then 0 else 1) ≤ i + 1
  | 0, _ => by simp [withR]
  | i + 1, h => by
    rw [withR_snoc x l i (by omega)]
    exact withS_len x _ _ i (withR_len x l i (by omega))
theorem getD_memW {xs : List Wrt} {i : Nat} (h : i < xs.length) : xs.getD i wrtZ ∈ xs := by
  simp [List.getD, h]
theorem withS_mem {x : Wrt} {o : List Wrt × Bool} {y : Wrt} {Q : Wrt → Prop} (hx : Q x) (hy : Q y) (h : ∀ z ∈ o.1, Q z) : ∀ z ∈ (withS x o y).1, Q z := by
  intro z hz
  unfold withS at hz
  split at hz <;> split at hz
  all_goals (try simp only [List.mem_append, List.mem_cons, List.not_mem_nil, or_false] at hz)
  · rcases hz with h1 | rfl
    · exact h z h1
    · exact hx
  · rcases hz with (h1 | rfl) | rfl
    · exact h z h1
    · exact hx
    · exact hy
  · exact h z hz
  · rcases hz with h1 | rfl
    · exact h z h1
    · exact hy
theorem withR_mem {x : Wrt} {l : List Wrt} {Q : Wrt → Prop} (hx : Q x) (h : ∀ z ∈ l, Q z) : ∀ i, i ≤ l.length → ∀ z ∈ (withR x (l.take i)).1, Q z
  | 0, _ => by simp [withR]
  | i + 1, hi => by
    rw [withR_snoc x l i (by omega)]
    exact withS_mem hx (h _ (getD_memW (by omega))) (withR_mem hx h i (by omega))
theorem wcells_snoc (l : List Wrt) (s : Int) (b : ByteArray) : wcells l ++ [.int .i64 s, .string b] = wcells (l ++ [⟨s, b⟩]) := by rw [wcells_append]; rfl
theorem ownsRow_base {w : World} {base base' : Nat} {e : TypeId} {size : Nat} {v : Value} {n : Nat} {xs : List Value} (h : w.ownsRow base e size v n xs) (hb : base' ≤ base) : w.ownsRow base' e size v n xs :=
  ⟨h.1, h.2.imp id fun ⟨g, cap, cur, h1, h2, h3⟩ => ⟨g, cap, cur, h1, by omega, h3⟩⟩
set_option maxRecDepth 100000 in
set_option maxHeartbeats 1200000 in
theorem refWithO (v : Value) (l : List Wrt) (s : Int) (b : ByteArray) (w : World) (h : IsWrts w v l) (hs : i64ok s) (hb : b.size ≤ 9223372036854775807) (hl : l.length ≤ 1000) :
    Calls Tryz.prog 30 #[v, .int .i64 s, .string b] w fun e w' => ∃ v', e = .returned v' ∧ (w'.ownsRow w.heap.size 46 2 v' (withE ⟨s, trimS b⟩ l).length (wcells (withE ⟨s, trimS b⟩ l)) ∨ (withE ⟨s, trimS b⟩ l = [] ∧ ∃ E, v' = .slice (some ⟨E, 0, none⟩) 0 0)) ∧ Below w.heap.size w w' := by
  obtain ⟨hNI', hNI, hzI0, hzI1, hzI2⟩ := info_parts infoWrt
  obtain ⟨a, c, rfl, hc1, hc2⟩ := h.form
  have hbd : ∀ x ∈ l, x.bounded := by obtain ⟨_, _, _, _, _, _, _, hh, _⟩ := h; exact hh
  have HD := Lib.hid (fun u (hu : Below w.heap.size w u) => h.below hu)
  obtain ⟨n, hn⟩ : ∃ n, l.length = n := ⟨_, rfl⟩
  have hE : withE ⟨s, trimS b⟩ l = if (withR ⟨s, trimS b⟩ (l.take n)).2 = true then (withR ⟨s, trimS b⟩ (l.take n)).1 else (withR ⟨s, trimS b⟩ (l.take n)).1 ++ [⟨s, trimS b⟩] := by
    rw [← hn, List.take_length, withE]
  have hT := fun u => refTrim_any b u hb
  have hTs : (trimS b).size ≤ 9223372036854775807 := Nat.le_trans (trimS_le b) hb
  obtain ⟨T, hTT⟩ : ∃ T, trimS b = T := ⟨_, rfl⟩
  rw [hTT] at hE hT hTs ⊢
  have hST := fun i (hi : i < n) => withR_snoc ⟨s, T⟩ l i (by rw [hn]; exact hi)
  have hLN := fun i (hi : i ≤ n) => withR_len ⟨s, T⟩ l i (by rw [hn]; exact hi)
  have hMM := fun i (hi : i ≤ n) => withR_mem (x := ⟨s, T⟩) (l := l) (Q := Wrt.bounded) ⟨hs, hTs⟩ hbd i (by rw [hn]; exact hi)
  have h00 : withR ⟨s, T⟩ (l.take 0) = ([], false) := rfl
  rw [hn] at hc1 hl HD ⊢
  have hcI : (n : Int) ≤ c := by omega
  have hcI2 : (c : Int) ≤ 9223372036854775807 := by omega
  have hnI : (n : Int) ≤ 1000 := by omega
  have HN := Lib.hid hn; have HE := Lib.hid hE; have HT := Lib.hid hT; have HST := Lib.hid hST; have HLN := Lib.hid hLN; have HMM := Lib.hid hMM; have H00 := Lib.hid h00
  have HBW : Hid (∀ u : World, Below w.heap.size w u → ∀ i : Nat, i < n → ∃ gp op, a = some ⟨gp, op, none⟩ ∧ gp < u.heap.size ∧ u.cell? ⟨gp, op + i * 2, none⟩ = some (.int .i64 (l.getD i wrtZ).sector) ∧ u.cell? ⟨gp, op + i * 2 + 1, none⟩ = some (.string (l.getD i wrtZ).bytes)) := Lib.hid (by
    intro u hu i hi
    obtain ⟨a9, n9, c9, hv9, _, _, _, _, hat⟩ := HD.out u hu
    injection hv9 with t1 t2 t3
    subst t1 t2 t3
    obtain ⟨gp, op, rfl, hgp, hcp⟩ := hat.resolve_left (by omega)
    exact ⟨gp, op, rfl, hgp, (hcp i hi).1, (hcp i hi).2⟩)
  have HBD : Hid ((⟨s, T⟩ : Wrt).bounded) := Lib.hid ⟨hs, hTs⟩
  clear h hbd hn hE hT hTs hTT hST hLN hMM h00 HD hs hb
  obtain ⟨B, hB⟩ : ∃ B, w.heap.size = B := ⟨_, rfl⟩
  go_enter Tryz.func30, Tryz.ntmps30
  go_upto_region 4 with (first | (go_at_call 20; refine (HT.out _).mono ?_; rintro e u1 ⟨rfl, rfl⟩))
  have HX : Hid (∀ W1 : World, (w.alloc (.cells #[] 46)).alloc (.cells #[.int .i64 s, .string T] 46) = W1 → W1.heap[B + 1]? = some (.cells #[.int .i64 s, .string T] 46 (0, 0)) ∧ Below w.heap.size w W1 ∧ W1.heap.size = B + 2) := Lib.hid (by
    rintro W1 rfl
    have e1 := heap_alloc_new (w.alloc (.cells #[] 46)) (.cells #[.int .i64 s, .string T] 46)
    rw [World.size_alloc, hB] at e1
    exact ⟨e1, ((Below.refl w.heap.size w).alloc (Nat.le_refl _) _).alloc (by simp) _, by rw [World.size_alloc, World.size_alloc, hB]⟩)
  (try rw [hB])
  obtain ⟨W1, hW⟩ : ∃ W1, (w.alloc (.cells #[] 46)).alloc (.cells #[.int .i64 s, .string T] 46) = W1 := ⟨_, rfl⟩
  rw [hW]
  obtain ⟨hbx, hbl, hsz⟩ := HX.out W1 hW
  have HBX := Lib.hid hbx; have HBL := Lib.hid hbl; have HSZ := Lib.hid hsz; have HB := Lib.hid hB
  clear hW HX hbx hbl hsz hB HT
  go_wp2_with fail
  go_loopw [7, 8, 19] (fun vo vp z wr => ∃ (i : Nat), i ≤ n ∧ z = .int .i64 i ∧ vp = .bool (withR ⟨s, T⟩ (l.take i)).2 ∧ Hid (ownsE wr (B + 2) 46 2 vo (withR ⟨s, T⟩ (l.take i)).1.length (wcells (withR ⟨s, T⟩ (l.take i)).1)) ∧ Hid (Below (B + 2) W1 wr)) (fun _ _ z _ => n - (intOf z).toNat)
  case atStart => exact ⟨0, Nat.zero_le _, rfl, by rw [H00.out], Lib.hid (by rw [H00.out]; exact .inr ⟨rfl, rfl, B, rfl, by omega⟩), Lib.hid (by rw [← HSZ.out]; exact Below.refl _ _)⟩
  case round =>
    obtain ⟨i, hin, rfl, rfl, HO, HW⟩ := hrel
    have hWw := HBL.out.trans (HW.out.mono (by rw [HB.out]; omega))
    have hz2 : B + 2 ≤ wr.heap.size := by have := HW.out.size; rw [HSZ.out] at this; exact this
    by_cases hlt : i < n
    · have hiI : (i : Int) < n := by omega
      obtain ⟨gp, op, rfl, hgp, p0, p1⟩ := HBW.out wr hWw i hlt
      have hst := HST.out i hlt
      have hln := HLN.out i (by omega)
      obtain ⟨Y, hY⟩ : ∃ Y, l.getD i wrtZ = Y := ⟨_, rfl⟩
      rw [hY] at p0 p1 hst
      obtain ⟨S, hS⟩ : ∃ S, withR ⟨s, T⟩ (l.take i) = S := ⟨_, rfl⟩
      rw [hS] at hst hln HO ⊢
      obtain ⟨o, p⟩ := S
      obtain ⟨k, hk⟩ : ∃ k, o.length = k := ⟨_, rfl⟩
      simp only at hln HO ⊢
      rw [hk] at hln HO
      have hkn : k ≤ 1001 := by split at hln <;> omega
      have HST1 := Lib.hid hst; have HK := Lib.hid hk
      have hbx := (HW.out.block _ (by omega)).trans HBX.out
      have hal := HW.out.alloc (by rw [← HSZ.out]; exact HW.out.size) (.cells #[.int .i64 Y.sector, .string Y.bytes] 46)
      have hbx2 := (heap_alloc_old wr (.cells #[.int .i64 Y.sector, .string Y.bytes] 46) (lt_of_block hbx)).trans hbx
      have hyx := heap_alloc_new wr (.cells #[.int .i64 Y.sector, .string Y.bytes] 46)
      have HO0 := HO
      have ho2 : ownsE (wr.alloc (.cells #[.int .i64 Y.sector, .string Y.bytes] 46)) (B + 2) 46 2 u7 k (wcells o) := HO.out.alloc _

      clear hWw hY hS hst hk hln hbx
      go_upto_region 7 with fail
      obtain ⟨D, hD⟩ : ∃ D, wr.heap.size = D := ⟨_, rfl⟩
      obtain ⟨u, hU⟩ : ∃ u, wr.alloc (.cells #[.int .i64 Y.sector, .string Y.bytes] 46) = u := ⟨_, rfl⟩
      have huz : u.heap.size = D + 1 := by rw [← hU, World.size_alloc, hD]
      rw [hU] at hal hbx2 hyx ho2 ⊢
      rw [hD] at hyx hz2
      (try rw [hD])
      have HA := Lib.hid hal; have HX2 := Lib.hid hbx2; have HY := Lib.hid hyx; have HO := Lib.hid ho2

      have HWZ := Lib.hid hD; have HUZ := Lib.hid huz; have HZ2 := Lib.hid hz2
      clear hal hbx2 hyx ho2 hU hD HW p0 p1 huz hz2
      have y0 := below_cell (Below.refl _ u) HY.out 0 rfl
      have y1 := below_cell (Below.refl _ u) HY.out 1 rfl
      have x0 := below_cell (Below.refl _ u) HX2.out 0 rfl
      have x1 := below_cell (Below.refl _ u) HX2.out 1 rfl
      by_cases hsame : Y.sector = s
      · cases p
        · have hge : s ≤ Y.sector := by omega
          have hs2 : withR ⟨s, T⟩ (l.take (i + 1)) = (o ++ [⟨s, T⟩], true) := HST1.out.trans (by unfold withS; rw [if_pos ⟨rfl, hge⟩, if_pos hsame])
          have HS2 := Lib.hid hs2
          have hge' : (s ≤ Y.sector) = True := eq_true hge
          rw [hsame] at y0
          clear hs2 hge hge' HST1
          go_upto_region 9 with (first | (at_builtin; go_must (refine wpList_pushE (m := 1) (news := [.int .i64 s, .string T]) _ _ 23 46 HO.out HA.out (Nat.le_of_eq HSZ.out.symm) Tryz.underlying23 hNI hzI0 hzI1 hzI2 rfl (by decide) rfl rfl (by rfl) (by rfl) (by rfl) (by decide) (by simp [Value.oneCell']) ?c1 ?_)))
          case c1 => exact ⟨by omega, by omega⟩
          intro v6 w6 hown6 hb6 hg6
          have hd6 := (hg6.block D (by rw [HUZ.out]; omega) (HO0.out.ne HZ2.out (by rw [HWZ.out]; exact Nat.le_refl _))).trans HY.out
          have z0 := below_cell (Below.refl _ w6) hd6 0 rfl
          rw [hsame] at z0
          clear x0 x1 y0 y1 hd6
          have HOW6 := Lib.hid hown6; have HB6 := Lib.hid hb6
          clear hown6 hb6 hg6
          go_wp2_with fail
          go_roundw
          case rel => exact ⟨i + 1, by omega, by go_num, by rw [HS2.out], Lib.hid (by rw [HS2.out]; exact Or.inl (by have h9 := HOW6.out; rw [wcells_snoc] at h9; rw [show (o ++ [(⟨s, T⟩ : Wrt)]).length = k + 1 from by simp [HK.out]]; exact h9)), HB6⟩
          case measure => simp [intOf]; omega
        · have hs2 : withR ⟨s, T⟩ (l.take (i + 1)) = (o, true) := HST1.out.trans (by unfold withS; rw [if_neg (fun h => absurd h.1 (by simp)), if_pos hsame])
          have HS2 := Lib.hid hs2
          rw [hsame] at y0
          clear hs2 HST1
          go_wp2_with fail
          go_roundw
          case rel => exact ⟨i + 1, by omega, by go_num, by rw [HS2.out], Lib.hid (by rw [HS2.out]; rw [show o.length = k from HK.out]; exact HO.out), HA⟩
          case measure => simp [intOf]; omega
      · have hse : (Y.sector == s) = false := by simpa using hsame
        have hse2 : (Y.sector != s) = true := by simpa using hsame
        cases p
        · by_cases hge : s ≤ Y.sector
          · have hs2 : withR ⟨s, T⟩ (l.take (i + 1)) = (o ++ [⟨s, T⟩] ++ [Y], true) := HST1.out.trans (by unfold withS; rw [if_pos ⟨rfl, hge⟩, if_neg hsame])
            have HS2 := Lib.hid hs2
            clear hs2 HST1
            go_upto_region 9 with (first | (at_builtin; go_must (refine wpList_pushE (m := 1) (news := [.int .i64 s, .string T]) _ _ 23 46 HO.out HA.out (Nat.le_of_eq HSZ.out.symm) Tryz.underlying23 hNI hzI0 hzI1 hzI2 rfl (by decide) rfl rfl (by rfl) (by rfl) (by rfl) (by decide) (by simp [Value.oneCell']) ?c1 ?_)))
            case c1 => exact ⟨by omega, by omega⟩
            intro v6 w6 hown6 hb6 hg6
            have hd6 := (hg6.block D (by rw [HUZ.out]; omega) (HO0.out.ne HZ2.out (by rw [HWZ.out]; exact Nat.le_refl _))).trans HY.out
            have z0 := below_cell (Below.refl _ w6) hd6 0 rfl
            have z1 := below_cell (Below.refl _ w6) hd6 1 rfl
            clear x0 x1 y0 y1 hd6
            have HOW6 : Hid (ownsE w6 (B + 2) 46 2 v6 (k + 1) (wcells (o ++ [⟨s, T⟩]))) := Lib.hid (by rw [wcells_snoc] at hown6; exact .inl hown6)
            have HB6 := Lib.hid hb6
            clear hown6 hb6 hg6
            go_wp2_with (first | (at_builtin; go_must (refine wpList_pushE (m := 1) (news := [.int .i64 Y.sector, .string Y.bytes]) _ _ 23 46 HOW6.out HB6.out (Nat.le_of_eq HSZ.out.symm) Tryz.underlying23 hNI hzI0 hzI1 hzI2 rfl (by decide) rfl rfl (by rfl) (by rfl) (by rfl) (by decide) (by simp [Value.oneCell']) ?c2 ?_)))
            case c2 => exact ⟨by omega, by omega⟩
            intro v7 w7 hown7 hb7 hg7
            have HOW7 := Lib.hid hown7; have HB7 := Lib.hid hb7
            clear hown7 hb7 hg7
            go_wp2_with fail
            go_roundw
            case rel => exact ⟨i + 1, by omega, by go_num, by rw [HS2.out], Lib.hid (by rw [HS2.out]; exact Or.inl (by have h9 := HOW7.out; rw [wcells_snoc] at h9; rw [show (o ++ [(⟨s, T⟩ : Wrt)] ++ [Y]).length = k + 1 + 1 from by simp [HK.out]]; exact h9)), HB7⟩
            case measure => simp [intOf]; omega
          · have hs2 : withR ⟨s, T⟩ (l.take (i + 1)) = (o ++ [Y], false) := HST1.out.trans (by unfold withS; rw [if_neg (fun h => hge h.2), if_neg hsame])
            have HS2 := Lib.hid hs2
            clear hs2 HST1
            go_wp2_with (first | (at_builtin; go_must (refine wpList_pushE (m := 1) (news := [.int .i64 Y.sector, .string Y.bytes]) _ _ 23 46 HO.out HA.out (Nat.le_of_eq HSZ.out.symm) Tryz.underlying23 hNI hzI0 hzI1 hzI2 rfl (by decide) rfl rfl (by rfl) (by rfl) (by rfl) (by decide) (by simp [Value.oneCell']) ?c1 ?_)))
            case c1 => exact ⟨by omega, by omega⟩
            intro v6 w6 hown6 hb6 hg6
            have HOW6 := Lib.hid hown6; have HB6 := Lib.hid hb6
            clear hown6 hb6 hg6 x0 x1 y0 y1
            go_wp2_with fail
            go_roundw
            case rel => exact ⟨i + 1, by omega, by go_num, by rw [HS2.out], Lib.hid (by rw [HS2.out]; exact Or.inl (by have h9 := HOW6.out; rw [wcells_snoc] at h9; rw [show (o ++ [Y]).length = k + 1 from by simp [HK.out]]; exact h9)), HB6⟩
            case measure => simp [intOf]; omega
        · have hs2 : withR ⟨s, T⟩ (l.take (i + 1)) = (o ++ [Y], true) := HST1.out.trans (by unfold withS; rw [if_neg (fun h => absurd h.1 (by simp)), if_neg hsame])
          have HS2 := Lib.hid hs2
          clear hs2 HST1
          go_wp2_with (first | (at_builtin; go_must (refine wpList_pushE (m := 1) (news := [.int .i64 Y.sector, .string Y.bytes]) _ _ 23 46 HO.out HA.out (Nat.le_of_eq HSZ.out.symm) Tryz.underlying23 hNI hzI0 hzI1 hzI2 rfl (by decide) rfl rfl (by rfl) (by rfl) (by rfl) (by decide) (by simp [Value.oneCell']) ?c1 ?_)))
          case c1 => exact ⟨by omega, by omega⟩
          intro v6 w6 hown6 hb6 hg6
          have HOW6 := Lib.hid hown6; have HB6 := Lib.hid hb6
          clear hown6 hb6 hg6 x0 x1 y0 y1
          go_wp2_with fail
          go_roundw
          case rel => exact ⟨i + 1, by omega, by go_num, by rw [HS2.out], Lib.hid (by rw [HS2.out]; exact Or.inl (by have h9 := HOW6.out; rw [wcells_snoc] at h9; rw [show (o ++ [Y]).length = k + 1 from by simp [HK.out]]; exact h9)), HB6⟩
          case measure => simp [intOf]; omega
    · obtain rfl : i = n := by omega
      have hnl : ¬ (i : Int) < i := by omega
      have hE := HE.out
      have hln := HLN.out i (Nat.le_refl _)
      have hmm := HMM.out i (Nat.le_refl _)
      generalize withR ⟨s, T⟩ (l.take i) = S at *
      obtain ⟨o, p⟩ := S
      simp only at hE HO hln hmm ⊢
      have hbx := (HW.out.block _ (by omega)).trans HBX.out
      have hks : o.length ≤ 1001 := by split at hln <;> omega
      cases p
      · rw [if_neg (by decide)] at hE
        have HE2 := Lib.hid hE; have HMM2 := Lib.hid hmm
        have x0 := below_cell (Below.refl _ wr) hbx 0 rfl
        have x1 := below_cell (Below.refl _ wr) hbx 1 rfl
        obtain ⟨k, hk⟩ : ∃ k, o.length = k := ⟨_, rfl⟩
        rw [hk] at HO hks
        have HKK := Lib.hid hk
        clear hE hln hmm hbx HE hk
        go_wp2_with (first | (at_builtin; go_must (refine wpList_pushE (m := 1) (news := [.int .i64 s, .string T]) _ _ 23 46 HO.out HW.out (Nat.le_of_eq HSZ.out.symm) Tryz.underlying23 hNI hzI0 hzI1 hzI2 rfl (by decide) rfl rfl (by rfl) (by rfl) (by rfl) (by decide) (by simp [Value.oneCell']) ?c1 ?_)))
        case c1 => exact ⟨by omega, by omega⟩
        intro v6 w6 hown6 hb6 hg6
        rw [wcells_snoc] at hown6
        have HOW6 := Lib.hid hown6; have HB6 := Lib.hid hb6
        clear hown6 hb6 hg6
        go_wp2_with fail
        go_ret
        exact ⟨_, rfl, by rw [HE2.out, show (o ++ [(⟨s, T⟩ : Wrt)]).length = k + 1 from by simp [HKK.out]]; exact .inl (ownsRow_base HOW6.out (by rw [HB.out]; omega)), HBL.out.trans (HB6.out.mono (by rw [HB.out]; omega))⟩
      · rw [if_pos rfl] at hE
        have HE2 := Lib.hid hE
        clear hE
        go_wp2_with fail
        go_ret
        refine ⟨u7, rfl, ?_, hWw⟩
        rw [HE2.out]
        rcases HO.out with h | ⟨h1, h2, E, rfl, _⟩
        · exact .inl (ownsRow_base h (by rw [HB.out]; omega))
        · exact .inr ⟨List.eq_nil_of_length_eq_zero h1, E, rfl⟩
theorem withE_mem {x : Wrt} {l : List Wrt} {Q : Wrt → Prop} (hx : Q x) (h : ∀ z ∈ l, Q z) : ∀ z ∈ withE x l, Q z := by
  intro z hz
  have hm := withR_mem (x := x) (l := l) hx h l.length (Nat.le_refl _)
  rw [List.take_length] at hm
  unfold withE at hz
  split at hz
  · exact hm z hz
  · rcases List.mem_append.1 hz with h1 | h1
    · exact hm z h1
    · rw [List.mem_singleton.1 h1]; exact hx
end Go.Proofs.YthnmnnlbglpjaaaGreatDoor
