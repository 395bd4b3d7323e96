/- Rows of truths: doorwardref12.Cells, Like. -/
import Derived.Test.YtpdfahlglalebaaCk2
import Derived.Test.YtpdfahlglalebaaCk3
namespace Go.Proofs.Ytpdfahlglalebaa
open Go.RowKit Go.ChangeShapes
set_option linter.unusedVariables false

theorem ckGrown {w w1 w2 : World} {R : Option Nat} (h1 : w.grownBy w1 R) (h2 : w1.grownBy w2 R) : w.grownBy w2 R :=
  ⟨h2.os.trans h1.os, h2.tape.trans h1.tape, h2.output.trans h1.output, Nat.le_trans h1.size h2.size, fun k hk hr => (h2.block k (Nat.lt_of_lt_of_le hk h1.size) hr).trans (h1.block k hk hr)⟩
/-- 's = append(s, x)': x lies alone in the block that was laid last; s is the call's own; which block turns. -/
theorem ckPush {P : Program} {ops : Array Oper} {rest : List Oper} {o : Oper} {a : Act} {Q : Exit → Act → World → Prop} {w w0 : World}
    (s x : Operand) (t : TypeId) (e : TypeId) {i : TypeInfo} {z : Value} {size bytes : Nat} {base : Nat} {v : Value} {n : Nat} {xs news : List Value}
    (hown : w.ownsRow base e size v n xs) (hbel : Below base w0 w) (hbase : base ≤ w0.heap.size)
    (ht : P.underlying t = some (.slice e)) (hi : P.info? e = some i) (hz : i.zero = some z)
    (hsize : i.size = size) (hby : i.bytes = bytes) (hzs : z.cells.size = size) (hsz : 0 < size)
    (hgd : o.guard = none) (ho : o.op = .call { callee := .builtin .append, args := #[s, x], argTypes := #[t, t] })
    (hs : a.eval s = v) (hx : a.eval x = .slice (some ⟨w.heap.size, 0, none⟩) 1 1)
    (hl : news.length = size) (h1 : ∀ u ∈ news, u.oneCell' = true)
    (hroom : n ≤ 17592186044416 ∧ n * bytes + bytes ≤ 140737488355328)
    (h : ∀ v' w', w'.ownsRow base e size v' (n + 1) (xs ++ news) → Below base w0 w' → w.grownBy w' v.ownBlock → wpList P ops Q rest (a.put o.dst v') w') :
    wpList P ops Q (o :: rest) a (w.alloc (.cells news.toArray e)) := by
  refine wpList_append_own (w := w.alloc (.cells news.toArray e)) hgd s x t ho base e i z size bytes ht hi hz hsize hby hzs hsz v n xs hs (hown.alloc _) ⟨w.heap.size, 0, none⟩ 1 1 news hx (by simpa using hl) (cells_new w news e) h1
    (by unfold maxLen; omega) (by rw [Nat.add_mul]; omega) (by have := hbel.size; simp; omega) ?_
  intro v' w' h2 h3 h4
  refine h v' w' h2 ?_ (ckGrown (World.grownBy_alloc w _ _) h3)
  have hb1 : Below base w0 (w.alloc (.cells news.toArray e)) := hbel.alloc (by have := hbel.size; omega) _
  refine hb1.grown h3 (by have := hbel.size; simp; omega) ?_
  intro k hk
  exact (hown.lt k hk).1
def IsRow (w : World) (r : Value) (bs : List Bool) : Prop := ∃ a n cap, r = .slice a n cap ∧ bs.length = n ∧ n ≤ cap ∧ cap ≤ 9223372036854775807 ∧
  (n = 0 ∨ ∃ b off cs fr, a = some ⟨b, off, none⟩ ∧ w.heap[b]? = some (.cells cs 4 fr) ∧ ∀ j, j < n → cs[off + j]? = some (.bool (bs.getD j false)))
/-- blocks of truths stay -/
def KeepB (w w' : World) : Prop := w.heap.size ≤ w'.heap.size ∧ ∀ (b : Nat) (cs : Array Value) (fr : Nat × Nat), w.heap[b]? = some (.cells cs 4 fr) → w'.heap[b]? = w.heap[b]?
theorem KeepB.trans {w w1 w2 : World} (h1 : KeepB w w1) (h2 : KeepB w1 w2) : KeepB w w2 :=
  ⟨Nat.le_trans h1.1 h2.1, fun b cs fr h => (h2.2 b cs fr ((h1.2 b cs fr h).trans h)).trans (h1.2 b cs fr h)⟩
theorem KeepB.below {w w' : World} (h : Below w.heap.size w w') : KeepB w w' := ⟨h.size, fun b cs fr hb => h.block b (lt_of_block hb)⟩
theorem KeepB.grown {w w' : World} {B n : Nat} {v : Value} {xs : List Value} (ho : w.ownsRow B 44 1 v n xs) (hg : w.grownBy w' v.ownBlock) : KeepB w w' := by
  refine ⟨hg.size, fun b cs fr hb => hg.block b (lt_of_block hb) ?_⟩
  rcases ho.2 with ⟨rfl, _⟩ | ⟨g, cap, cur, rfl, _, hh, _⟩
  · simp [Value.ownBlock]
  · intro he
    have he : b = g := by simpa [Value.ownBlock] using he
    subst he
    rw [hh] at hb
    injection hb with hb
    injection hb with _ hb
    exact absurd hb (by decide)
theorem IsRow.keep {w w' : World} {r : Value} {bs : List Bool} (h : IsRow w r bs) (hk : KeepB w w') : IsRow w' r bs := by
  obtain ⟨a, n, cap, h1, h2, h3, h4, h5⟩ := h
  refine ⟨a, n, cap, h1, h2, h3, h4, ?_⟩
  rcases h5 with h5 | ⟨b, off, cs, fr, h6, h7, h8⟩
  · exact .inl h5
  · exact .inr ⟨b, off, cs, fr, h6, (hk.2 b cs fr h7).trans h7, h8⟩
theorem IsRow.cell {w : World} {A : Option Addr} {n cap : Nat} {bs : List Bool} (h : IsRow w (.slice A n cap) bs) {j : Nat} (hj : j < n) : ∃ b off, A = some ⟨b, off, none⟩ ∧ w.cell? ⟨b, off + j, none⟩ = some (.bool (bs.getD j false)) := by
  obtain ⟨a, n', cap', h1, h2, h3, h4, h5⟩ := h
  injection h1 with e1 e2 e3
  subst e1 e2 e3
  obtain ⟨b, off, cs, fr, h6, h7, h8⟩ := h5.resolve_left (by omega)
  exact ⟨b, off, h6, by rw [cell_of_row _ _ _ _ _ _ h7, h8 j hj]⟩
theorem BR.row {w : World} {g n : Nat} {f : Nat → Bool} (h : BR w g n f) (hn : n ≤ 9223372036854775807) : IsRow w (.slice (some ⟨g, 0, none⟩) n n) ((List.range n).map f) := by
  obtain ⟨cs, h1, h2, h3⟩ := h
  refine ⟨_, n, n, rfl, by simp, Nat.le_refl _, hn, .inr ⟨g, 0, cs, _, rfl, h1, fun j hj => ?_⟩⟩
  rw [Nat.zero_add, h3 j hj]
  simp [List.getD, hj]
theorem own_row {w : World} {B : Nat} {r : Value} {bs : List Bool} (h : w.ownsRow B 4 1 r bs.length (bs.map Value.bool)) : IsRow w r bs := by
  rcases h.2 with ⟨rfl, h0⟩ | ⟨g, cap, cur, rfl, _, hh, hn, hc, hcs, htake⟩
  · exact ⟨none, 0, 0, rfl, h0, Nat.le_refl _, by omega, .inl rfl⟩
  · refine ⟨_, bs.length, cap, rfl, rfl, hn, by unfold maxLen at hc; exact hc, .inr ⟨g, 0, cur, _, rfl, hh, fun j hj => ?_⟩⟩
    rw [Nat.zero_add, ← Array.getElem?_toList]
    have : (cur.toList.take (bs.length * 1))[j]? = (bs.map Value.bool)[j]? := by rw [htake]
    rw [List.getElem?_take, if_pos (by omega)] at this
    rw [this]
    simp [List.getD, hj]
def IsRows (w : World) (v : Value) (rows : List (List Bool)) : Prop := ∃ a n cap, v = .slice a n cap ∧ rows.length = n ∧ n ≤ cap ∧ cap ≤ 9223372036854775807 ∧
  (n = 0 ∨ ∃ b off, a = some ⟨b, off, none⟩ ∧ b < w.heap.size ∧ ∀ i, i < n → ∃ r, w.cell? ⟨b, off + i, none⟩ = some r ∧ IsRow w r (rows.getD i []))
theorem IsRows.below {w w' : World} {v : Value} {rows : List (List Bool)} (h : IsRows w v rows) (hb : Below w.heap.size w w') : IsRows w' v rows := by
  obtain ⟨a, n, cap, h1, h2, h3, h4, h5⟩ := h
  refine ⟨a, n, cap, h1, h2, h3, h4, ?_⟩
  rcases h5 with h5 | ⟨b, off, h6, h7, h8⟩
  · exact .inl h5
  · refine .inr ⟨b, off, h6, Nat.lt_of_lt_of_le h7 hb.size, fun i hi => ?_⟩
    obtain ⟨r, h9, h10⟩ := h8 i hi
    exact ⟨r, (hb.cell (p := ⟨b, off + i, none⟩) h7).trans h9, h10.keep (KeepB.below hb)⟩
theorem own_rows {w : World} {B n : Nat} {v : Value} {rs : List Value} {rows : List (List Bool)} (h : w.ownsRow B 44 1 v n rs) (hn : rows.length = n) (hr : ∀ i, i < n → IsRow w (rs.getD i undef) (rows.getD i [])) : IsRows w v rows := by
  have hl := h.1
  rcases h.2 with ⟨rfl, h0⟩ | ⟨g, cap, cur, rfl, _, hh, hn2, hc, hcs, htake⟩
  · exact ⟨none, 0, 0, rfl, by omega, Nat.le_refl _, by omega, .inl rfl⟩
  · refine ⟨_, n, cap, rfl, hn, hn2, by unfold maxLen at hc; exact hc, .inr ⟨g, 0, rfl, lt_of_block hh, fun i hi => ⟨rs.getD i undef, ?_, hr i hi⟩⟩⟩
    have := h.cells (g := g) rfl i (rs.getD i undef) (by rw [List.getD_eq_getElem?_getD, List.getElem?_eq_getElem (by omega)]; rfl)
    rwa [show (⟨g, 0, none⟩ : Addr).add i = ⟨g, 0 + i, none⟩ from by unfold Addr.add; split <;> simp_all] at this
theorem row_own (w : World) {B n : Nat} {v : Value} {rs : List Value} (h : w.ownsRow B 44 1 v n rs) {i : Nat} (hi : i < n) : ∃ g, v.ownBlock = some g ∧ ∃ c, v = .slice (some ⟨g, 0, none⟩) n c ∧ w.cell? ⟨g, i, none⟩ = some (rs.getD i undef) := by
  have hl := h.1
  rcases h.2 with ⟨rfl, h0⟩ | ⟨g, cap, cur, rfl, _⟩
  · omega
  · refine ⟨g, rfl, cap, rfl, ?_⟩
    have := h.cells (g := g) rfl i (rs.getD i undef) (by rw [List.getD_eq_getElem?_getD, List.getElem?_eq_getElem (by omega)]; rfl)
    rwa [show (⟨g, 0, none⟩ : Addr).add i = ⟨g, i, none⟩ from by unfold Addr.add; split <;> simp_all] at this
theorem ckOwn_below {w w' : World} {B e size n : Nat} {v : Value} {xs : List Value} (h : w.ownsRow B e size v n xs) (hb : Below w.heap.size w w') : w'.ownsRow B e size v n xs := by
  refine ⟨h.1, ?_⟩
  rcases h.2 with hn | ⟨g, cap, cur, rfl, hg, hgg, rest⟩
  · exact .inl hn
  · exact .inr ⟨g, cap, cur, rfl, hg, by rw [hb.block g (Array.getElem?_eq_some_iff.1 hgg).1]; exact hgg, rest⟩
theorem snoc_rows {w w' : World} {rs : List Value} {f : Nat → List Bool} {j : Nat} {r : Value} (hl : rs.length = j) (h : ∀ c, c < j → IsRow w (rs.getD c undef) (f c)) (hk : KeepB w w') (hr : IsRow w r (f j)) : ∀ c, c < j + 1 → IsRow w' ((rs ++ [r]).getD c undef) (f c) := by
  intro c hc
  by_cases e : c < j
  · rw [show (rs ++ [r]).getD c undef = rs.getD c undef from by simp [List.getD, List.getElem?_append_left (show c < rs.length by omega)]]
    exact (h c e).keep hk
  · obtain rfl : c = j := by omega
    rw [show (rs ++ [r]).getD c undef = r from by simp [List.getD, ← hl]]
    exact hr.keep hk
def bitsC (l : List Ins) (c : Nat) : List Bool := (List.range l.length).map (rch l c)
theorem bitsC_at (l : List Ins) (c k : Nat) (h : k < l.length) : (bitsC l c).getD k false = rch l c k := by simp [bitsC, List.getD, h]
def rowK (l : List Ins) (k j : Nat) : List Bool := (List.range j).map fun c => !rch l c k
theorem rowK_len (l : List Ins) (k j : Nat) : (rowK l k j).length = j := by simp [rowK]
theorem rowK_snoc (l : List Ins) (k j : Nat) : (rowK l k (j + 1)).map Value.bool = (rowK l k j).map Value.bool ++ [.bool (!rch l j k)] := by simp [rowK, List.range_succ]
def rowA (l : List Ins) (k : Nat) : List Bool := if rch l 16 k = true then rowK l k 16 else []
def rowsL (l : List Ins) : List (List Bool) := (List.range l.length).map (rowA l)
theorem rowsL_at (l : List Ins) (k : Nat) (h : k < l.length) : (rowsL l).getD k [] = rowA l k := by simp [rowsL, List.getD, h]
set_option maxRecDepth 100000 in
set_option maxHeartbeats 4000000 in
theorem ck_cellsOk (l : List Ins) (v : Value) (w : World) (hl : IsInsns w v l) (haw : allWell l) :
    Calls Try.prog 11 #[v] w fun e w' => (∃ v', e = .returned (.tuple #[v', .int .i64 0]) ∧ IsRows w' v' (rowsL l)) ∧ Below w.heap.size w w' := by
  obtain ⟨iS, hiS, hzS0, hzS1, hzS2⟩ := info_parts infoBools
  obtain ⟨iB, hiB, hzB0, hzB1, hzB2⟩ := info_parts infoBool
  have hl0 := hl
  obtain ⟨a, len, cap, rfl, hlen, hcap, hcm, hbd, hat2⟩ := hl
  have hfb : firstBad (wellB l) l.length = none := firstBad_none haw.2.2
  have HFI := Lib.hid (fun u hu => ck_first l (.slice a len cap) u hu (by have := haw.2.1; omega))
  rw [hfb] at HFI
  have HRE := Lib.hid (fun c hc u hu => ck_reached l (.slice a len cap) c u hu haw.2.1 hc (allWell_fits haw))
  rw [hlen] at HRE
  have h1 : 0 < len := by have := haw.1; omega
  have h2 : (len : Int) ≤ 4096 := by have := haw.2.1; omega
  have h0b : ((len : Int) == 0) = false := by rw [beq_eq_false_iff_ne]; omega
  have HL := Lib.hid hl0; have HLEN := Lib.hid hlen
  clear hl0 hlen hbd hat2 hfb haw
  go_enter Try.func11, Try.ntmps11
  go_wp2_with fail
  refine (HFI.out _ HL.out).mono ?_
  rintro e w1 ⟨rfl, hb1⟩
  have HL1 := Lib.hid (insns_below HL.out hb1)
  have HB1 := Lib.hid hb1
  clear hb1 HL HFI
  unfold fstV
  go_wp2_with fail
  refine (HRE.out 16 (by omega) _ HL1.out).mono ?_
  rintro e w2 ⟨⟨gA, rfl, _, hA⟩, hb2⟩
  have HA2 := Lib.hid (hA.row (by omega))
  have HL2 := Lib.hid (insns_below HL1.out hb2)
  have HB2 := Lib.hid (HB1.out.trans (hb2.mono HB1.out.size))
  clear hb2 hA HL1 HB1
  go_upto_region 8 with fail
  have hown0 : (w2.alloc (.cells #[] 44)).ownsRow w2.heap.size 44 1 (.slice (some ⟨w2.heap.size, 0, none⟩) 0 0) 0 [] := World.ownsRow_made w2 #[] 0 (Nat.le_refl _) (by unfold maxLen; omega) rfl
  have hal := (Below.refl w2.heap.size w2).alloc (Nat.le_refl _) (.cells #[] 44)
  have HO := Lib.hid hown0; have HAL := Lib.hid hal
  have HA3 := Lib.hid (HA2.out.keep (KeepB.below hal))
  clear hown0 hal
  obtain ⟨w3, hW⟩ : ∃ w3, w2.alloc (.cells #[] 44) = w3 := ⟨_, rfl⟩
  rw [hW] at HO HAL HA3 ⊢
  clear hW HA2
  obtain ⟨v0, hv0⟩ : ∃ v0, Value.slice (some ⟨w2.heap.size, 0, none⟩) 0 0 = v0 := ⟨_, rfl⟩
  rw [hv0] at HO ⊢
  clear hv0
  go_wp2_with fail
  go_loopw [7, 8] (fun x z wr => ∃ (j : Nat) (rs : List Value), z = .int .i64 j ∧ j ≤ 16 ∧ rs.length = j ∧ Hid (wr.ownsRow w2.heap.size 44 1 x j rs) ∧ Hid (∀ c, c < j → IsRow wr (rs.getD c undef) (bitsC l c)) ∧ Hid (Below w2.heap.size w2 wr) ∧ Hid (IsRow wr (.slice (some ⟨gA, 0, none⟩) len len) (bitsC l 16))) (fun _ z _ => 16 - (intOf z).toNat)
  case atStart => exact ⟨0, [], rfl, by omega, rfl, HO, Lib.hid (fun c hc => by omega), HAL, Lib.hid (by unfold bitsC; rw [HLEN.out]; exact HA3.out)⟩
  case round =>
    clear HO HAL HA3
    obtain ⟨j, rs, rfl, hj, hrl, HO, HR, HB, HA⟩ := hrel
    by_cases hlt : j < 16
    · have hjI : (j : Int) < 16 := by omega
      obtain ⟨A7, c7, rfl, _⟩ : ∃ A c, u7 = .slice A j c ∧ True := by
        rcases HO.out.2 with ⟨rfl, h0⟩ | ⟨g, cap, cur, rfl, _⟩
        · exact ⟨_, _, by rw [h0], trivial⟩
        · exact ⟨_, _, rfl, trivial⟩
      go_wp2_with fail
      refine (HRE.out j (by omega) _ (insns_below HL2.out HB.out)).mono ?_
      rintro e w5 ⟨⟨g5, rfl, _, hA5⟩, hb5⟩
      have HR5 := Lib.hid (show IsRow w5 (.slice (some ⟨g5, 0, none⟩) len len) (bitsC l j) by unfold bitsC; rw [HLEN.out]; exact hA5.row (by omega))
      have HO5 := Lib.hid (ckOwn_below HO.out hb5)
      have HRS := Lib.hid (fun c hc => (HR.out c hc).keep (KeepB.below hb5))
      have HB5 := Lib.hid (HB.out.trans (hb5.mono HB.out.size))
      have HA5 := Lib.hid (HA.out.keep (KeepB.below hb5))
      clear hb5 hA5 HO HR HB HA
      go_wp2_with (first | (at_builtin; go_must (refine ckPush _ _ 27 44 (news := [.slice (some ⟨g5, 0, none⟩) len len]) HO5.out HB5.out (Nat.le_refl _) Try.underlying27 hiS hzS0 hzS1 hzS2 rfl (by decide) rfl rfl (by rfl) (by rfl) (by rfl) (by intro u hu; rw [List.mem_singleton.1 hu]; rfl) ⟨by omega, by omega⟩ ?_)))
      intro v6 w6 hown6 hb6 hg6
      have hk6 := KeepB.grown HO5.out hg6
      have HRN := Lib.hid (snoc_rows (f := bitsC l) hrl HRS.out hk6 HR5.out)
      have HAN := Lib.hid (HA5.out.keep hk6)
      have HON := Lib.hid hown6; have HBN := Lib.hid hb6
      clear hown6 hb6 hg6 hk6 HO5 HB5 HR5 HRS HA5
      go_wp2_with fail
      go_roundw
      case rel => exact ⟨j + 1, _, by go_num, by omega, by rw [List.length_append, hrl]; rfl, HON, HRN, HBN, HAN⟩
      case measure => simp [intOf]; omega
    · obtain rfl : j = 16 := by omega
      rw [show ((16 : Nat) : Int) = 16 from rfl]
      obtain ⟨gW, _, cW, rfl, _⟩ := row_own wr HO.out (i := 0) (by omega)
      have hcW : ∀ c, c < 16 → wr.cell? ⟨gW, c, none⟩ = some (rs.getD c undef) := fun c hc => by
        obtain ⟨g', h1, c', h2, h3⟩ := row_own wr HO.out hc
        injection h2 with e1 _ e3
        injection e1 with e1
        injection e1 with e1
        subst e1
        exact h3
      have hgW : gW < wr.heap.size := World.block_lt_of_cell? wr _ (hcW 0 (by omega))
      have HCW := Lib.hid hcW
      have HB4 := Lib.hid (HB2.out.trans (HB.out.mono HB2.out.size))
      clear hcW HO HB hlt hj hrl
      go_upto_region 13 with fail
      generalize hw4 : wr = w4 at *
      clear hw4
      have hown0 : (w4.alloc (.cells #[] 44)).ownsRow w4.heap.size 44 1 (.slice (some ⟨w4.heap.size, 0, none⟩) 0 0) 0 [] := World.ownsRow_made w4 #[] 0 (Nat.le_refl _) (by unfold maxLen; omega) rfl
      have hal := (Below.refl w4.heap.size w4).alloc (Nat.le_refl _) (.cells #[] 44)
      have HO := Lib.hid hown0; have HAL := Lib.hid hal
      clear hown0 hal
      obtain ⟨w5, hW⟩ : ∃ w5, w4.alloc (.cells #[] 44) = w5 := ⟨_, rfl⟩
      rw [hW] at HO HAL ⊢
      clear hW
      obtain ⟨v0, hv0⟩ : ∃ v0, Value.slice (some ⟨w4.heap.size, 0, none⟩) 0 0 = v0 := ⟨_, rfl⟩
      rw [hv0] at HO ⊢
      clear hv0
      go_wp2_with fail
      go_loopw [9, 43] (fun x z wr => ∃ (k : Nat) (ks : List Value), z = .int .i64 k ∧ k ≤ len ∧ ks.length = k ∧ Hid (wr.ownsRow w4.heap.size 44 1 x k ks) ∧ Hid (∀ i, i < k → IsRow wr (ks.getD i undef) (rowA l i)) ∧ Hid (Below w4.heap.size w4 wr)) (fun _ z _ => len - (intOf z).toNat)
      case atStart => exact ⟨0, [], rfl, by omega, rfl, HO, Lib.hid (fun i hi => by omega), HAL⟩
      case round =>
        clear HO HAL
        obtain ⟨k, ks, rfl, hk, hkl, HO, HK, HB⟩ := hrel
        by_cases hkn : k < len
        · have hkI : (k : Int) < len := by omega
          go_upto_region 17 with fail
          generalize hw6 : wr = w6 at *
          clear hw6
          have hown0 : (w6.alloc (.cells #[] 4)).ownsRow w6.heap.size 4 1 (.slice (some ⟨w6.heap.size, 0, none⟩) 0 0) 0 [] := World.ownsRow_made w6 #[] 0 (Nat.le_refl _) (by unfold maxLen; omega) rfl
          have hal := (Below.refl w6.heap.size w6).alloc (Nat.le_refl _) (.cells #[] 4)
          have HOB := Lib.hid hown0; have HAL := Lib.hid hal
          clear hown0 hal
          obtain ⟨w7, hW⟩ : ∃ w7, w6.alloc (.cells #[] 4) = w7 := ⟨_, rfl⟩
          rw [hW] at HOB HAL ⊢
          clear hW
          obtain ⟨v0, hv0⟩ : ∃ v0, Value.slice (some ⟨w6.heap.size, 0, none⟩) 0 0 = v0 := ⟨_, rfl⟩
          rw [hv0] at HOB ⊢
          clear hv0
          obtain ⟨RK, hRK⟩ : ∃ RK, rch l 16 k = RK := ⟨_, rfl⟩
          have HRK := Lib.hid hRK
          clear hRK
          go_wp2_with fail
          go_loopw [11, 12] (fun x z wr => ∃ (j : Nat), z = .int .i64 j ∧ j ≤ 16 ∧ (j = 0 ∨ RK = true) ∧ Hid (wr.ownsRow w6.heap.size 4 1 x j ((rowK l k j).map Value.bool)) ∧ Hid (Below w6.heap.size w6 wr)) (fun _ z _ => 16 - (intOf z).toNat)
          case atStart => exact ⟨0, rfl, by omega, .inl rfl, HOB, HAL⟩
          case round =>
            clear HOB HAL
            obtain ⟨j, rfl, hj, hj0, HOB, HBB⟩ := hrel
            have HBT := Lib.hid (HB.out.trans (HBB.out.mono HB.out.size))
            have hany : wr.cell? ⟨gA, k, none⟩ = some (.bool RK) := by
              obtain ⟨b, off, h1, h2⟩ := (HA.out.keep (KeepB.below HBT.out)).cell hkn
              injection h1 with h1
              injection h1 with e1 e2
              subst e1 e2
              rw [Nat.zero_add, bitsC_at l 16 k (by rw [HLEN.out]; exact hkn), HRK.out] at h2
              exact h2
            by_cases hgo : j < 16 ∧ RK = true
            · obtain ⟨hlt, rfl⟩ := hgo
              have hjI : (j : Int) < 16 := by omega
              have hcr : wr.cell? ⟨gW, j, none⟩ = some (rs.getD j undef) := (HBT.out.cell (p := ⟨gW, j, none⟩) hgW).trans (HCW.out j hlt)
              have hrow := (HR.out j hlt).keep (KeepB.below HBT.out)
              generalize rs.getD j undef = r at *
              obtain ⟨ra, rn, rc, rfl, hrn, _⟩ := id hrow
              have hrn2 : len = rn := by rw [← hrn, bitsC, List.length_map, List.length_range, HLEN.out]
              subst hrn2
              obtain ⟨rb, ro, rfl, hbit⟩ := hrow.cell hkn
              rw [bitsC_at l j k (by rw [HLEN.out]; exact hkn)] at hbit
              obtain ⟨A7, c7, rfl, _⟩ : ∃ A c, u11 = .slice A j c ∧ True := by
                rcases HOB.out.2 with ⟨rfl, h0⟩ | ⟨g, cap, cur, rfl, _⟩
                · exact ⟨_, _, by rw [h0], trivial⟩
                · exact ⟨_, _, rfl, trivial⟩
              have hsn := rowK_snoc l k j
              generalize rch l j k = bjk at *
              have HSN := Lib.hid hsn
              clear hsn hrow hrn
              go_wp2_with (first | (at_builtin; go_must (refine wpList_push _ _ 44 4 (news := [.bool (!bjk)]) HOB.out HBB.out (Nat.le_refl _) Try.underlying44 hiB hzB0 hzB1 hzB2 rfl (by decide) rfl rfl (by rfl) (by rfl) (by rfl) (by intro u hu; rw [List.mem_singleton.1 hu]; rfl) ⟨by omega, by omega⟩ ?_)))
              intro v6 w8 hown6 hb6
              rw [← HSN.out] at hown6
              have HON := Lib.hid hown6; have HBN := Lib.hid hb6
              clear hown6 hb6 HOB HBB HBT
              go_wp2_with fail
              go_roundw
              case rel => exact ⟨j + 1, by go_num, by omega, .inr trivial, HON, HBN⟩
              case measure => simp [intOf]; omega
            · have hrowA : rowA l k = rowK l k j := by
                unfold rowA
                rw [HRK.out]
                rcases hj0 with rfl | rfl
                · have : RK = false := by cases RK <;> simp at hgo ⊢
                  rw [this]; rfl
                · have : j = 16 := by
                    have : ¬ j < 16 := fun h => hgo ⟨h, rfl⟩
                    omega
                  rw [this]; rfl
              have hrow := own_row (bs := rowK l k j) (by rw [rowK_len]; exact HOB.out)
              rw [← hrowA] at hrow
              have HROW := Lib.hid hrow
              have HOO := Lib.hid (ckOwn_below HO.out HBB.out)
              have HKK := Lib.hid (fun i hi => (HK.out i hi).keep (KeepB.below HBB.out))
              obtain ⟨A7, c7, rfl, _⟩ : ∃ A c, u11 = .slice A j c ∧ True := by
                rcases HOB.out.2 with ⟨rfl, h0⟩ | ⟨g, cap, cur, rfl, _⟩
                · exact ⟨_, _, by rw [h0], trivial⟩
                · exact ⟨_, _, rfl, trivial⟩
              obtain ⟨A9, c9, rfl, _⟩ : ∃ A c, u9 = .slice A k c ∧ True := by
                rcases HOO.out.2 with ⟨rfl, h0⟩ | ⟨g, cap, cur, rfl, _⟩
                · exact ⟨_, _, by rw [h0], trivial⟩
                · exact ⟨_, _, rfl, trivial⟩
              have hw : (¬ (j : Int) < 16) ∨ ((j : Int) < 16 ∧ RK = false) := by
                by_cases h : j < 16
                · exact .inr ⟨by omega, by cases RK <;> simp at hgo ⊢; omega⟩
                · exact .inl (by omega)
              clear hrow hrowA HO HK HB HOB HBB hgo hj0
              rcases hw with hw | ⟨hw, rfl⟩
              all_goals
                go_wp2_with (first | (at_builtin; go_must (refine ckPush _ _ 27 44 (news := [.slice A7 j c7]) HOO.out HBT.out (Nat.le_refl _) Try.underlying27 hiS hzS0 hzS1 hzS2 rfl (by decide) rfl rfl (by rfl) (by rfl) (by rfl) (by intro u hu; rw [List.mem_singleton.1 hu]; rfl) ⟨by omega, by omega⟩ ?_)))
                intro v6 w8 hown6 hb6 hg6
                have hk6 := KeepB.grown HOO.out hg6
                have HRN := Lib.hid (snoc_rows (f := rowA l) hkl HKK.out hk6 HROW.out)
                have HON := Lib.hid hown6; have HBN := Lib.hid hb6
                clear hown6 hb6 hg6 hk6 HOO HBT HKK HROW hany
                go_wp2_with fail
                go_roundw
                case rel => exact ⟨k + 1, _, by go_num, by omega, by rw [List.length_append, hkl]; rfl, HON, HRN, HBN⟩
                case measure => simp [intOf]; omega
        · obtain rfl : k = len := by omega
          have hnl : ¬ (k : Int) < k := by omega
          have HF := Lib.hid (own_rows (rows := rowsL l) HO.out (by rw [rowsL, List.length_map, List.length_range, HLEN.out]) (fun i hi => by
            rw [rowsL_at l i (by rw [HLEN.out]; exact hi)]
            exact HK.out i hi))
          have HBF := Lib.hid (HB4.out.trans (HB.out.mono HB4.out.size))
          clear HO HK HB
          go_wp2_with fail
          go_ret2
          exact ⟨⟨_, rfl, HF.out⟩, HBF.out⟩
end Go.Proofs.Ytpdfahlglalebaa
