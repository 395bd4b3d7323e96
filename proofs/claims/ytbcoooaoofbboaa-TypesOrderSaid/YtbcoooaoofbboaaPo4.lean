/- A condition is copied to the bottom. -/
import Derived.Test.YtbcoooaoofbboaaPo3
import Derived.Test.YtbcoooaoofbboaaRow1
import Derived.Test.YtbcoooaoofbboaaResRow
import Derived.Lib.SliceRun
import Derived.Outline
import Derived.Deep.RegionHeld
namespace Go.Proofs.Ytbcoooaoofbboaa
open Go.RowKit Go.ChangeShapes
set_option linter.unusedVariables false
set_option linter.unusedSimpArgs false

set_option maxRecDepth 100000 in
set_option maxHeartbeats 1000000 in
theorem cloneCnds (A : Option Addr) (n c : Nat) (l : List Cnd) (w0 w : World) (h : IsCnds w0 (.slice A n c) l) (hw0 : Below w0.heap.size w0 w) (h1 : l.length ≤ 1000) :
    Calls Try.prog 51 #[.slice A n c] w fun e w' => (∃ v', e = .returned v' ∧ ((l = [] ∧ v' = .slice none 0 0) ∨ ∃ g cap ks, v' = .slice (some ⟨g, 0, none⟩) l.length cap ∧ KsOk w0 l ks ∧ w'.ownsRow w.heap.size 25 6 v' l.length (cndCells l ks))) ∧ Below w.heap.size w w' := by
  obtain ⟨i0, hi, hz0, hz1, hz2⟩ := info_parts infoCnd
  obtain ⟨a, len, cap, hv, rfl, hc1, hc2, hnil, hat⟩ := h
  injection hv with q1 q2 q3
  subst q1 q2 q3
  have heq := fun u => Lib.run_eql_slice_nil (P := Try.prog) u 22 25 A l.length c 0 0 Try.underlying22
  cases A with
  | none =>
    obtain rfl : l = [] := by
      rcases hat with h | ⟨b, off, h, _⟩
      · exact List.length_eq_zero_iff.1 h
      · cases h
    have heq0 := fun u => Lib.run_eql_slice_nil (P := Try.prog) u 22 25 none 0 c 0 0 Try.underlying22
    have heq1 := fun u => Lib.run_eql_slice_nil (P := Try.prog) u 22 25 none 0 0 0 0 Try.underlying22
    clear heq
    show Calls _ _ #[.slice none 0 c] _ _
    go_enter Try.func51, Try.ntmps51
    go_wp2_with fail
    go_ret
    exact ⟨by first | exact ⟨_, rfl, .inl ⟨rfl, rfl⟩⟩ | exact ⟨_, rfl, .inl rfl⟩ | exact ⟨_, rfl, rfl⟩ | rfl, Below.refl _ _⟩
  | some ad =>
    have hb61 := (Below.refl w.heap.size w).alloc (Nat.le_refl _) (.cells #[] 25)
    have hown0 : (w.alloc (.cells #[] 25)).ownsRow w.heap.size 25 6 (.slice (some ⟨w.heap.size, 0, none⟩) 0 0) 0 [] := World.ownsRow_made w #[] 0 (Nat.le_refl _) (by unfold maxLen; omega) rfl
    obtain ⟨ks, hks, hsrc⟩ : ∃ ks, KsOk w0 l ks ∧ ∀ j u, (cndCells l ks)[j]? = some u → (w.alloc (.cells #[] 25)).cell? (ad.add j) = some u := by
      rcases hat with h0 | ⟨b, off, e, hb, hk⟩
      · obtain rfl := List.length_eq_zero_iff.1 h0
        exact ⟨[], trivial, fun j u hj => by simp [cndCells] at hj⟩
      · cases e
        obtain ⟨ks, h2, h3⟩ := kids_cells l b off hk
        refine ⟨ks, h2, fun j u hj => ?_⟩
        rw [addr_add]
        exact ((hw0.trans (hb61.mono hw0.size)).cell (p := ⟨b, off + j, none⟩) hb).trans (h3 j u hj)
    have h1c := hks.one
    have hwl : (cndCells l ks).length = l.length * 6 := hks.len.2
    have HO := Lib.hid hown0; have HS := Lib.hid hsrc; have HWL := Lib.hid hwl; have HKS := Lib.hid hks; have H1C := Lib.hid h1c
    clear hown0 hsrc hat hwl hks h1c
    go_enter Try.func51, Try.ntmps51
    go_wp2_with (first | (at_builtin; go_must (refine wpList_extend _ _ 22 25 (cndCells l ks) HO.out hb61 (Nat.le_refl _) Try.underlying22 hi hz0 hz1 hz2 rfl (by decide) rfl rfl rfl rfl (.inr ⟨_, rfl, HS.out⟩) HWL.out H1C.out ?c2 ?_)))
    case c2 => omega
    intro v8 w8 hown8 hb8
    have hpost : (l = [] ∧ v8 = .slice none 0 0) ∨ ∃ g cap ks, v8 = .slice (some ⟨g, 0, none⟩) l.length cap ∧ KsOk w0 l ks ∧ w8.ownsRow w.heap.size 25 6 v8 l.length (cndCells l ks) := by
      rcases id hown8.2 with ⟨e, h0⟩ | ⟨g, cp, cur, e, _⟩
      · exact .inl ⟨List.length_eq_zero_iff.1 h0, e⟩
      · exact .inr ⟨g, cp, ks, e, HKS.out, hown8⟩
    have HP := Lib.hid hpost; have HB8 := Lib.hid hb8
    clear hpost hown8 hb8
    go_wp2_with fail
    go_ret
    exact ⟨⟨_, rfl, HP.out⟩, HB8.out⟩
theorem sizes_kid : ∀ (l : List Cnd) (i : Nat), i < l.length → (l.getD i cndZ).size ≤ sizes l
  | [], _, h => by simp at h
  | c :: l, 0, _ => by rw [sizes]; simp
  | c :: l, i + 1, h => by
    have := sizes_kid l i (by simpa using h)
    rw [sizes]
    simp only [List.getD_cons_succ]
    omega
theorem len_sizes : ∀ l : List Cnd, l.length ≤ sizes l
  | [] => Nat.zero_le _
  | c :: l => by
    have := len_sizes l
    have := c.size_eq
    rw [sizes, List.length_cons]
    omega
theorem ks_bounded {w : World} : ∀ {l : List Cnd} {ks : List Value}, KsOk w l ks → ∀ i, i < l.length → (l.getD i cndZ).bounded ∧ IsCnds w (ks.getD i undef) (l.getD i cndZ).kids
  | [], _, _, i, h => by simp at h
  | c :: l, [], h, _, _ => h.elim
  | c :: l, k :: ks, h, 0, _ => by simpa using ⟨h.1, h.2.1⟩
  | c :: l, k :: ks, h, i + 1, hi => by simpa using ks_bounded h.2.2 i (by simpa using hi)
theorem ks_get {w : World} : ∀ {l : List Cnd} {ks : List Value}, KsOk w l ks → ∀ i, i < l.length → ∀ q u, ((l.getD i cndZ).cells (ks.getD i undef))[q]? = some u → (cndCells l ks)[i * 6 + q]? = some u
  | [], _, _, i, h => by simp at h
  | c :: l, [], h, _, _ => h.elim
  | c :: l, k :: ks, h, 0, _ => fun q u hq => by
    have hq6 := cells_six _ _ _ _ hq
    rw [cndCells, Nat.zero_mul, Nat.zero_add, List.getElem?_append_left (by simp [Cnd.cells]; omega)]
    simpa using hq
  | c :: l, k :: ks, h, i + 1, hi => fun q u hq => by
    rw [cndCells, List.getElem?_append_right (by simp [Cnd.cells]; omega), show (c.cells k).length = 6 from rfl, show (i + 1) * 6 + q - 6 = i * 6 + q by omega]
    exact ks_get h.2.2 i (by simpa using hi) q u (by simpa using hq)
/-- the row that Clone made, ahead of the loop -/
theorem RowC.start {w w' : World} {base : Nat} {g cap : Nat} {l : List Cnd} {ks : List Value} (hk : KsOk w l ks) (ho : w'.ownsRow base 25 6 (.slice (some ⟨g, 0, none⟩) l.length cap) l.length (cndCells l ks)) : RowC w w' g l ks 0 ∧ base ≤ g ∧ l.length ≤ cap ∧ cap ≤ 9223372036854775807 := by
  rcases ho.2 with ⟨e, _⟩ | ⟨g', cap', cur, e, hb, hh, hn, hc, hcs, htake⟩
  · cases e
  · cases e
    refine ⟨⟨⟨cur, hh, by rw [hcs]; exact Nat.mul_le_mul_right _ hn, fun i hi q u hq => ?_⟩, hk.len.1, fun i hi => absurd hi (Nat.not_lt_zero i), fun i _ hi => (ks_bounded hk i hi).2⟩, hb, hn, by unfold maxLen at hc; exact hc⟩
    have h1 := ks_get hk i hi q u hq
    have h2 := ho.cells (g := g) rfl (i * 6 + q) u h1
    rw [addr_add, Nat.zero_add, cell_of_row w' g _ _ _ (0, 0) hh] at h2
    exact h2
theorem kids_bounded {w : World} {A : Option Addr} {n c : Nat} {l : List Cnd} (h : IsCnds w (.slice A n c) l) (i : Nat) (hi : i < l.length) : (l.getD i cndZ).bounded := by
  obtain ⟨a, len, cap, hv, h1, h2, h3, h4, h5⟩ := h
  rcases h5 with h0 | ⟨b, o, _, _, hk⟩
  · omega
  · exact ((cndAt_iff _ _ _ _).1 (kidsAt_get w l b o i hk hi)).1
theorem IsIn.same' {w w' : World} {base : Nat} {v : Value} {l : List Cnd} (h : IsIn w base v l) (h0 : l = []) : IsIn w' base v l := by
  obtain ⟨a, len, cap, rfl, h1, h2, h3, h4, h5⟩ := h
  subst h0
  exact ⟨a, len, cap, rfl, h1, h2, h3, h4, .inl h1.symm⟩
theorem cell_some {w : World} {g : Nat} {cur : Array Value} {T : TypeId} (h : w.heap[g]? = some (.cells cur T (0, 0))) (i : Nat) (hi : i < cur.size) : w.cell? ⟨g, i, none⟩ = some cur[i] := by
  rw [cell_of_row w g i _ _ (0, 0) h]
  exact Array.getElem?_eq_getElem hi
theorem six_other {w : World} {g V : Nat} (hne : V ≠ g) (o0 o1 o2 o3 o4 o5 : Nat) (v0 v1 v2 v3 v4 v5 : Value) :
    ((((((w.setCell ⟨g, o0, none⟩ v0).setCell ⟨g, o1, none⟩ v1).setCell ⟨g, o2, none⟩ v2).setCell ⟨g, o3, none⟩ v3).setCell ⟨g, o4, none⟩ v4).setCell ⟨g, o5, none⟩ v5).heap[V]? = w.heap[V]? := by
  rw [Below.heap_setCell _ _ _ _ hne, Below.heap_setCell _ _ _ _ hne, Below.heap_setCell _ _ _ _ hne, Below.heap_setCell _ _ _ _ hne, Below.heap_setCell _ _ _ _ hne, Below.heap_setCell _ _ _ _ hne]
theorem six_below {B : Nat} {a w : World} {g : Nat} (h : Below B a w) (hg : B ≤ g) (o0 o1 o2 o3 o4 o5 : Nat) (v0 v1 v2 v3 v4 v5 : Value) :
    Below B a ((((((w.setCell ⟨g, o0, none⟩ v0).setCell ⟨g, o1, none⟩ v1).setCell ⟨g, o2, none⟩ v2).setCell ⟨g, o3, none⟩ v3).setCell ⟨g, o4, none⟩ v4).setCell ⟨g, o5, none⟩ v5) :=
  (((((h.setCell (p := ⟨g, o0, none⟩) hg _).setCell (p := ⟨g, o1, none⟩) hg _).setCell (p := ⟨g, o2, none⟩) hg _).setCell (p := ⟨g, o3, none⟩) hg _).setCell (p := ⟨g, o4, none⟩) hg _).setCell (p := ⟨g, o5, none⟩) hg _
theorem RowC.go {w : World} {kn g c2 B : Nat} {A2 : Option Addr} {l : List Cnd} (hl : l.length = kn) (hg : B + 2 ≤ g) (h1 : l.length ≤ c2) (h2 : c2 ≤ 9223372036854775807) (hA : A2 = some ⟨g, 0, none⟩) (j : Nat) {wr : World} {ks : List Value} (h : RowC w wr g l ks (j + 1)) :
    (l = [] ∧ A2 = none ∧ c2 = 0) ∨ ∃ g ks, A2 = some ⟨g, 0, none⟩ ∧ RowC w wr g l ks (j + 1) ∧ B + 2 ≤ g ∧ l.length ≤ c2 ∧ c2 ≤ 9223372036854775807 := .inr ⟨g, ks, hA, h, hg, h1, h2⟩
set_option maxRecDepth 100000 in
set_option maxHeartbeats 8000000 in
theorem tyCopied : ∀ (N : Nat), N ≤ 1000 → ∀ (c : Cnd), c.size ≤ N → ∀ (v : Value) (w : World), IsCnd w v c →
    Calls Try.prog 41 #[v] w fun e w' => (∃ k', e = .returned (.agg (c.cells k').toArray) ∧ IsIn w' w.heap.size k' c.kids) ∧ Below w.heap.size w w' := by
  intro N
  induction N with
  | zero => intro _ c h; rw [c.size_eq] at h; omega
  | succ N ih =>
    intro hN c hsz v w h
    have IH := Lib.hid (ih (by omega))
    clear ih
    obtain ⟨hbd, k, rfl, hk⟩ := h
    obtain ⟨ka, kn, kc, rfl, hl, hc1, hc2, _⟩ := id hk
    have hss := c.size_eq
    have hls := len_sizes c.kids
    have hknI : (kn : Int) ≤ 1000 := by omega
    have hw1 := ((Below.refl w.heap.size w).alloc (Nat.le_refl _) (.cells #[.int .i64 c.kind, .slice ka kn kc, .int .i64 c.arg, .int .u64 (c.mask : Nat), .string c.sign, .int .u64 (c.value : Nat)] 25)).alloc (by simp) (.cells #[.int .i64 0, .slice none 0 0, .int .i64 0, .int .u64 0, .string ⟨#[]⟩, .int .u64 0] 25)
    have hB := (heap_alloc_old (w.alloc (.cells #[.int .i64 c.kind, .slice ka kn kc, .int .i64 c.arg, .int .u64 (c.mask : Nat), .string c.sign, .int .u64 (c.value : Nat)] 25)) (.cells #[.int .i64 0, .slice none 0 0, .int .i64 0, .int .u64 0, .string ⟨#[]⟩, .int .u64 0] 25) (r := w.heap.size) (by simp)).trans (heap_alloc_new w (.cells #[.int .i64 c.kind, .slice ka kn kc, .int .i64 c.arg, .int .u64 (c.mask : Nat), .string c.sign, .int .u64 (c.value : Nat)] 25))
    have hR := heap_alloc_new (w.alloc (.cells #[.int .i64 c.kind, .slice ka kn kc, .int .i64 c.arg, .int .u64 (c.mask : Nat), .string c.sign, .int .u64 (c.value : Nat)] 25)) (.cells #[.int .i64 0, .slice none 0 0, .int .i64 0, .int .u64 0, .string ⟨#[]⟩, .int .u64 0] 25)
    rw [World.size_alloc] at hR
    have HCL := Lib.hid (fun u (hu : Below w.heap.size w u) => cloneCnds ka kn kc c.kids w u hk hu (by omega))
    have HSS := Lib.hid (show ∀ i, i < c.kids.length → (c.kids.getD i cndZ).size ≤ N from fun i hi => by have := sizes_kid c.kids i hi; omega)
    have HBD := Lib.hid hbd; have HL := Lib.hid hl
    have HKB := Lib.hid (kids_bounded hk)
    have hmin : -9223372036854775808 ≤ c.kind ∧ c.kind ≤ 9223372036854775807 := hbd.1
    clear hk hbd hl hc1 hc2 hss hls hsz hmin
    show Calls _ _ #[.agg #[.int .i64 c.kind, .slice ka kn kc, .int .i64 c.arg, .int .u64 (c.mask : Nat), .string c.sign, .int .u64 (c.value : Nat)]] _ _
    go_enter Try.func41, Try.ntmps41
    go_upto_region 1 with fail
    obtain ⟨W, hW⟩ : ∃ W, (w.alloc (.cells #[.int .i64 c.kind, .slice ka kn kc, .int .i64 c.arg, .int .u64 (c.mask : Nat), .string c.sign, .int .u64 (c.value : Nat)] 25)).alloc (.cells #[.int .i64 0, .slice none 0 0, .int .i64 0, .int .u64 0, .string ⟨#[]⟩, .int .u64 0] 25) = W := ⟨_, rfl⟩
    rw [hW] at hw1 hB hR ⊢
    obtain ⟨B, hBB⟩ : ∃ B, w.heap.size = B := ⟨_, rfl⟩
    rw [hBB] at hB hR
    (try rw [hBB])
    have HB := Lib.hid hB; have HR := Lib.hid hR; have HW1 := Lib.hid hw1; have HBB := Lib.hid hBB
    clear hW hw1 hB hR hBB
    have d1 := below_cell (Below.refl _ W) HB.out 1 rfl
    go_upto_region 2 with (first | (go_at_call 51; refine (HCL.out _ HW1.out).mono ?_; rintro e w2 ⟨⟨v2, rfl, hv2⟩, hb2⟩; have z1 := below_cell hb2 HB.out 1 rfl; have f1 := block_frozen ((hb2.block _ (lt_of_block HB.out)).trans HB.out) 1; have HV2 := Lib.hid hv2; have hf2 : ∃ A2 c2, v2 = .slice A2 kn c2 := (by rcases hv2 with ⟨h0, e⟩ | ⟨g, cap, ks, e, _⟩; exact ⟨none, 0, by rw [e, ← HL.out, h0]; rfl⟩; exact ⟨_, _, by rw [e, HL.out]⟩); obtain ⟨A2, c2, rfl⟩ := hf2; clear hv2))
    obtain ⟨w3, hW3⟩ : ∃ w3, w2.setCell ⟨B, 1, none⟩ (.slice A2 kn c2) = w3 := ⟨_, rfl⟩
    rw [hW3]
    have hb23 : w.heap.size ≤ w2.heap.size := Nat.le_trans HW1.out.size hb2.size
    have hBw : w.heap.size ≤ B := Nat.le_of_eq HBB.out
    have hB2 := (hb2.block _ (lt_of_block HB.out)).trans HB.out
    have hB3 : w3.heap[B]? = some (.cells #[.int .i64 c.kind, .slice A2 kn c2, .int .i64 c.arg, .int .u64 (c.mask : Nat), .string c.sign, .int .u64 (c.value : Nat)] 25 (0, 0)) := by rw [← hW3]; exact block_set hB2 1 _
    have hne : B + 1 ≠ B := by omega
    have hR3 : w3.heap[B + 1]? = some (.cells #[.int .i64 0, .slice none 0 0, .int .i64 0, .int .u64 0, .string ⟨#[]⟩, .int .u64 0] 25 (0, 0)) := by rw [← hW3]; exact (Below.heap_setCell _ _ _ _ hne).trans ((hb2.block _ (lt_of_block HR.out)).trans HR.out)
    have hW3b : Below w.heap.size w w3 := by rw [← hW3]; exact (HW1.out.trans (hb2.mono HW1.out.size)).setCell hBw _
    have hsz3 : w3.heap.size = w2.heap.size := by rw [← hW3]; simp [World.setCell]
    have hBs : B + 1 < W.heap.size := lt_of_block HR.out
    have hstart : (c.kids = [] ∧ A2 = none ∧ c2 = 0) ∨ ∃ g ks, A2 = some ⟨g, 0, none⟩ ∧ RowC w w3 g c.kids ks 0 ∧ B + 2 ≤ g ∧ c.kids.length ≤ c2 ∧ c2 ≤ 9223372036854775807 := by
      rcases HV2.out with ⟨h0, e⟩ | ⟨g, cap, ks, e, hks, ho⟩
      · injection e with e1 e2 e3
        exact .inl ⟨h0, e1, e3⟩
      · injection e with e1 e2 e3
        subst e1 e3
        have hgB : W.heap.size ≤ g := by
          rcases ho.2 with ⟨e, _⟩ | ⟨g', cap', cur, e, hb, _⟩
          · cases e
          · cases e; exact hb
        have ho3 : w3.ownsRow W.heap.size 25 6 (.slice (some ⟨g, 0, none⟩) c.kids.length c2) c.kids.length (cndCells c.kids ks) := by
          rw [← hW3]
          have h5 := ho
          rw [HL.out] at h5 ⊢
          exact own_put h5 (by simp [Value.ownBlock]; omega) 1 _
        exact .inr ⟨g, ks, rfl, (RowC.start hks ho3).1, by omega, (RowC.start hks ho3).2.2.1, (RowC.start hks ho3).2.2.2⟩
    have HST := Lib.hid hstart; have HB3 := Lib.hid hB3; have HR3 := Lib.hid hR3; have HW3 := Lib.hid hW3b; have HBS := Lib.hid (show B + 2 ≤ w3.heap.size by rw [hsz3]; have := hb2.size; omega)
    clear hW3 hb23 hBw hB2 hB3 hne hR3 hW3b hsz3 hBs hstart hb2 z1 f1 d1 HV2 HB HR HW1 HCL
    have d1 := below_cell (Below.refl _ w3) HB3.out 1 rfl
    go_upto_region 3 with fail
    clear d1
    go_loopw [12] (fun z wr => ∃ j : Nat, z = .int .i64 (j : Nat) ∧ j ≤ kn ∧ Hid (wr.heap[B]? = some (.cells #[.int .i64 c.kind, .slice A2 kn c2, .int .i64 c.arg, .int .u64 (c.mask : Nat), .string c.sign, .int .u64 (c.value : Nat)] 25 (0, 0))) ∧ Hid (wr.heap[B + 1]? = some (.cells #[.int .i64 0, .slice none 0 0, .int .i64 0, .int .u64 0, .string ⟨#[]⟩, .int .u64 0] 25 (0, 0))) ∧ Hid (Below w.heap.size w wr) ∧ Hid (B + 2 ≤ wr.heap.size) ∧ Hid ((c.kids = [] ∧ A2 = none ∧ c2 = 0) ∨ ∃ g ks, A2 = some ⟨g, 0, none⟩ ∧ RowC w wr g c.kids ks j ∧ B + 2 ≤ g ∧ c.kids.length ≤ c2 ∧ c2 ≤ 9223372036854775807)) (fun z _ => kn - (intOf z).toNat)
    case atStart => exact ⟨0, rfl, Nat.zero_le _, HB3, HR3, HW3, HBS, HST⟩
    case round =>
      clear HB3 HR3 HW3 HBS HST
      obtain ⟨j, rfl, hj, HB3, HR3, HW3, HBS, HST⟩ := hrel
      by_cases hlt : j < kn
      · obtain ⟨g, js, rfl, hrow, hg, hcl, hcm⟩ : ∃ g ks, A2 = some ⟨g, 0, none⟩ ∧ RowC w wr g c.kids ks j ∧ B + 2 ≤ g ∧ c.kids.length ≤ c2 ∧ c2 ≤ 9223372036854775807 := by
          rcases HST.out with ⟨h0, _⟩ | h
          · have := HL.out; rw [h0] at this; simp at this; omega
          · exact h
        have hjl : j < c.kids.length := by rw [HL.out]; exact hlt
        have hjI : (j : Int) < kn := by omega
        have hcI : (kn : Int) ≤ c2 := by rw [HL.out] at hcl; omega
        have hcmI : (c2 : Int) ≤ 9223372036854775807 := by omega
        have hstep := fun w8 (hb : Below wr.heap.size wr w8) k' hk => hrow.step hjl hb (k' := k') hk
        have hkids := hrow.rest j (Nat.le_refl _) hjl
        have hbdj : (c.kids.getD j cndZ).bounded := HKB.out j hjl
        have hsj := HSS.out j hjl
        have hnx := fun (u : World) (ks : List Value) (h : RowC w u g c.kids ks (j + 1)) => RowC.go (kn := kn) HL.out hg hcl hcm (A2 := some ⟨g, 0, none⟩) rfl j h
        obtain ⟨cur, hcur, hcsz, hcells⟩ := hrow.blk
        have hce := fun q u h => (cell_of_row wr g (j * 6 + q) _ _ (0, 0) hcur).trans (hcells j hjl q u h)
        have hglt := lt_of_block hcur
        generalize hkdd : c.kids.getD j cndZ = kd at *
        obtain ⟨kind, kids, arg, mask, sign, value⟩ := kd
        simp only [Cnd.kind, Cnd.arg, Cnd.mask, Cnd.sign, Cnd.value, Cnd.kids] at hstep hkids
        generalize js.getD j undef = kv at *
        obtain ⟨ca, cn, cc, rfl, _⟩ := id hkids
        have e0 := hce 0 _ rfl
        have e1 := hce 1 _ rfl
        have e2 := hce 2 _ rfl
        have e3 := hce 3 _ rfl
        have e4 := hce 4 _ rfl
        have e5 := hce 5 _ rfl
        rw [Nat.add_zero] at e0
        simp only [Cnd.kind, Cnd.arg, Cnd.mask, Cnd.sign, Cnd.value] at e0 e1 e2 e3 e4 e5
        have d1 := below_cell (Below.refl _ wr) HB3.out 1 rfl
        have HSTP := Lib.hid hstep; have HKI := Lib.hid hkids; have HBDJ := Lib.hid hbdj; have HSJ := Lib.hid hsj; have HCU := Lib.hid hcur; have HLT := Lib.hid hlt; have HG := Lib.hid (And.intro hg hglt); have HNX := Lib.hid hnx; have HCSZ := Lib.hid hcsz
        clear hstep hkids hbdj hsj hcur hcells hce hlt hrow hjl hcsz HST hnx hkdd hg hglt
        go_upto_region 5 with fail
        obtain ⟨w7, hw7⟩ : ∃ w7, wr.alloc (.cells #[.int .i64 kind, .slice ca cn cc, .int .i64 arg, .int .u64 (mask : Nat), .string sign, .int .u64 (value : Nat)] 25) = w7 := ⟨_, rfl⟩
        obtain ⟨b7, hb7⟩ : ∃ b7, wr.heap.size = b7 := ⟨_, rfl⟩
        have hn7 := heap_alloc_new wr (.cells #[.int .i64 kind, .slice ca cn cc, .int .i64 arg, .int .u64 (mask : Nat), .string sign, .int .u64 (value : Nat)] 25)
        have hy7 := (Below.refl wr.heap.size wr).alloc (Nat.le_refl _) (.cells #[.int .i64 kind, .slice ca cn cc, .int .i64 arg, .int .u64 (mask : Nat), .string sign, .int .u64 (value : Nat)] 25)
        rw [hw7] at hn7 hy7 ⊢
        rw [hb7] at hn7
        (try rw [hb7])
        have hB7 := (hy7.block _ (lt_of_block HB3.out)).trans HB3.out
        have HN7 := Lib.hid hn7; have HY7 := Lib.hid hy7; have HB7 := Lib.hid hB7; have Hb7 := Lib.hid hb7
        clear hn7 hy7 hB7 hw7 hb7 e0 e1 e2 e3 e4 e5 d1
        have HKS := Lib.hid (fun (u : World) (hu : Below w7.heap.size w7 u) => (show u.cell? ⟨B, 1, none⟩ = some (.slice (some ⟨g, 0, none⟩) kn c2) ∧ u.cell? ⟨b7, 0, none⟩ = some (.int .i64 kind) ∧ u.cell? ⟨b7, 1, none⟩ = some (.slice ca cn cc) ∧ u.cell? ⟨b7, 2, none⟩ = some (.int .i64 arg) ∧ u.cell? ⟨b7, 3, none⟩ = some (.int .u64 (mask : Nat)) ∧ u.cell? ⟨b7, 4, none⟩ = some (.string sign) ∧ u.cell? ⟨b7, 5, none⟩ = some (.int .u64 (value : Nat)) from ⟨below_cell hu HB7.out 1 rfl, below_cell hu HN7.out 0 rfl, below_cell hu HN7.out 1 rfl, below_cell hu HN7.out 2 rfl, below_cell hu HN7.out 3 rfl, below_cell hu HN7.out 4 rfl, below_cell hu HN7.out 5 rfl⟩))
        refine wp_region_held_drew (S := fun u => u.cell? ⟨B, 1, none⟩ = some (.slice (some ⟨g, 0, none⟩) kn c2) ∧ u.cell? ⟨b7, 0, none⟩ = some (.int .i64 kind) ∧ u.cell? ⟨b7, 1, none⟩ = some (.slice ca cn cc) ∧ u.cell? ⟨b7, 2, none⟩ = some (.int .i64 arg) ∧ u.cell? ⟨b7, 3, none⟩ = some (.int .u64 (mask : Nat)) ∧ u.cell? ⟨b7, 4, none⟩ = some (.string sign) ∧ u.cell? ⟨b7, 5, none⟩ = some (.int .u64 (value : Nat))) (by kernel_rfl) (HKS.out _ (Below.refl _ _).drew) (fun hS => ?_)
        have HDR := Lib.hid (Below.refl w7.heap.size w7).drew
        obtain ⟨Wd, hWd⟩ : ∃ Wd, w7.drew = Wd := ⟨_, rfl⟩
        rw [hWd] at hS HDR ⊢
        clear hWd
        have HIC := Lib.hid (show Calls Try.prog 41 #[.agg #[.int .i64 kind, .slice ca cn cc, .int .i64 arg, .int .u64 (mask : Nat), .string sign, .int .u64 (value : Nat)]] Wd (fun e w' => (∃ k', e = .returned (.agg #[.int .i64 kind, k', .int .i64 arg, .int .u64 (mask : Nat), .string sign, .int .u64 (value : Nat)]) ∧ IsIn w' Wd.heap.size k' kids) ∧ Below Wd.heap.size Wd w') from IH.out (.mk kind kids arg mask sign value) HSJ.out (.agg #[.int .i64 kind, .slice ca cn cc, .int .i64 arg, .int .u64 (mask : Nat), .string sign, .int .u64 (value : Nat)]) Wd ⟨HBDJ.out, _, rfl, (HKI.out.below HW3.out).below (HY7.out.trans (HDR.out.mono HY7.out.size))⟩)
        refine wpAnyH_take (i := 0) (v := (.pointer (some ⟨B, 1, none⟩))) rfl (by kernel_rfl) (by kernel_rfl) (by kernel_rfl) (fun _ _ _ h => h) (Or.inl ⟨by rfl, fun w hSw => ?_⟩) (by assumption) ?_
        · clear hSw; go_simp
        try simp only [Act.put, List.setIfInBounds_toArray, List.set_cons_zero, List.set_cons_succ]
        refine wpAnyH_take (i := 2) (v := (.int .i64 (j : Nat))) rfl (by kernel_rfl) (by kernel_rfl) (by kernel_rfl) (fun _ _ _ h => h) (Or.inl ⟨by rfl, fun w hSw => ?_⟩) (by assumption) ?_
        · clear hSw; go_simp
        try simp only [Act.put, List.setIfInBounds_toArray, List.set_cons_zero, List.set_cons_succ]
        refine wpAnyH_take (i := 3) (v := (.agg #[.int .i64 kind, .slice ca cn cc, .int .i64 arg, .int .u64 (mask : Nat), .string sign, .int .u64 (value : Nat)])) rfl (by kernel_rfl) (by kernel_rfl) (by kernel_rfl) (fun _ _ _ h => h) (Or.inl ⟨by rfl, fun w hSw => ?_⟩) (by assumption) ?_
        · obtain ⟨t0, t1, t2, t3, t4, t5, t6⟩ := hSw
          go_simp
        try simp only [Act.put, List.setIfInBounds_toArray, List.set_cons_zero, List.set_cons_succ]
        refine wpAnyH_take (i := 1) (v := (.slice (some ⟨g, 0, none⟩) kn c2)) rfl (by kernel_rfl) (by kernel_rfl) (by kernel_rfl) (fun _ _ _ h => h) (Or.inl ⟨by rfl, fun w hSw => ?_⟩) (by assumption) ?_
        · obtain ⟨t0, t1, t2, t3, t4, t5, t6⟩ := hSw
          go_simp
        try simp only [Act.put, List.setIfInBounds_toArray, List.set_cons_zero, List.set_cons_succ]
        refine wpAnyH_ready (rs := [4]) (by kernel_rfl) (by simp) ?_
        refine AllReadyH.cons rfl (fun K hK => ?_) AllReadyH.nil
        go_simp
        refine HIC.out.mono ?_
        rintro e w8 ⟨⟨k8, rfl, hk8⟩, hb8⟩
        obtain ⟨ka8, kn8, kc8, rfl, _⟩ := id hk8
        have hbA := HY7.out.trans (HDR.out.mono HY7.out.size)
        have hb78 := HDR.out.trans (hb8.mono HDR.out.size)
        have hbr8 := hbA.trans (hb8.mono hbA.size)
        refine hK.out _ _ (HKS.out _ hb78) (fun hS => ?_)
        clear hK K
        try simp only [Act.put, List.setIfInBounds_toArray, List.set_cons_zero, List.set_cons_succ]
        refine wpAnyH_ready (rs := [5]) (by kernel_rfl) (by simp) ?_
        refine AllReadyH.cons rfl (fun K hK => ?_) AllReadyH.nil
        go_simp
        refine hK.out _ _ hS (fun hS => ?_)
        clear hK K
        try simp only [Act.put, List.setIfInBounds_toArray, List.set_cons_zero, List.set_cons_succ]
        have hg8 := (hbr8.block _ HG.out.2).trans HCU.out
        have hk9 := hk8.same (SameOn.of_below _ (Below.refl _ _)) (show g + 1 ≤ Wd.heap.size by have := HG.out.2; have := hbA.size; omega)
        have hr9 := HSTP.out w8 hbr8 _ hk9
        have z0 := cell_some hg8 (j * 6) (by have := HCSZ.out; have := HLT.out; have := HL.out; omega)
        have z1 := cell_some hg8 (j * 6 + 1) (by have := HCSZ.out; have := HLT.out; have := HL.out; omega)
        have z2 := cell_some hg8 (j * 6 + 2) (by have := HCSZ.out; have := HLT.out; have := HL.out; omega)
        have z3 := cell_some hg8 (j * 6 + 3) (by have := HCSZ.out; have := HLT.out; have := HL.out; omega)
        have z4 := cell_some hg8 (j * 6 + 4) (by have := HCSZ.out; have := HLT.out; have := HL.out; omega)
        have z5 := cell_some hg8 (j * 6 + 5) (by have := HCSZ.out; have := HLT.out; have := HL.out; omega)
        have f0 := block_frozen hg8 (j * 6)
        have f1 := block_frozen hg8 (j * 6 + 1)
        have f2 := block_frozen hg8 (j * 6 + 2)
        have f3 := block_frozen hg8 (j * 6 + 3)
        have f4 := block_frozen hg8 (j * 6 + 4)
        have f5 := block_frozen hg8 (j * 6 + 5)
        have HR9 := Lib.hid hr9; have HBR8 := Lib.hid hbr8
        clear hr9 hg8 hk9 hk8 hb8 hb78 hbr8 hbA
        refine wpAnyH_ready (rs := [6]) (by kernel_rfl) (by simp) ?_
        refine AllReadyH.cons rfl (fun K hK => ?_) AllReadyH.nil
        go_simp
        have hB8 : w8.heap[B]? = some (.cells #[.int .i64 c.kind, .slice (some ⟨g, 0, none⟩) kn c2, .int .i64 c.arg, .int .u64 (c.mask : Nat), .string c.sign, .int .u64 (c.value : Nat)] 25 (0, 0)) := (HBR8.out.block _ (lt_of_block HB3.out)).trans HB3.out
        have hR8 : w8.heap[B + 1]? = _ := (HBR8.out.block _ (lt_of_block HR3.out)).trans HR3.out
        have hx : ∀ o0 o1 o2 o3 o4 o5 v0 v1 v2 v3 v4 v5, ∀ V, V ≠ g → ((((((w8.setCell ⟨g, o0, none⟩ v0).setCell ⟨g, o1, none⟩ v1).setCell ⟨g, o2, none⟩ v2).setCell ⟨g, o3, none⟩ v3).setCell ⟨g, o4, none⟩ v4).setCell ⟨g, o5, none⟩ v5).heap[V]? = w8.heap[V]? := fun o0 o1 o2 o3 o4 o5 v0 v1 v2 v3 v4 v5 V hV => six_other hV o0 o1 o2 o3 o4 o5 v0 v1 v2 v3 v4 v5
        have hgB : B ≠ g := by have := HG.out.1; omega
        have hgB1 : B + 1 ≠ g := by have := HG.out.1; omega
        have hgb7 : b7 ≠ g := by have := HG.out.2; have := Hb7.out; omega
        have hfin := six_below (HW3.out.trans (HBR8.out.mono HW3.out.size)) (show w.heap.size ≤ g by have := HG.out.1; have := HBB.out; omega) (j * 6) (j * 6 + 1) (j * 6 + 2) (j * 6 + 3) (j * 6 + 4) (j * 6 + 5) (.int .i64 kind) (.slice ka8 kn8 kc8) (.int .i64 arg) (.int .u64 (mask : Nat)) (.string sign) (.int .u64 (value : Nat))
        have hszf : B + 2 ≤ ((((((w8.setCell ⟨g, j * 6, none⟩ (.int .i64 kind)).setCell ⟨g, j * 6 + 1, none⟩ (.slice ka8 kn8 kc8)).setCell ⟨g, j * 6 + 2, none⟩ (.int .i64 arg)).setCell ⟨g, j * 6 + 3, none⟩ (.int .u64 (mask : Nat))).setCell ⟨g, j * 6 + 4, none⟩ (.string sign)).setCell ⟨g, j * 6 + 5, none⟩ (.int .u64 (value : Nat))).heap.size := by
          simp [World.setCell]; have := HBS.out; have := HBR8.out.size; omega
        have HFIN := Lib.hid hfin; have HSZF := Lib.hid hszf
        have HB9 := Lib.hid ((hx (j * 6) (j * 6 + 1) (j * 6 + 2) (j * 6 + 3) (j * 6 + 4) (j * 6 + 5) (.int .i64 kind) (.slice ka8 kn8 kc8) (.int .i64 arg) (.int .u64 (mask : Nat)) (.string sign) (.int .u64 (value : Nat)) B hgB).trans hB8)
        have HR9' := Lib.hid ((hx (j * 6) (j * 6 + 1) (j * 6 + 2) (j * 6 + 3) (j * 6 + 4) (j * 6 + 5) (.int .i64 kind) (.slice ka8 kn8 kc8) (.int .i64 arg) (.int .u64 (mask : Nat)) (.string sign) (.int .u64 (value : Nat)) (B + 1) hgB1).trans hR8)
        have HSC := Lib.hid (fun (V o : Nat) (hV : V ≠ g) => cell_of_heap (o := o) (hx (j * 6) (j * 6 + 1) (j * 6 + 2) (j * 6 + 3) (j * 6 + 4) (j * 6 + 5) (.int .i64 kind) (.slice ka8 kn8 kc8) (.int .i64 arg) (.int .u64 (mask : Nat)) (.string sign) (.int .u64 (value : Nat)) V hV))
        clear hx hB8 hR8 hfin hszf
        refine hK.out _ _ ⟨(HSC.out B 1 hgB).trans hS.1, (HSC.out b7 0 hgb7).trans hS.2.1, (HSC.out b7 1 hgb7).trans hS.2.2.1, (HSC.out b7 2 hgb7).trans hS.2.2.2.1, (HSC.out b7 3 hgb7).trans hS.2.2.2.2.1, (HSC.out b7 4 hgb7).trans hS.2.2.2.2.2.1, (HSC.out b7 5 hgb7).trans hS.2.2.2.2.2.2⟩ (fun hS => ?_)
        clear hK K hS z0 z1 z2 z3 z4 z5 f0 f1 f2 f3 f4 f5 HSC
        try simp only [Act.put, List.setIfInBounds_toArray, List.set_cons_zero, List.set_cons_succ]
        refine wpAnyH_done (by kernel_rfl) ?_ _
        have HXX := Lib.hid (HNX.out _ _ HR9.out)
        obtain ⟨w9, hw9⟩ : ∃ w9, ((((((w8.setCell ⟨g, j * 6, none⟩ (.int .i64 kind)).setCell ⟨g, j * 6 + 1, none⟩ (.slice ka8 kn8 kc8)).setCell ⟨g, j * 6 + 2, none⟩ (.int .i64 arg)).setCell ⟨g, j * 6 + 3, none⟩ (.int .u64 (mask : Nat))).setCell ⟨g, j * 6 + 4, none⟩ (.string sign)).setCell ⟨g, j * 6 + 5, none⟩ (.int .u64 (value : Nat))) = w9 := ⟨_, rfl⟩
        rw [hw9] at HFIN HSZF HB9 HR9' HXX ⊢
        clear hw9 hgB hgB1 hgb7 HR9 HNX
        go_wp2_with fail
        go_roundw
        case rel =>
          first
          | exact ⟨j + 1, by go_num, by have := HLT.out; omega, HB9, HR9', HFIN, HSZF, HXX⟩
          | (repeat apply Exists.intro; exact ⟨⟨j + 1, by go_num, by have := HLT.out; omega, HB9, HR9', HFIN, HSZF, HXX⟩, rfl⟩)
        case measure => have := HLT.out; simp [intOf]; omega
      · obtain rfl : j = kn := by omega
        have hin : IsIn wr w.heap.size (.slice A2 j c2) c.kids := by
          rcases HST.out with ⟨h0, h1, h2⟩ | ⟨g, ks, h1, h2, h3, h4, h5⟩
          · subst h1 h2
            have := HL.out
            rw [h0] at this ⊢
            have h7 : j = 0 := this.symm
            exact ⟨none, j, 0, rfl, this, by omega, by omega, fun _ => rfl, .inl h7⟩
          · subst h1
            have h6 := HL.out
            subst h6
            exact h2.all HKB.out h4 h5 (by have := HBB.out; omega)
        have d0 := below_cell (Below.refl _ wr) HB3.out 0 rfl
        have d1 := below_cell (Below.refl _ wr) HB3.out 1 rfl
        have d2 := below_cell (Below.refl _ wr) HB3.out 2 rfl
        have d3 := below_cell (Below.refl _ wr) HB3.out 3 rfl
        have d4 := below_cell (Below.refl _ wr) HB3.out 4 rfl
        have d5 := below_cell (Below.refl _ wr) HB3.out 5 rfl
        have z0 := below_cell (Below.refl _ wr) HR3.out 0 rfl
        have z1 := below_cell (Below.refl _ wr) HR3.out 1 rfl
        have z2 := below_cell (Below.refl _ wr) HR3.out 2 rfl
        have z3 := below_cell (Below.refl _ wr) HR3.out 3 rfl
        have z4 := below_cell (Below.refl _ wr) HR3.out 4 rfl
        have z5 := below_cell (Below.refl _ wr) HR3.out 5 rfl
        have f0 := block_frozen HR3.out 0
        have f1 := block_frozen HR3.out 1
        have f2 := block_frozen HR3.out 2
        have f3 := block_frozen HR3.out 3
        have f4 := block_frozen HR3.out 4
        have f5 := block_frozen HR3.out 5
        have HIN := Lib.hid hin
        have HEND := Lib.hid (show IsIn ((((((wr.setCell ⟨B + 1, 0, none⟩ (.int .i64 c.kind)).setCell ⟨B + 1, 1, none⟩ (.slice A2 j c2)).setCell ⟨B + 1, 2, none⟩ (.int .i64 c.arg)).setCell ⟨B + 1, 3, none⟩ (.int .u64 (c.mask : Nat))).setCell ⟨B + 1, 4, none⟩ (.string c.sign)).setCell ⟨B + 1, 5, none⟩ (.int .u64 (c.value : Nat))) w.heap.size (.slice A2 j c2) c.kids from by
          rcases HST.out with ⟨h0, h1, h2⟩ | ⟨g, ks, h1, h2, h3, h4, h5⟩
          · exact hin.same' h0
          · subst h1
            have h6 := HL.out
            subst h6
            refine (h2.all HKB.out h4 h5 h3).same ?_ (by have := HBB.out; omega)
            exact ((((((SameOn.of_below (B + 2) (Below.refl wr.heap.size wr)).set (p := ⟨B + 1, 0, none⟩) (Nat.lt_succ_self _) _).set (p := ⟨B + 1, 1, none⟩) (Nat.lt_succ_self _) _).set (p := ⟨B + 1, 2, none⟩) (Nat.lt_succ_self _) _).set (p := ⟨B + 1, 3, none⟩) (Nat.lt_succ_self _) _).set (p := ⟨B + 1, 4, none⟩) (Nat.lt_succ_self _) _).set (p := ⟨B + 1, 5, none⟩) (Nat.lt_succ_self _) _)
        have HBE := Lib.hid (six_below HW3.out (show w.heap.size ≤ B + 1 by have := HBB.out; omega) 0 1 2 3 4 5 (.int .i64 c.kind) (.slice A2 j c2) (.int .i64 c.arg) (.int .u64 (c.mask : Nat)) (.string c.sign) (.int .u64 (c.value : Nat)))
        clear hin HST HIN
        go_wp2_with fail
        exact bodyPost_ret (v := .agg #[.int .i64 c.kind, .slice A2 j c2, .int .i64 c.arg, .int .u64 (c.mask : Nat), .string c.sign, .int .u64 (c.value : Nat)]) (results_cell_row rfl _ _ (B + 1) 25 #[.int .i64 c.kind, .slice A2 j c2, .int .i64 c.arg, .int .u64 (c.mask : Nat), .string c.sign, .int .u64 (c.value : Nat)] (0, 0) _ rfl (set6_block HR3.out _ _ _ _ _ _) Try.underlying25 rfl (by kernel_rfl)) rfl ⟨⟨_, rfl, HEND.out⟩, HBE.out⟩
end Go.Proofs.Ytbcoooaoofbboaa
