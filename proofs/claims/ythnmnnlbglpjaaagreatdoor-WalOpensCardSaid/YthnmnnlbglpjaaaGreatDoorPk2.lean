/- Wl5, Wl6, InsW, Wl7, Wl8, in one text. -/
import Derived.Test.YthnmnnlbglpjaaaGreatDoorPk1
import Derived.Test.YthnmnnlbglpjaaaGreatDoorPkC
import Derived.Deep.RegionWith
import Derived.Test.YthnmnnlbglpjaaaGreatDoorPkB
import Derived.Test.YthnmnnlbglpjaaaGreatDoorPkA
import Derived.Laws.CopyOwn
import Derived.Lib.AppendZerosOnto
import Derived.Lib.Overlaps
import Derived.Laws.Externs
import Derived.Deep.RegionLaw
import Derived.StillTailTactics
import Derived.Test.YthnmnnlbglpjaaaGreatDoorPkD
namespace Go.Proofs.YthnmnnlbglpjaaaGreatDoor
section SWl5
open Go.RowKit
set_option linter.unusedVariables false
set_option linter.unusedSimpArgs false

def IsCls (w : World) (T : Nat) (o : Outc) : Prop := ∃ sv pv, w.heap[T]? = some (.cells #[sv, pv, .int .i64 o.left, .int .i64 o.code] 59 (0, 0)) ∧ IsPower w (.agg #[sv, pv, .int .i64 o.left]) o.dsk o.left
def flS (o : Outc) : Outc := if o.code = 0 then flO o.dsk o.left else o
def wrS (o : Outc) (x : Wrt) : Outc := if o.code = 0 then wrO o.dsk o.left x.sector x.bytes else o
def Outc.ok (o : Outc) : Prop := i64ok o.left
theorem fl_left (o : Outc) (h : o.ok) : (flS o).ok := by
  unfold flS Outc.ok i64ok at *
  split
  · unfold flO
    split
    · exact h
    · exact spent_in _ h.1 h.2
  · exact h
theorem wr_left (o : Outc) (x : Wrt) (h : o.ok) : (wrS o x).ok := by
  unfold wrS Outc.ok i64ok at *
  split
  · unfold wrO
    split
    · exact h
    · split
      · exact h
      · split
        · exact h
        · exact spent_in _ h.1 h.2
  · exact h
theorem fl_pend (o : Outc) : (flS o).dsk.pend.length ≤ o.dsk.pend.length := by
  unfold flS
  split
  · unfold flO
    split
    · exact Nat.le_refl _
    · show (flushD o.dsk).pend.length ≤ _
      unfold flushD crashD
      split
      · exact Nat.zero_le _
      · exact Nat.zero_le _
  · exact Nat.le_refl _
theorem wr_pend (o : Outc) (x : Wrt) : (wrS o x).dsk.pend.length ≤ o.dsk.pend.length + 1 := by
  unfold wrS
  split
  · unfold wrO
    split
    · exact Nat.le_succ _
    · split
      · exact Nat.le_succ _
      · split
        · exact Nat.le_succ _
        · show (writeD _ _ _).pend.length ≤ _
          simp [writeD]
  · exact Nat.le_succ _
theorem gbelow {w w' : World} (R : Nat) (h : Below w.heap.size w w') : w.grownBy w' (some R) := ⟨h.os, h.tape, h.output, h.size, fun k hk _ => h.block k hk⟩
theorem gtrans {w w1 w2 : World} {R : Nat} (h : w.grownBy w1 (some R)) (h2 : w1.grownBy w2 (some R)) : w.grownBy w2 (some R) :=
  ⟨h2.os.trans h.os, h2.tape.trans h.tape, h2.output.trans h.output, Nat.le_trans h.size h2.size, fun k hk hr => (h2.block k (Nat.lt_of_lt_of_le hk h.size) hr).trans (h.block k hk hr)⟩
theorem gset {w w1 : World} {R : Nat} (h : w.grownBy w1 (some R)) (j : Nat) (v : Value) : w.grownBy (w1.setCell ⟨R, j, none⟩ v) (some R) :=
  ⟨h.os, h.tape, h.output, by rw [World.size_setCell]; exact h.size, fun k hk hr => (Below.heap_setCell w1 ⟨R, j, none⟩ v k (fun e => hr (by rw [e]))).trans (h.block k hk hr)⟩
def set4 (w : World) (g : Nat) (x y z t : Value) : World := (((w.setCell ⟨g, 0, none⟩ x).setCell ⟨g, 1, none⟩ y).setCell ⟨g, 2, none⟩ z).setCell ⟨g, 3, none⟩ t
theorem set4_size (w : World) (g : Nat) (x y z t : Value) : (set4 w g x y z t).heap.size = w.heap.size := by simp [set4]
theorem set4_other (w : World) (g : Nat) (x y z t : Value) (b : Nat) (h : b ≠ g) : (set4 w g x y z t).heap[b]? = w.heap[b]? :=
  (Below.heap_setCell _ _ _ _ h).trans ((Below.heap_setCell _ _ _ _ h).trans ((Below.heap_setCell _ _ _ _ h).trans (Below.heap_setCell _ _ _ _ h)))
theorem set4_block {w : World} {g : Nat} {x0 y0 z0 t0 : Value} {t : TypeId} (h : w.heap[g]? = some (.cells #[x0, y0, z0, t0] t (0, 0))) (x y z v : Value) : (set4 w g x y z v).heap[g]? = some (.cells #[x, y, z, v] t (0, 0)) :=
  block_set (block_set (block_set (block_set h 0 x) 1 y) 2 z) 3 v
theorem set4_grown {w w1 : World} {R : Nat} (h : w.grownBy w1 (some R)) (x y z t : Value) : w.grownBy (set4 w1 R x y z t) (some R) := gset (gset (gset (gset h 0 x) 1 y) 2 z) 3 t
theorem no_text4 (a b : Option Addr) (n c n' c' : Nat) (x y : Int) : ∀ (j : Nat) (s : ByteArray), (#[Value.slice a n c, .slice b n' c', .int .i64 x, .int .i64 y] : Array Value)[j]? ≠ some (Value.string s)
  | 0, _ => by simp
  | 1, _ => by simp
  | 2, _ => by simp
  | 3, _ => by simp
  | j + 4, _ => by simp
theorem IsCls.form {w : World} {T : Nat} {o : Outc} (h : IsCls w T o) : ∃ a c a' c', w.heap[T]? = some (.cells #[.slice a o.dsk.secs.length c, .slice a' o.dsk.pend.length c', .int .i64 o.left, .int .i64 o.code] 59 (0, 0)) ∧ IsPower w (.agg #[.slice a o.dsk.secs.length c, .slice a' o.dsk.pend.length c', .int .i64 o.left]) o.dsk o.left := by
  obtain ⟨sv, pv, h1, h2⟩ := h
  obtain ⟨a, c, a', c', hv, _⟩ := id h2.form
  injection hv with hv
  injection hv with hv
  injection hv with e1 hv
  injection hv with e2 hv
  subst e1 e2
  exact ⟨a, c, a', c', h1, h2⟩
/-- behind a call: what it told is stored -/
theorem cls_put {w w2 : World} {T : Nat} {o q : Outc} {a c a' c'} {a1 c1 a2 c2} (h1 : w.heap[T]? = some (.cells #[.slice a o.dsk.secs.length c, .slice a' o.dsk.pend.length c', .int .i64 o.left, .int .i64 o.code] 59 (0, 0)))
    (hb : Below w.heap.size w w2) (hp : IsPower w2 (.agg #[.slice a1 q.dsk.secs.length c1, .slice a2 q.dsk.pend.length c2, .int .i64 q.left]) q.dsk q.left) :
    IsCls (set4 w2 T (.slice a1 q.dsk.secs.length c1) (.slice a2 q.dsk.pend.length c2) (.int .i64 q.left) (.int .i64 q.code)) T q ∧ w.grownBy (set4 w2 T (.slice a1 q.dsk.secs.length c1) (.slice a2 q.dsk.pend.length c2) (.int .i64 q.left) (.int .i64 q.code)) (some T) := by
  have h2 := (hb.block _ (lt_of_block h1)).trans h1
  exact ⟨⟨_, _, set4_block h2 _ _ _ _, hp.apart h2 (no_text4 _ _ _ _ _ _ _ _) (by rw [set4_size]; exact Nat.le_refl _) (fun b hb => set4_other _ _ _ _ _ _ _ hb)⟩, set4_grown (gbelow T hb) _ _ _ _⟩
set_option maxRecDepth 100000 in
set_option maxHeartbeats 2000000 in
theorem wlFlush (T : Nat) (o : Outc) (w : World) (h : IsCls w T o) (hk : o.ok) (hp : o.dsk.pend.length ≤ 1000) :
    Calls Tryz.prog 37 #[.pointer (some ⟨T, 0, none⟩)] w fun e w' => e = .returned (.tuple #[]) ∧ IsCls w' T (flS o) ∧ w.grownBy w' (some T) := by
  obtain ⟨a, c, a', c', h1, h2⟩ := h.form
  have hS : flS o = if o.code = 0 then flO o.dsk o.left else o := rfl
  have HF := Lib.hid (diskFlush_any _ o.dsk o.left w h2 hk.1 hk.2 hp)
  have HP := Lib.hid (fun (q : Outc) (w2 : World) a1 c1 a2 c2 hb hp => cls_put (o := o) (q := q) (w2 := w2) (a1 := a1) (c1 := c1) (a2 := a2) (c2 := c2) h1 hb hp)
  have HH := Lib.hid h
  obtain ⟨d, left, code⟩ := o
  simp only at *
  have H1 := Lib.hid h1
  have c0 := below_cell (Below.refl _ w) h1 0 rfl
  have c1 := below_cell (Below.refl _ w) h1 1 rfl
  have c2 := below_cell (Below.refl _ w) h1 2 rfl
  have c3 := below_cell (Below.refl _ w) h1 3 rfl
  by_cases hc : code = 0
  · subst hc
    have HS := Lib.hid (hS.trans (if_pos rfl))
    clear hS h1 h2 h hk hp
    go_enter Tryz.func37, Tryz.ntmps37
    go_wp2_with (first | (go_at_call 70; refine HF.out.mono ?_; rintro e w2 ⟨v2, rfl, hpw, hb2⟩; obtain ⟨a1, b1, a2, b2, rfl, _⟩ := id hpw.form; have hx := (hb2.block _ (lt_of_block H1.out)).trans H1.out; have d0 := below_cell (Below.refl _ w2) hx 0 rfl; have f0 := block_frozen hx 0; have d1 := below_cell (Below.refl _ w2) hx 1 rfl; have f1 := block_frozen hx 1; have d2 := below_cell (Below.refl _ w2) hx 2 rfl; have f2 := block_frozen hx 2; have d3 := below_cell (Below.refl _ w2) hx 3 rfl; have f3 := block_frozen hx 3))
    go_end0
    obtain ⟨g1, g2⟩ := HP.out _ _ _ _ _ _ hb2 hpw
    unfold set4 at g1 g2
    exact ⟨rfl, by rw [HS.out]; exact g1, g2⟩
  · have hq : (code == 0) = false := beq_false_of_ne hc
    have HS := Lib.hid (hS.trans (if_neg hc))
    clear hS h1 h2 h hk hp hc
    go_enter Tryz.func37, Tryz.ntmps37
    go_wp2_with fail
    go_end0
    exact ⟨rfl, by rw [HS.out]; exact HH.out, gbelow T (Below.refl _ _)⟩
end SWl5
section SWl6
open Go.RowKit
set_option linter.unusedVariables false
set_option linter.unusedSimpArgs false

theorem wrts_grown {w w' : World} {v : Value} {l : List Wrt} {T : Nat} {cs : Array Value} {t : TypeId} {fr : Nat × Nat} (h : IsWrts w v l) (hg : w.heap[T]? = some (.cells cs t fr)) (hno : ∀ (j : Nat) (s : ByteArray), cs[j]? ≠ some (Value.string s)) (hw : w.grownBy w' (some T)) : IsWrts w' v l := by
  obtain ⟨a, len, cap, rfl, hl, h1, h2, h3, hat⟩ := h
  refine ⟨a, len, cap, rfl, hl, h1, h2, h3, ?_⟩
  by_cases h0 : len = 0
  · exact .inl h0
  · obtain ⟨b, off, rfl, hb, hat⟩ := hat.resolve_left h0
    have hbT : b ≠ T := by
      intro e
      subst e
      have := (hat 0 (by omega)).2
      rw [cell_of_row _ _ _ _ _ _ hg] at this
      exact absurd this (hno _ _)
    have hk := hw.block b hb (fun e => hbT (Option.some.inj e))
    exact .inr ⟨b, off, rfl, Nat.lt_of_lt_of_le hb hw.size, fun i hi => ⟨(World.cell?_of_block (a := ⟨b, off + i * 2, none⟩) hk).trans (hat i hi).1, (World.cell?_of_block (a := ⟨b, off + i * 2 + 1, none⟩) hk).trans (hat i hi).2⟩⟩
theorem cls_text {w : World} {T : Nat} {o : Outc} (h : IsCls w T o) : ∃ cs, w.heap[T]? = some (.cells cs 59 (0, 0)) ∧ ∀ (j : Nat) (s : ByteArray), cs[j]? ≠ some (Value.string s) := by
  obtain ⟨a, c, a', c', h1, _⟩ := h.form
  exact ⟨_, h1, no_text4 _ _ _ _ _ _ _ _⟩
theorem fold_ok (l : List Wrt) : ∀ o : Outc, o.ok → (l.foldl wrS o).ok := by
  induction l with
  | nil => exact fun o h => h
  | cons x l ih => exact fun o h => ih _ (wr_left o x h)
theorem fold_pend (l : List Wrt) : ∀ o : Outc, (l.foldl wrS o).dsk.pend.length ≤ o.dsk.pend.length + l.length := by
  induction l with
  | nil => exact fun o => Nat.le_refl _
  | cons x l ih =>
    intro o
    have h1 := ih (wrS o x)
    have h2 := wr_pend o x
    simp only [List.foldl_cons, List.length_cons] at h1 ⊢
    omega
theorem fold_snoc (l : List Wrt) (o : Outc) (j : Nat) (h : j < l.length) : (l.take (j + 1)).foldl wrS o = wrS ((l.take j).foldl wrS o) (l.getD j wrtZ) := by
  rw [← List.take_append_getElem h, List.foldl_append, show l.getD j wrtZ = l[j] from by simp [List.getD, h]]
  rfl
theorem cls_alloc {w : World} {T : Nat} {o : Outc} (h : IsCls w T o) (ob : Obj) : IsCls (w.alloc ob) T o := by
  obtain ⟨sv, pv, h1, h2⟩ := h
  exact ⟨sv, pv, (heap_alloc_old w ob (lt_of_block h1)).trans h1, h2.below ((Below.refl _ w).alloc (Nat.le_refl _) ob)⟩
def set4b (w : World) (g : Nat) (x y z t : Value) : World := (((w.setCell ⟨g, 3, none⟩ t).setCell ⟨g, 0, none⟩ x).setCell ⟨g, 1, none⟩ y).setCell ⟨g, 2, none⟩ z
theorem set4b_size (w : World) (g : Nat) (x y z t : Value) : (set4b w g x y z t).heap.size = w.heap.size := by simp [set4b]
theorem set4b_other (w : World) (g : Nat) (x y z t : Value) (b : Nat) (h : b ≠ g) : (set4b w g x y z t).heap[b]? = w.heap[b]? :=
  (Below.heap_setCell _ _ _ _ h).trans ((Below.heap_setCell _ _ _ _ h).trans ((Below.heap_setCell _ _ _ _ h).trans (Below.heap_setCell _ _ _ _ h)))
theorem set4b_block {w : World} {g : Nat} {x0 y0 z0 t0 : Value} {t : TypeId} (h : w.heap[g]? = some (.cells #[x0, y0, z0, t0] t (0, 0))) (x y z v : Value) : (set4b w g x y z v).heap[g]? = some (.cells #[x, y, z, v] t (0, 0)) :=
  block_set (block_set (block_set (block_set h 3 v) 0 x) 1 y) 2 z
theorem set4b_grown {w w1 : World} {R : Nat} (h : w.grownBy w1 (some R)) (x y z t : Value) : w.grownBy (set4b w1 R x y z t) (some R) := gset (gset (gset (gset h 3 t) 0 x) 1 y) 2 z
theorem cls_putb {w w2 : World} {T : Nat} {o q : Outc} {a c a' c'} {a1 c1 a2 c2} (h1 : w.heap[T]? = some (.cells #[.slice a o.dsk.secs.length c, .slice a' o.dsk.pend.length c', .int .i64 o.left, .int .i64 o.code] 59 (0, 0)))
    (hb : Below w.heap.size w w2) (hp : IsPower w2 (.agg #[.slice a1 q.dsk.secs.length c1, .slice a2 q.dsk.pend.length c2, .int .i64 q.left]) q.dsk q.left) :
    IsCls (set4b w2 T (.slice a1 q.dsk.secs.length c1) (.slice a2 q.dsk.pend.length c2) (.int .i64 q.left) (.int .i64 q.code)) T q ∧ w.grownBy (set4b w2 T (.slice a1 q.dsk.secs.length c1) (.slice a2 q.dsk.pend.length c2) (.int .i64 q.left) (.int .i64 q.code)) (some T) := by
  have h2 := (hb.block _ (lt_of_block h1)).trans h1
  exact ⟨⟨_, _, set4b_block h2 _ _ _ _, hp.apart h2 (no_text4 _ _ _ _ _ _ _ _) (by rw [set4b_size]; exact Nat.le_refl _) (fun b hb => set4b_other _ _ _ _ _ _ _ hb)⟩, set4b_grown (gbelow T hb) _ _ _ _⟩
set_option maxRecDepth 100000 in
set_option maxHeartbeats 8000000 in
theorem wlWrite (T : Nat) (o : Outc) (v : Value) (l : List Wrt) (w : World) (h : IsCls w T o) (hl : IsWrts w v l) (hk : o.ok) (hp : o.dsk.pend.length + l.length ≤ 1000) :
    Calls Tryz.prog 36 #[.pointer (some ⟨T, 0, none⟩), v] w fun e w' => e = .returned (.tuple #[]) ∧ IsCls w' T (l.foldl wrS o) ∧ w.grownBy w' (some T) := by
  obtain ⟨cs0, hcs0, hno0⟩ := cls_text h
  have HW := Lib.hid (fun wr (hg : w.grownBy wr (some T)) => wrts_grown hl hcs0 hno0 hg)
  obtain ⟨a, n, cap, rfl, hlen, hc1, hc2, hbd, hat⟩ := id hl
  have hnI : (n : Int) ≤ 1000 := by omega
  have HBD := Lib.hid hbd; have HL := Lib.hid hlen; have HH := Lib.hid h; have HK := Lib.hid hk; have HP := Lib.hid hp
  clear hl hat hbd h hcs0 hno0 hk hp
  go_enter Tryz.func36, Tryz.ntmps36
  go_wp2_with fail
  go_loopw [8] (fun z wr => ∃ j : Nat, j ≤ n ∧ z = .int .i64 j ∧ Hid (IsCls wr T ((l.take j).foldl wrS o) ∧ w.grownBy wr (some T))) (fun z _ => n - (intOf z).toNat)
  case atStart => exact ⟨0, Nat.zero_le _, rfl, Lib.hid ⟨HH.out, gbelow T (Below.refl _ _)⟩⟩
  case round =>
    obtain ⟨j, hj, rfl, HR⟩ := hrel
    by_cases hlt : j < n
    · have hjI : (j : Int) < n := by omega
      have hjl : j < l.length := by rw [HL.out]; exact hlt
      obtain ⟨a5, n5, c5, hv5, _, _, _, _, hat⟩ := HW.out wr HR.out.2
      injection hv5 with t1 t2 t3
      subst t1 t2 t3
      obtain ⟨b, off, rfl, hbl, hat⟩ := hat.resolve_left (by omega)
      obtain ⟨e0, e1⟩ := hat j hlt
      have hsn := fold_snoc l o j hjl
      have hok := fold_ok (l.take j) o HK.out
      have hpd := fold_pend (l.take j) o
      rw [List.length_take] at hpd
      have hbx := HBD.out _ (List.getElem_mem hjl)
      rw [show l[j] = l.getD j wrtZ from by simp [List.getD, hjl]] at hbx
      have hpl : ((l.take j).foldl wrS o).dsk.pend.length ≤ 1000 := by have := HP.out; omega
      have HSN := Lib.hid hsn
      generalize (l.take j).foldl wrS o = q at *
      generalize l.getD j wrtZ = X at *
      obtain ⟨xs, xb⟩ := X
      simp only at e0 e1 hbx
      have hS : wrS q ⟨xs, xb⟩ = if q.code = 0 then wrO q.dsk q.left xs xb else q := rfl
      obtain ⟨wz, hwz⟩ : ∃ wz, wr.alloc (.cells #[.int .i64 xs, .string xb] 46) = wz := ⟨_, rfl⟩
      have hal := (Below.refl wr.heap.size wr).alloc (Nat.le_refl _) (.cells #[.int .i64 xs, .string xb] 46)
      have hn := heap_alloc_new wr (.cells #[.int .i64 xs, .string xb] 46)
      have hcz := cls_alloc HR.out.1 (.cells #[.int .i64 xs, .string xb] 46)
      rw [hwz] at hal hn hcz
      have HG := Lib.hid (gtrans HR.out.2 (gbelow T hal))
      have HWZ := Lib.hid hwz
      obtain ⟨a1, c1, a1', c1', h1, h2⟩ := hcz.form
      have HD := Lib.hid (fun x (hx : Below wz.heap.size wz x) => diskWrite_any _ q.dsk q.left xs xb x (h2.below hx) hok.1 hok.2 hbx.2 hpl)
      have HPUT := Lib.hid (fun (q' : Outc) (w2 : World) a1 c1 a2 c2 hb hp => cls_put (o := q) (q := q') (w2 := w2) (a1 := a1) (c1 := c1) (a2 := a2) (c2 := c2) h1 hb hp)
      have HPUTB := Lib.hid (fun (q' : Outc) (w2 : World) a1 c1 a2 c2 hb hp => cls_putb (o := q) (q := q') (w2 := w2) (a1 := a1) (c1 := c1) (a2 := a2) (c2 := c2) h1 hb hp)
      have HCZ := Lib.hid hcz
      have H1 := Lib.hid h1; have HN := Lib.hid hn
      clear hbl hat hsn hok hpd hbx hpl HR hwz hal hn hcz h1 h2
      obtain ⟨d, left, code⟩ := q
      simp only at *
      go_upto_region 3 with fail
      rw [HWZ.out]
      obtain ⟨V, hV⟩ : ∃ V, wr.heap.size = V := ⟨_, rfl⟩
      rw [hV] at HN
      (try rw [hV])
      clear hV e0 e1
      have c0 := below_cell (Below.refl _ wz) H1.out 0 rfl
      have c1' := below_cell (Below.refl _ wz) H1.out 1 rfl
      have c2 := below_cell (Below.refl _ wz) H1.out 2 rfl
      have c3 := below_cell (Below.refl _ wz) H1.out 3 rfl
      have q0 := below_cell (Below.refl _ wz) HN.out 0 rfl
      have q1 := below_cell (Below.refl _ wz) HN.out 1 rfl
      by_cases hc : code = 0
      · subst hc
        have HS := Lib.hid (hS.trans (if_pos rfl))
        clear hS
        go_upto_region 4 with fail
        go_region_with (first | (go_at_call 69; refine (HD.out _ (by first | exact Below.refl _ _ | exact (Below.refl _ _).drew)).mono ?_; rintro e w2 ⟨v2, rfl, hpw, hb2⟩; obtain ⟨a1, b1, a2, b2, rfl, _⟩ := id hpw.form; have hx := (hb2.block _ (lt_of_block H1.out)).trans H1.out; have d0 := below_cell (Below.refl _ w2) hx 0 rfl; have f0 := block_frozen hx 0; have d1 := below_cell (Below.refl _ w2) hx 1 rfl; have f1 := block_frozen hx 1; have d2 := below_cell (Below.refl _ w2) hx 2 rfl; have f2 := block_frozen hx 2; have d3 := below_cell (Below.refl _ w2) hx 3 rfl; have f3 := block_frozen hx 3) | fail)
        all_goals
          have hbz := (Below.refl wz.heap.size wz).drew.trans (hb2.mono (Nat.le_refl _))
          have hA := HPUT.out _ _ _ _ _ _ hbz hpw
          have hB := HPUTB.out _ _ _ _ _ _ hbz hpw
          unfold set4 at hA
          unfold set4b at hB
          have HA := Lib.hid hA; have HBX := Lib.hid hB
          clear hA hB hbz hpw hb2 hx d0 f0 d1 f1 d2 f2 d3 f3 c0 c1' c2 c3 q0 q1
          go_wp2_with fail
          go_roundw
          case rel => exact ⟨j + 1, by omega, by go_num, Lib.hid (by rw [HSN.out, HS.out]; first | exact ⟨HA.out.1, gtrans HG.out HA.out.2⟩ | exact ⟨HBX.out.1, gtrans HG.out HBX.out.2⟩)⟩
          case measure => simp [intOf]; omega
      · have hq : (code == 0) = false := beq_false_of_ne hc
        have HS := Lib.hid (hS.trans (if_neg hc))
        clear hS hc
        go_wp2_with fail
        go_roundw
        case rel => exact ⟨j + 1, by omega, by go_num, Lib.hid (by rw [HSN.out, HS.out]; exact ⟨HCZ.out, HG.out⟩)⟩
        case measure => simp [intOf]; omega
    · obtain rfl : j = n := by omega
      have hnl : ¬ (j : Int) < j := by omega
      have hall : l.take j = l := List.take_of_length_le (by rw [HL.out]; omega)
      rw [hall] at HR
      clear hall
      go_wp2_with fail
      go_end0
      exact ⟨rfl, HR.out.1, HR.out.2⟩
end SWl6
section SInsW
open Go.RowKit
set_option linter.unusedVariables false
set_option linter.unusedSimpArgs false

/-- 'copy' of elements of any size, into a row that is known -/
theorem run_copy_rowS {P : Program} (w : World) (dT sT ty elem : TypeId) (size k g o dLen dCap : Nat) (a : Addr) (sLen sCap : Nat) (cur : Array Value) (t : TypeId) (cs : List Value)
    (hu : P.underlying dT = some (.slice elem)) (hs : (P.info? elem).map (·.size) = some size) (hk : Nat.min sLen dLen = k)
    (hg : w.heap[g]? = some (.cells cur t (0, 0))) (hn : cs.length = k * size)
    (hsrc : ∀ j v, cs[j]? = some v → w.cell? (a.add j) = some v) (hfit : o + cs.length ≤ cur.size) (h1 : ∀ v ∈ cs, v.oneCell' = true) :
    (Builtin.copy_ #[dT, sT] ty #[.slice (some ⟨g, o, none⟩) dLen dCap, .slice (some a) sLen sCap]).run P w =
      .ok (goInt k) (w.setRow g (cur.toList.take o ++ cs ++ cur.toList.drop (o + cs.length)).toArray) := by
  have hl := run_loadCells_list (P := P) w a cs hsrc
  have hst := run_storeCells_at P g o t cs 0 cur w hg (by simpa using hfit) h1
  cases hq : P.info? elem with
  | none => simp [hq] at hs
  | some i =>
    have hi : i.size = size := by simpa [hq] using hs
    simp [Builtin.copy_, run_underlying hu, Builtin.lenOf, Builtin.firstCells, sizeOf, typeInfo, hq, hi, hk, ← hn, hl, hst]
theorem wp_copyS {P : Program} (w : World) {o : Oper} {a : Act} {K : Act → World → Prop} {Q : Exit → Act → World → Prop} (d s : Operand) (t t' : TypeId)
    (ho : o.op = .call { callee := .builtin .copy, args := #[d, s], argTypes := #[t, t'] }) (v u : Value) (hd : a.eval d = v) (hs : a.eval s = u) {v' : Value} {w' : World}
    (hr : (Builtin.copy_ #[t, t'] o.type #[v, u]).run P w = .ok v' w') (h : K (a.put o.dst v') w') : o.wp P a w K Q := by
  unfold Oper.wp execOp
  simp only [ho, resolve, invoke, builtin, Sem.run_bind, Sem.run_pure, Result.andThen_ok, List.map_toArray, List.map_cons, List.map_nil, hd, hs, hr]
  exact h
theorem wpList_copyS {P : Program} (w : World) {ops : Array Oper} {rest : List Oper} {o : Oper} {a : Act} {Q : Exit → Act → World → Prop} (hgd : o.guard = none) (d s : Operand) (t t' : TypeId)
    (ho : o.op = .call { callee := .builtin .copy, args := #[d, s], argTypes := #[t, t'] }) (v u : Value) (hd : a.eval d = v) (hs : a.eval s = u) {v' : Value} {w' : World}
    (hr : (Builtin.copy_ #[t, t'] o.type #[v, u]).run P w = .ok v' w') (h : wpList P ops Q rest (a.put o.dst v') w') : wpList P ops Q (o :: rest) a w :=
  wpList_plain hgd fun _ hK => wp_copyS w d s t t' ho v u hd hs hr (hK _ _ h)
theorem step_copyS {P : Program} {ops : Array Oper} {o : Oper} {a : Act} {w : World} {K : Act → World → Prop} {Q : Exit → Act → World → Prop} {E : Prop}
    (hgd : o.guard = none) (d s : Operand) (t t' : TypeId) (ho : o.op = .call { callee := .builtin .copy, args := #[d, s], argTypes := #[t, t'] }) (v u : Value) (hd : a.eval d = v) (hs : a.eval s = u) {v' : Value} {w' : World}
    (hr : (Builtin.copy_ #[t, t'] o.type #[v, u]).run P w = .ok v' w') (h : K (a.put o.dst v') w') :
    if Region.wanted o (yielded ops a.tmps) = true then Oper.wp P o a w K Q else E := by
  rw [if_pos (by simp [Region.wanted, hgd])]
  exact wp_copyS w d s t t' ho v u hd hs hr h
theorem infoWrt2 : (Tryz.prog.info? 46).map (fun i => (i.zero, i.size, i.bytes)) = some (some (.agg #[.int .i64 0, .string ⟨#[]⟩]), 2, 24) := by kernel_rfl
theorem size2 : (Tryz.prog.info? 46).map (·.size) = some 2 := by
  obtain ⟨i0, hi, _, h1, _⟩ := info_parts infoWrt2
  rw [hi]; simp [h1]
theorem gsetRow {w w1 : World} {R : Nat} (h : w.grownBy w1 (some R)) (cs : Array Value) : w.grownBy (w1.setRow R cs) (some R) :=
  ⟨h.os, h.tape, h.output, by simpa [World.setRow] using h.size, fun k hk hr => (setRow_other w1 R k cs (fun e => hr (by rw [e]))).trans (h.block k hk hr)⟩
theorem below_g {B g : Nat} {w0 w : World} (hb : Below B w0 w) (hB : B ≤ g) (cs : Array Value) : Below B w0 (w.setRow g cs) := below_setRow hb hB cs
/-- the row's cells when one is put in -/
theorem ins_list (L xs vs : List Value) (n i c : Nat) (hL : L.length = c * 2) (hx : L.take (n * 2) = xs) (hi : i < n) (hn : n + 1 ≤ c) (hv : vs.length = 2)
    (S1 S2 : List Value) (h1 : S1 = L.take ((i + 1) * 2) ++ xs.drop (i * 2) ++ L.drop ((i + 1) * 2 + (xs.drop (i * 2)).length)) (h2 : S2 = S1.take (i * 2) ++ vs ++ S1.drop (i * 2 + vs.length)) :
    S1.length = c * 2 ∧ S2.length = c * 2 ∧ S2.take ((n + 1) * 2) = xs.take (i * 2) ++ vs ++ xs.drop (i * 2) := by
  have hxl : xs.length = n * 2 := by rw [← hx, List.length_take]; omega
  have hd : (xs.drop (i * 2)).length = (n - i) * 2 := by rw [List.length_drop]; omega
  have hS1 : S1.length = c * 2 := by
    rw [h1]; simp only [List.length_append, List.length_take, List.length_drop]; omega
  have e1 : S1.take (i * 2) = xs.take (i * 2) := by
    rw [h1, List.append_assoc, List.take_append_of_le_length (by rw [List.length_take]; omega), List.take_take, ← hx, List.take_take]
    congr 1; omega
  have e2 : S1.drop (i * 2 + vs.length) = xs.drop (i * 2) ++ L.drop ((i + 1) * 2 + (xs.drop (i * 2)).length) := by
    rw [h1, hv, List.append_assoc, List.drop_append_of_le_length (by rw [List.length_take]; omega), List.drop_eq_nil_of_le (by rw [List.length_take]; omega)]
    rfl
  refine ⟨hS1, ?_, ?_⟩
  · rw [h2]; simp only [List.length_append, List.length_take, List.length_drop, hS1]; omega
  · rw [h2, e1, e2, ← List.append_assoc]
    exact List.take_left' (by simp only [List.length_append, List.length_take, List.length_drop]; omega)
set_option maxRecDepth 100000 in
set_option maxHeartbeats 4000000 in
/-- room for one more, ahead of the end: in place -/
theorem insShift (g n i cap vb : Nat) (cur : Array Value) (xs vs : List Value) (vt : TypeId) (w : World) (hg : w.heap[g]? = some (.cells cur 46 (0, 0))) (hcs : cur.size = cap * 2) (htk : cur.toList.take (n * 2) = xs) (hone : ∀ u ∈ xs, u.oneCell' = true)
    (hi : i < n) (hroom : n + 1 ≤ cap) (hn : n ≤ 100000) (hc63 : cap ≤ 9223372036854775807) (hv : w.heap[vb]? = some (.cells vs.toArray 46 (0, 0))) (hvs : vs.length = 2) (hv1 : ∀ u ∈ vs, u.oneCell' = true) (hne : vb ≠ g) :
    Calls Tryz.prog 62 #[.slice (some ⟨g, 0, none⟩) n cap, .int .i64 i, .slice (some ⟨vb, 0, none⟩) 1 1] w fun e w' =>
      e = .returned (.slice (some ⟨g, 0, none⟩) (n + 1) cap) ∧ ∃ cur', w'.heap[g]? = some (.cells cur' 46 (0, 0)) ∧ cur'.size = cap * 2 ∧ cur'.toList.take ((n + 1) * 2) = xs.take (i * 2) ++ vs ++ xs.drop (i * 2) ∧ w.grownBy w' (some g) := by
  have hiI : (i : Int) < n := by omega
  have hniI : ¬ ((i : Int) = n) := by omega
  have hnb : (n : Int) ≤ 100000 := by omega
  have hcI : ¬ ((cap : Int) < (n : Int) + 1) := by omega
  have hsz2 : (Tryz.prog.info? 46).map (·.size) = some 2 := size2
  have hov : ∀ lb cb, (callFunc 89 #[.slice (some ⟨vb, 0, none⟩) 1 1, .slice (some ⟨g, (i + 1) * 2, none⟩) lb cb]).run Tryz.prog w = .ok (.value (.bool false)) w := fun lb cb => by
    rw [run_callFunc_extern Tryz.func89 (by kernel_rfl) (by kernel_rfl) (by kernel_rfl) (e := Extern.SlicesOverlaps.overlaps #[23, 23] #[4]) (by kernel_rfl),
      Lib.run_overlaps_apart w 23 4 46 Tryz.underlying23 2 Tryz.sizeOf46 ⟨vb, 0, none⟩ ⟨g, (i + 1) * 2, none⟩ 1 1 lb cb hne 46 46 vs.toArray.size cur.size (by simp [World.shape?, hv]) (by simp [World.shape?, hg]) (by omega) (block_frozen hv 0) (block_frozen hv _)]
    rfl
  have hw1 : IntKind.i64.wrap ((i : Int) + 1) = (i : Int) + 1 := by rw [IntKind.wrap_i64]; omega
  have htn : ((i : Int) + 1).toNat = i + 1 := by omega
  have hxl : xs.length = n * 2 := by rw [← htk, List.length_take]; simp; omega
  obtain ⟨S1, hS1⟩ : ∃ S1, S1 = cur.toList.take ((i + 1) * 2) ++ xs.drop (i * 2) ++ cur.toList.drop ((i + 1) * 2 + (xs.drop (i * 2)).length) := ⟨_, rfl⟩
  obtain ⟨S2, hS2⟩ : ∃ S2, S2 = S1.take (i * 2) ++ vs ++ S1.drop (i * 2 + vs.length) := ⟨_, rfl⟩
  obtain ⟨l1, l2, l3⟩ := ins_list cur.toList xs vs n i cap (by simpa using hcs) htk hi hroom hvs S1 S2 hS1 hS2
  have hdl : (xs.drop (i * 2)).length = (n - i) * 2 := by rw [List.length_drop]; omega
  have hmin : Nat.min (n + 1 - i) (n - i) = n - i := by simp only [Nat.min_def]; split <;> omega
  have hmin2 : Nat.min 1 (n + 1 - i) = 1 := by simp only [Nat.min_def]; split <;> omega
  have hcp1 : ∀ ty dc sc, (Builtin.copy_ #[23, 23] ty #[.slice (some ⟨g, (i + 1) * 2, none⟩) (n - i) dc, .slice (some ⟨g, i * 2, none⟩) (n + 1 - i) sc]).run Tryz.prog w.drew = .ok (goInt ((n - i : Nat) : Int)) (w.drew.setRow g S1.toArray) := fun ty dc sc => by
    rw [hS1]
    exact run_copy_rowS w.drew _ _ ty 46 2 (n - i) g ((i + 1) * 2) (n - i) dc ⟨g, i * 2, none⟩ (n + 1 - i) sc cur 46 (xs.drop (i * 2)) Tryz.underlying23 hsz2 hmin hg hdl
      (fun j v hj => by
        rw [addr_add]
        show w.cell? _ = _
        rw [cell_of_row _ _ _ _ _ _ hg]
        rw [List.getElem?_drop, ← htk, List.getElem?_take] at hj
        split at hj
        · rw [← Array.getElem?_toList]; exact hj
        · cases hj)
      (by rw [hdl, hcs]; omega) (fun v hv => hone v (List.mem_of_mem_drop hv))
  have hgN : (w.drew.setRow g S1.toArray).heap[g]? = some (.cells S1.toArray 46 (0, 0)) := setRow_heap w.drew g cur S1.toArray _ _ hg
  have hvN : (w.drew.setRow g S1.toArray).heap[vb]? = some (.cells vs.toArray 46 (0, 0)) := (setRow_other w.drew g vb _ hne).trans hv
  obtain ⟨W1, hW1⟩ : ∃ W1, w.drew.setRow g S1.toArray = W1 := ⟨_, rfl⟩
  rw [hW1] at hgN hvN hcp1
  have hcp2 : ∀ ty dc, (Builtin.copy_ #[23, 23] ty #[.slice (some ⟨g, i * 2, none⟩) (n + 1 - i) dc, .slice (some ⟨vb, 0, none⟩) 1 1]).run Tryz.prog W1 = .ok (goInt ((1 : Nat) : Int)) (W1.setRow g S2.toArray) := fun ty dc => by
    rw [hS2]
    have := run_copy_rowS (P := Tryz.prog) W1 23 23 ty 46 2 1 g (i * 2) (n + 1 - i) dc ⟨vb, 0, none⟩ 1 1 S1.toArray 46 vs Tryz.underlying23 hsz2 hmin2 hgN (by omega)
      (fun j v hj => by
        rw [addr_add, cell_of_row _ _ _ _ _ _ hvN]
        simpa using hj)
      (by simp only [List.size_toArray]; omega) hv1
    simpa using this
  have hgW : w.grownBy W1 (some g) := by
    rw [← hW1]
    exact ⟨rfl, rfl, rfl, by simp [World.setRow], fun k _ hk => setRow_other w.drew g k _ (fun e => hk (by rw [e]))⟩
  have HGW := Lib.hid hgW; have HGN := Lib.hid hgN; have HS := Lib.hid (And.intro l2 l3)
  have hb1 : (0 : Int) ≤ (i : Int) + 1 := by omega
  have hin : i ≤ n := by omega
  have hb2 : ¬ (cap = i + 1) := by omega
  have hb3 : (i : Int) ≤ (n : Int) + 1 := by omega
  have hb4 : ¬ (cap = i) := by omega
  clear hS1 hS2 l1 l2 l3 hgN hvN hgW hW1
  go_enter Tryz.func62, Tryz.ntmps62
  go_upto_region 14 with fail
  go_wp2_with (simp only [hov])
  clear hov
  go_region_law (refine step_copyS rfl _ _ 23 23 rfl _ _ (by simp [Act.eval, Act.put]) (by simp [Act.eval, Act.put]) (hcp1 _ _ _) ?_)
  go_wp2_with (at_builtin; refine wpList_copyS _ rfl _ _ 23 23 rfl _ _ rfl rfl (hcp2 _ _) ?_)
  go_ret
  exact ⟨rfl, S2.toArray, setRow_heap W1 g _ _ _ _ HGN.out, by simpa using HS.out.1, by simpa using HS.out.2, gsetRow HGW.out _⟩
theorem grow_list (L xs vs : List Value) (n i c : Nat) (hL : L.length = c * 2) (hxl : xs.length = n * 2) (hx : L.take (i * 2) = xs.take (i * 2)) (hi : i < n) (hn : n + 1 ≤ c) (hv : vs.length = 2)
    (S1 S2 : List Value) (h1 : S1 = L.take (i * 2) ++ vs ++ L.drop (i * 2 + vs.length)) (h2 : S2 = S1.take ((i + 1) * 2) ++ xs.drop (i * 2) ++ S1.drop ((i + 1) * 2 + (xs.drop (i * 2)).length)) :
    S1.length = c * 2 ∧ S2.length = c * 2 ∧ S2.take ((n + 1) * 2) = xs.take (i * 2) ++ vs ++ xs.drop (i * 2) := by
  have hS1 : S1.length = c * 2 := by
    rw [h1]; simp only [List.length_append, List.length_take, List.length_drop]; omega
  have e1 : S1.take ((i + 1) * 2) = xs.take (i * 2) ++ vs := by
    rw [h1, hx]
    exact List.take_left' (by simp only [List.length_append, List.length_take]; omega)
  refine ⟨hS1, ?_, ?_⟩
  · rw [h2]; simp only [List.length_append, List.length_take, List.length_drop, hS1]; omega
  · rw [h2, e1]
    exact List.take_left' (by simp only [List.length_append, List.length_take, List.length_drop]; omega)
set_option maxRecDepth 100000 in
set_option maxHeartbeats 4000000 in
/-- no room: a new row -/
theorem insGrow (g n i cap vb : Nat) (cur : Array Value) (xs vs : List Value) (w : World) (hg : w.heap[g]? = some (.cells cur 46 (0, 0))) (hcs : cur.size = cap * 2) (htk : cur.toList.take (n * 2) = xs) (hone : ∀ u ∈ xs, u.oneCell' = true)
    (hi : i < n) (hncap : n ≤ cap) (hroom : cap < n + 1) (hn : n ≤ 100000) (hv : w.heap[vb]? = some (.cells vs.toArray 46 (0, 0))) (hvs : vs.length = 2) (hv1 : ∀ u ∈ vs, u.oneCell' = true) (hne : vb ≠ g) :
    Calls Tryz.prog 62 #[.slice (some ⟨g, 0, none⟩) n cap, .int .i64 i, .slice (some ⟨vb, 0, none⟩) 1 1] w fun e w' =>
      ∃ G, e = .returned (.slice (some ⟨w.heap.size, 0, none⟩) (n + 1) G) ∧ n + 1 ≤ G ∧ G ≤ maxLen ∧ ∃ cur', w'.heap[w.heap.size]? = some (.cells cur' 46 (0, 0)) ∧ cur'.size = G * 2 ∧ cur'.toList.take ((n + 1) * 2) = xs.take (i * 2) ++ vs ++ xs.drop (i * 2) ∧ Below w.heap.size w w' := by
  obtain ⟨i0, hi0, hz0, hz1, hz2⟩ := info_parts infoWrt2
  have hiI : (i : Int) < n := by omega
  have hnb : (n : Int) ≤ 100000 := by omega
  have hcI : (cap : Int) < (n : Int) + 1 := by omega
  have hsz2 : (Tryz.prog.info? 46).map (·.size) = some 2 := size2
  have hxl : xs.length = n * 2 := by rw [← htk, List.length_take]; simp; omega
  have hgw : g < w.heap.size := lt_of_block hg
  have hvw : vb < w.heap.size := lt_of_block hv
  have hik : i + (n + 1 - i) = n + 1 := by omega
  have hcell : ∀ j v, xs[j]? = some v → w.cell? ⟨g, j, none⟩ = some v := fun j v hj => by
    rw [cell_of_row _ _ _ _ _ _ hg]
    rw [← htk, List.getElem?_take] at hj
    split at hj
    · rw [← Array.getElem?_toList]; exact hj
    · cases hj
  have hold : (Builtin.firstCells i0.size i (.slice (some ⟨g, 0, none⟩) i cap)).run Tryz.prog w.drew = .ok (xs.take (i * 2)).toArray w.drew := by
    rw [hz1]
    exact run_firstCells_some w.drew 2 i ⟨g, 0, none⟩ i cap (xs.take (i * 2)) (by rw [List.length_take]; omega) (fun j v hj => by
      rw [addr_add, Nat.zero_add]
      rw [List.getElem?_take] at hj
      split at hj
      · exact hcell j v hj
      · cases hj)
  obtain ⟨G, hG⟩ : ∃ G, grownCap w (n + 1) cap 46 = G := ⟨_, rfl⟩
  obtain ⟨ROW, hROW⟩ : ∃ ROW : Array Value, (xs.take (i * 2)).toArray ++ Builtin.zeroCells (Value.agg #[.int .i64 0, .string ⟨#[]⟩]).cells (n + 1 - i) ++ Builtin.zeroCells (Value.agg #[.int .i64 0, .string ⟨#[]⟩]).cells (G - (n + 1)) = ROW := ⟨_, rfl⟩
  obtain ⟨W1, hW1⟩ : ∃ W1, w.drew.alloc (.cells ROW 46) = W1 := ⟨_, rfl⟩
  have hGn : n + 1 ≤ G := by rw [← hG]; exact grownCap_ge w _ _ _
  have hG63 : G ≤ maxLen := by rw [← hG]; exact grownCap_le_maxLen w _ _ _ (by unfold maxLen; omega)
  have hkk : (n : Int) + 1 - (i : Int) = ((n + 1 - i : Nat) : Int) := by omega
  have hrz : ∀ ty, (Builtin.append_ #[23, 3] ty #[.slice (some ⟨g, 0, none⟩) i cap, .int .i64 ((n : Int) + 1 - (i : Int))]).run Tryz.prog w = .ok (.slice (some ⟨w.heap.size, 0, none⟩) (n + 1) G) W1 := fun ty => by
    have h := Lib.run_append_grow_zeros (P := Tryz.prog) w 23 3 ty 46 i0 _ .i64 .i64 Tryz.underlying23 Tryz.underlying3 hi0 hz0 (some ⟨g, 0, none⟩) i cap (xs.take (i * 2)) hold (n + 1 - i) (by omega) (by omega) (by omega) (by omega) (by rw [hz2]; omega) (by rw [hz2, hik]; exact growslice_fits (by omega) (by omega))
    rw [hik, hG, hROW, hW1] at h
    rw [hkk]
    exact h
  have hzc : ∀ k, (Builtin.zeroCells (Value.agg #[.int .i64 0, .string ⟨#[]⟩]).cells k).size = k * 2 := fun k => by simp [Builtin.zeroCells, Value.cells]
  have hRl : ROW.size = G * 2 := by
    rw [← hROW, Array.size_append, Array.size_append, hzc, hzc]
    simp only [List.size_toArray, List.length_take]
    omega
  have hRt : ROW.toList.take (i * 2) = xs.take (i * 2) := by
    rw [← hROW, Array.toList_append, Array.toList_append, List.append_assoc]
    exact List.take_left' (by simp only [List.length_take]; omega)
  have hgN : W1.heap[w.heap.size]? = some (.cells ROW 46 (0, 0)) := by rw [← hW1]; exact heap_alloc_new w.drew _
  have hoN : ∀ k, k < w.heap.size → W1.heap[k]? = w.heap[k]? := fun k hk => by rw [← hW1]; exact heap_alloc_old w.drew _ hk
  have hbN : Below w.heap.size w W1 := by rw [← hW1]; exact (Below.refl _ w).drew.alloc (Nat.le_refl _) _
  obtain ⟨S1, hS1⟩ : ∃ S1, S1 = ROW.toList.take (i * 2) ++ vs ++ ROW.toList.drop (i * 2 + vs.length) := ⟨_, rfl⟩
  obtain ⟨S2, hS2⟩ : ∃ S2, S2 = S1.take ((i + 1) * 2) ++ xs.drop (i * 2) ++ S1.drop ((i + 1) * 2 + (xs.drop (i * 2)).length) := ⟨_, rfl⟩
  obtain ⟨l1, l2, l3⟩ := grow_list ROW.toList xs vs n i G (by simpa using hRl) hxl hRt hi hGn hvs S1 S2 hS1 hS2
  have hdl : (xs.drop (i * 2)).length = (n - i) * 2 := by rw [List.length_drop]; omega
  have hmin : Nat.min (n - i) (n - i) = n - i := by simp only [Nat.min_def]; split <;> omega
  have hmin2 : Nat.min 1 (n + 1 - i) = 1 := by simp only [Nat.min_def]; split <;> omega
  have hvN := (hoN vb hvw).trans hv
  obtain ⟨W2, hW2⟩ : ∃ W2, W1.setRow w.heap.size S1.toArray = W2 := ⟨_, rfl⟩
  have hcpA : ∀ ty dc, (Builtin.copy_ #[23, 23] ty #[.slice (some ⟨w.heap.size, i * 2, none⟩) (n + 1 - i) dc, .slice (some ⟨vb, 0, none⟩) 1 1]).run Tryz.prog W1 = .ok (goInt ((1 : Nat) : Int)) W2 := fun ty dc => by
    rw [← hW2, hS1]
    exact run_copy_rowS (P := Tryz.prog) W1 23 23 ty 46 2 1 w.heap.size (i * 2) (n + 1 - i) dc ⟨vb, 0, none⟩ 1 1 ROW 46 vs Tryz.underlying23 hsz2 hmin2 hgN (by omega)
      (fun j v hj => by
        rw [addr_add, cell_of_row _ _ _ _ _ _ hvN]
        simpa using hj)
      (by rw [hRl]; omega) hv1
  have hgN2 : W2.heap[w.heap.size]? = some (.cells S1.toArray 46 (0, 0)) := by rw [← hW2]; exact setRow_heap W1 _ _ _ _ _ hgN
  have hoN2 : W2.heap[g]? = w.heap[g]? := by rw [← hW2]; exact (setRow_other W1 _ g _ (by omega)).trans (hoN g hgw)
  have hbN2 : Below w.heap.size w W2 := by rw [← hW2]; exact below_setRow hbN (Nat.le_refl _) _
  obtain ⟨W3, hW3⟩ : ∃ W3, W2.drew.setRow w.heap.size S2.toArray = W3 := ⟨_, rfl⟩
  have hcpB : ∀ ty dc sc, (Builtin.copy_ #[23, 23] ty #[.slice (some ⟨w.heap.size, (i + 1) * 2, none⟩) (n - i) dc, .slice (some ⟨g, i * 2, none⟩) (n - i) sc]).run Tryz.prog W2.drew = .ok (goInt ((n - i : Nat) : Int)) W3 := fun ty dc sc => by
    rw [← hW3, hS2]
    have := run_copy_rowS (P := Tryz.prog) W2.drew 23 23 ty 46 2 (n - i) w.heap.size ((i + 1) * 2) (n - i) dc ⟨g, i * 2, none⟩ (n - i) sc S1.toArray 46 (xs.drop (i * 2)) Tryz.underlying23 hsz2 hmin hgN2 hdl
      (fun j v hj => by
        rw [addr_add]
        rw [List.getElem?_drop] at hj
        exact (World.cell?_of_block (a := ⟨g, i * 2 + j, none⟩) hoN2).trans (hcell _ v hj))
      (by simp only [List.size_toArray]; omega) (fun v hv => hone v (List.mem_of_mem_drop hv))
    simpa using this
  have hgN3 : W3.heap[w.heap.size]? = some (.cells S2.toArray 46 (0, 0)) := by rw [← hW3]; exact setRow_heap W2.drew _ _ _ _ _ hgN2
  have hbN3 : Below w.heap.size w W3 := by rw [← hW3]; exact below_setRow hbN2.drew (Nat.le_refl _) _
  have hw1 : IntKind.i64.wrap ((i : Int) + 1) = (i : Int) + 1 := by rw [IntKind.wrap_i64]; omega
  have htn : ((i : Int) + 1).toNat = i + 1 := by omega
  have hb1 : (0 : Int) ≤ (i : Int) + 1 := by omega
  have hin : i ≤ n := by omega
  have hb2 : ¬ (cap = i + 1) ∨ True := .inr trivial
  have hGi : ¬ (G = i) := by omega
  have hGi1 : ¬ (G = i + 1) := by omega
  have hci : ¬ (cap = i) := by omega
  have hb3 : (i : Int) ≤ (n : Int) := by omega
  have HB3 := Lib.hid hbN3; have HG3 := Lib.hid hgN3; have HS := Lib.hid (And.intro l2 l3); have HGN := Lib.hid (And.intro hGn hG63)
  have hG9 : G ≤ 9223372036854775807 := by unfold maxLen at hG63; omega
  clear hS1 hS2 l1 l2 l3 hgN hoN hbN hgN2 hoN2 hbN2 hgN3 hbN3 hW1 hW2 hW3 hROW hG hRl hRt hzc hold hcell hkk hvN hb2 hG63 hi0 hz0 hz1 hz2
  go_enter Tryz.func62, Tryz.ntmps62
  go_wp2_with (first
    | (at_builtin; refine Lib.wpList_append_run _ rfl _ _ _ _ rfl _ _ rfl rfl _ _ (hrz _) ?_)
    | (at_builtin; refine wpList_copyS _ rfl _ _ 23 23 rfl _ _ rfl rfl (hcpA _ _) ?_))
  go_region_law (refine step_copyS rfl _ _ 23 23 rfl _ _ (by simp [Act.eval, Act.put]) (by simp [Act.eval, Act.put]) (hcpB _ _ _) ?_)
  go_wp2_with fail
  go_ret
  exact ⟨G, rfl, HGN.out.1, HGN.out.2, S2.toArray, HG3.out, by simpa using HS.out.1, by simpa using HS.out.2, HB3.out⟩
theorem wcells_take : ∀ (l : List Wrt) (k : Nat), (wcells l).take (k * 2) = wcells (l.take k)
  | _, 0 => by simp [wcells]
  | [], k + 1 => by simp [wcells]
  | x :: l, k + 1 => by
    rw [show (k + 1) * 2 = k * 2 + 1 + 1 from by omega]
    simp only [wcells, List.take_succ_cons, wcells_take l k]
theorem wcells_drop : ∀ (l : List Wrt) (k : Nat), (wcells l).drop (k * 2) = wcells (l.drop k)
  | _, 0 => by simp
  | [], k + 1 => by simp [wcells]
  | x :: l, k + 1 => by
    rw [show (k + 1) * 2 = k * 2 + 1 + 1 from by omega]
    simp only [wcells, List.drop_succ_cons, wcells_drop l k]
theorem wcells_ins (l : List Wrt) (k : Nat) (x : Wrt) : (wcells l).take (k * 2) ++ [.int .i64 x.sector, .string x.bytes] ++ (wcells l).drop (k * 2) = wcells (l.take k ++ x :: l.drop k) := by
  rw [wcells_take, wcells_drop, wcells_append]
  simp [wcells]
set_option maxRecDepth 100000 in
set_option maxHeartbeats 4000000 in
theorem insOwn (base : Nat) (v : Value) (n : Nat) (l : List Wrt) (x : Wrt) (k vb : Nat) (w : World) (hown : w.ownsRow base 46 2 v n (wcells l)) (hbase : base ≤ w.heap.size) (hk : k ≤ n) (hn : n ≤ 100000)
    (hv : w.heap[vb]? = some (.cells #[.int .i64 x.sector, .string x.bytes] 46 (0, 0))) (hvb : v.ownBlock ≠ some vb) :
    Calls Tryz.prog 62 #[v, .int .i64 k, .slice (some ⟨vb, 0, none⟩) 1 1] w fun e w' => ∃ v', e = .returned v' ∧ w'.ownsRow base 46 2 v' (n + 1) (wcells (l.take k ++ x :: l.drop k)) ∧ Below base w w' := by
  have hlen : (wcells l).length = n * 2 := hown.1
  have hll : l.length = n := by rw [wcells_len] at hlen; omega
  have hvs : [Value.int .i64 x.sector, .string x.bytes].length = 2 := rfl
  have hv1 : ∀ u ∈ [Value.int .i64 x.sector, .string x.bytes], u.oneCell' = true := by
    intro u hu
    simp only [List.mem_cons, List.not_mem_nil, or_false] at hu
    rcases hu with rfl | rfl <;> rfl
  have hfl : (wcells (l.take k ++ x :: l.drop k)).length = (n + 1) * 2 := by
    rw [wcells_len]; simp only [List.length_append, List.length_take, List.length_cons, List.length_drop]; omega
  by_cases hkn : k = n
  · subst hkn
    have hfin : wcells (l.take k ++ x :: l.drop k) = wcells l ++ [.int .i64 x.sector, .string x.bytes] := by
      rw [List.take_of_length_le (by omega), List.drop_eq_nil_of_le (by omega), wcells_append]; rfl
    rw [hfin]
    obtain ⟨i0, hi0, hz0, hz1, hz2⟩ := info_parts infoWrt2
    have hkI : (k : Int) ≤ 100000 := by omega
    have hsrc : ∀ j u, [Value.int .i64 x.sector, .string x.bytes][j]? = some u → w.cell? ((⟨vb, 0, none⟩ : Addr).add j) = some u := fun j u hj => by
      rw [addr_add, cell_of_row _ _ _ _ _ _ hv, Nat.zero_add]
      simpa using hj
    have HO := Lib.hid hown
    rcases hown.2 with ⟨rfl, h0⟩ | ⟨g, cap, cur, rfl, hgb, hg, hnc, hcm, hcs, htk⟩
    · obtain rfl : k = 0 := h0
      clear hown hvb
      go_enter Tryz.func62, Tryz.ntmps62
      go_wp2_with (first | (at_builtin; go_must (refine wpList_extend (m := 1) (c := 1) _ _ 23 46 [.int .i64 x.sector, .string x.bytes] HO.out (Below.refl _ _ |>.mono hbase) hbase Tryz.underlying23 hi0 hz0 hz1 hz2 rfl (by decide) rfl rfl (by rfl) (by rfl) (.inr ⟨_, rfl, hsrc⟩) rfl hv1 ⟨by omega, by omega⟩ ?_); intro v' w' hown' hb'))
      go_ret
      exact ⟨v', rfl, hown', hb'⟩
    · have hcm2 : cap ≤ 9223372036854775807 := by unfold maxLen at hcm; omega
      have hkc : (k : Int) ≤ cap := by omega
      clear hown hvb hcs htk hg
      go_enter Tryz.func62, Tryz.ntmps62
      go_wp2_with (first | (at_builtin; go_must (refine wpList_extend (m := 1) (c := 1) _ _ 23 46 [.int .i64 x.sector, .string x.bytes] HO.out (Below.refl _ _ |>.mono hbase) hbase Tryz.underlying23 hi0 hz0 hz1 hz2 rfl (by decide) rfl rfl (by rfl) (by rfl) (.inr ⟨_, rfl, hsrc⟩) rfl hv1 ⟨by omega, by omega⟩ ?_); intro v' w' hown' hb'))
      all_goals
        go_ret
        exact ⟨v', rfl, hown', hb'⟩
  · rcases hown.2 with ⟨_, h0⟩ | ⟨g, cap, cur, rfl, hgb, hg, hnc, hcm, hcs, htk⟩
    · omega
    · have hne : vb ≠ g := fun e => hvb (by rw [e]; simp [Value.ownBlock])
      have hone : ∀ u ∈ wcells l, u.oneCell' = true := wcells_one l
      by_cases hr : n + 1 ≤ cap
      · refine (insShift g n k cap vb cur (wcells l) [.int .i64 x.sector, .string x.bytes] 46 w hg hcs htk hone (by omega) hr hn (by unfold maxLen at hcm; omega) hv hvs hv1 hne).mono ?_
        rintro e w' ⟨rfl, cur', h1, h2, h3, h4⟩
        refine ⟨_, rfl, ⟨hfl, .inr ⟨g, cap, cur', rfl, hgb, h1, hr, hcm, h2, by rw [h3, wcells_ins]⟩⟩, ?_⟩
        exact (Below.refl base w).grown h4 hbase (fun k hk => by injection hk with hk; omega)
      · refine (insGrow g n k cap vb cur (wcells l) [.int .i64 x.sector, .string x.bytes] w hg hcs htk hone (by omega) hnc (by omega) hn hv hvs hv1 hne).mono ?_
        rintro e w' ⟨G, rfl, hG1, hG2, cur', h1, h2, h3, h4⟩
        exact ⟨_, rfl, ⟨hfl, .inr ⟨w.heap.size, G, cur', rfl, hbase, h1, hG1, hG2, h2, by rw [h3, wcells_ins]⟩⟩, h4.mono hbase⟩
end SInsW
section SWl7
open Go.RowKit
set_option linter.unusedVariables false
set_option linter.unusedSimpArgs false

def withT (d : List Wrt) (x : Wrt) : List Wrt := withW ⟨x.sector, trimS x.bytes⟩ d
def takenL (l : Lg) (ws : List Wrt) : Lg := ⟨l.secs, l.pend, l.left, l.epoch, l.seq + 1, l.used + ws.length, ws.foldl withT l.dirty⟩
def mayW (n : Nat) (x : Wrt) : Prop := homeB n x.sector = true ∧ (trimS x.bytes).size ≤ 512
theorem trim_fits {b : ByteArray} (h : (trimS b).size ≤ 512) : fitsB (trimS b) = true := decide_eq_true ⟨h, trimS_twice b⟩
theorem dirty_with {n : Nat} {x : Wrt} (hh : homeB n x.sector = true) (hf : fitsB x.bytes = true) : ∀ {p : Int} {l : List Wrt}, dirtyB n p l = true → p < x.sector → dirtyB n p (withW x l) = true
  | p, [], _, hp => by
    unfold withW dirtyB
    rw [hh, hf, decide_eq_true hp]; rfl
  | p, y :: l, h, hp => by
    have h0 := h
    unfold dirtyB at h
    simp only [Bool.and_eq_true, decide_eq_true_eq] at h
    obtain ⟨⟨⟨a, b⟩, c⟩, d⟩ := h
    unfold withW
    split
    · rename_i hlt
      unfold dirtyB
      rw [a, c, decide_eq_true b, dirty_with hh hf d hlt]; rfl
    · split
      · rename_i he
        unfold dirtyB
        rw [hh, hf, decide_eq_true hp, ← he, d]; rfl
      · rename_i h1 h2
        unfold dirtyB
        have h3 : x.sector < y.sector := by omega
        rw [hh, hf, decide_eq_true hp]
        unfold dirtyB
        rw [a, c, decide_eq_true h3, d]; rfl
theorem fold_with {n : Nat} : ∀ (ws : List Wrt) (d : List Wrt), (∀ x ∈ ws, mayW n x) → dirtyB n (-1) d = true → dirtyB n (-1) (ws.foldl withT d) = true
  | [], d, _, h => h
  | x :: ws, d, hx, h => by
    obtain ⟨h1, h2⟩ := hx x List.mem_cons_self
    refine fold_with ws _ (fun y hy => hx y (List.mem_cons_of_mem _ hy)) (dirty_with (x := ⟨x.sector, trimS x.bytes⟩) h1 (trim_fits h2) h ?_)
    unfold homeB at h1
    rw [decide_eq_true_eq] at h1
    show (-1 : Int) < x.sector
    omega
theorem dirty_bounded {n : Nat} (hn : n ≤ 256) {d : List Wrt} (h : dirtyB n (-1) d = true) : ∀ x ∈ d, x.bounded := by
  intro x hx
  obtain ⟨i, hi, rfl⟩ := List.mem_iff_getElem.1 hx
  obtain ⟨h1, _, h2⟩ := dirty_from h i hi
  rw [show d.getD i wrtZ = d[i] from by simp [List.getD, hi]] at h1 h2
  unfold fitsB at h2
  rw [decide_eq_true_eq] at h2
  exact ⟨⟨by omega, by omega⟩, by omega⟩
theorem wcells_set : ∀ (l : List Wrt) (k : Nat) (x : Wrt), wcells (l.set k x) = ((wcells l).set (k * 2) (.int .i64 x.sector)).set (k * 2 + 1) (.string x.bytes)
  | [], k, x => by simp [wcells]
  | y :: l, 0, x => by simp [wcells]
  | y :: l, k + 1, x => by
    rw [List.set_cons_succ, show (k + 1) * 2 = k * 2 + 1 + 1 from by omega, show k * 2 + 1 + 1 + 1 = (k * 2 + 1) + 1 + 1 from rfl]
    simp only [wcells, List.set_cons_succ, wcells_set l k x]
theorem own_elem {w : World} {base : Nat} {v : Value} {n : Nat} {l : List Wrt} (h : w.ownsRow base 46 2 v n (wcells l)) {k : Nat} (hk : k < n) (x : Wrt) :
    ∃ g c y0 y1, v = .slice (some ⟨g, 0, none⟩) n c ∧ base ≤ g ∧ g < w.heap.size ∧ w.cell? ⟨g, k * 2, none⟩ = some y0 ∧ w.cell? ⟨g, k * 2 + 1, none⟩ = some y1 ∧ (∀ j, w.frozen? ⟨g, j, none⟩ = false) ∧
      ((w.setCell ⟨g, k * 2, none⟩ (.int .i64 x.sector)).setCell ⟨g, k * 2 + 1, none⟩ (.string x.bytes)).ownsRow base 46 2 v n (wcells (l.set k x)) := by
  have hlen := h.1
  rcases h.2 with ⟨_, h0⟩ | ⟨g, cap, cur, rfl, hgb, hg, hnc, hcm, hcs, htk⟩
  · omega
  · have z0 : k * 2 < cur.size := by omega
    have z1 : k * 2 + 1 < cur.size := by omega
    refine ⟨g, cap, cur[k * 2], cur[k * 2 + 1], rfl, hgb, lt_of_block hg, by rw [cell_of_row _ _ _ _ _ _ hg, Array.getElem?_eq_getElem z0], by rw [cell_of_row _ _ _ _ _ _ hg, Array.getElem?_eq_getElem z1], fun j => block_frozen hg j, ?_, ?_⟩
    · rw [wcells_set, List.length_set, List.length_set]; exact hlen
    · refine .inr ⟨g, cap, _, rfl, hgb, block_set (block_set hg (k * 2) (.int .i64 x.sector)) (k * 2 + 1) (.string x.bytes), hnc, hcm, by simp [hcs], ?_⟩
      rw [wcells_set, ← htk]
      simp only [Array.toList_setIfInBounds, List.take_set]
theorem fold_take (l : List Wrt) (ws : List Wrt) (j : Nat) (h : j < ws.length) (d : List Wrt) : (ws.take (j + 1)).foldl withT d = withT ((ws.take j).foldl withT d) (ws.getD j wrtZ) := by
  rw [← List.take_append_getElem h, List.foldl_append, show ws.getD j wrtZ = ws[j] from by simp [List.getD, h]]
  rfl
theorem with_len {x : Wrt} : ∀ (l : List Wrt), (withW x l).length ≤ l.length + 1
  | [] => by simp [withW]
  | y :: l => by
    unfold withW
    split
    · have := with_len (x := x) l; simp only [List.length_cons]; omega
    · split <;> simp
theorem own_putv {w : World} {base : Nat} {e : TypeId} {size : Nat} {v : Value} {n : Nat} {xs : List Value} (h : w.ownsRow base e size v n xs) {B : Nat} (hB : v.ownBlock ≠ some B) (i : Nat) (x : Value) : (w.setCell ⟨B, i, none⟩ x).ownsRow base e size v n xs :=
  h.kept (row := some B) ⟨rfl, rfl, rfl, by simp [World.setCell], fun k _ hk => Below.heap_setCell _ _ _ _ (fun e => hk (by simp [e]))⟩ (.inr hB)
/-- what taking holds on to -/
def LogAt (w : World) (B : Nat) (sv pv : Value) (a b c d : Int) (dv : Value) : Prop := w.heap[B]? = some (.cells #[sv, pv, .int .i64 a, .int .i64 b, .int .i64 c, .int .i64 d, dv] 29 (0, 0))
def nilLog : Array Value := #[.slice none 0 0, .slice none 0 0, .int .i64 0, .int .i64 0, .int .i64 0, .int .i64 0, .slice none 0 0]
set_option maxRecDepth 100000 in
set_option maxHeartbeats 8000000 in
theorem wlTaken (v wv : Value) (l : Lg) (ws : List Wrt) (w : World) (h : IsLog w v l) (hw : IsWrts w wv ws) (hd : dirtyB l.secs.length (-1) l.dirty = true) (hN : l.secs.length ≤ 256) (hm : ∀ x ∈ ws, mayW l.secs.length x) (hws : ws.length ≤ 1000)
    (hsq : 0 ≤ l.seq ∧ l.seq ≤ 1000) (hus : 0 ≤ l.used ∧ l.used ≤ 1000) :
    Calls Tryz.prog 28 #[v, wv] w fun e w' => ∃ v', e = .returned v' ∧ IsLog w' v' (takenL l ws) ∧ Below w.heap.size w w' := by
  obtain ⟨a, c, a', c', a2, c2, rfl, _, _, _, hS, hP, hD⟩ := id h.form
  have hbd := h.1
  obtain ⟨wa, wn, wc, rfl, hwl, _, _, hwb, _⟩ := id hw
  have hdb := fun j => fold_with (n := l.secs.length) (ws.take j) l.dirty (fun x hx => hm x (List.mem_of_mem_take hx)) hd
  have hT : takenL l ws = ⟨l.secs, l.pend, l.left, l.epoch, l.seq + 1, l.used + ws.length, ws.foldl withT l.dirty⟩ := rfl
  have hdl := dirty_small hd hN
  have HS := Lib.hid hS; have HP := Lib.hid hP; have HD := Lib.hid hD; have HW := Lib.hid hw; have HDB := Lib.hid hdb; have HT := Lib.hid hT; have HM := Lib.hid hm; have HWL := Lib.hid hwl; have HWB := Lib.hid hwb; have HBD := Lib.hid hbd; have HNN := Lib.hid hN
  have hseq1 : wrap64 (l.seq + 1) = l.seq + 1 := IntWalk.wrap64_in _ ⟨by omega, by omega⟩
  have hus1 : wrap64 (l.used + (wn : Int)) = l.used + wn := IntWalk.wrap64_in _ ⟨by omega, by omega⟩
  have hwnI : (wn : Int) ≤ 1000 := by omega
  clear hS hP hD hw hdb hT hm hwb h hbd hd hN
  obtain ⟨secs, pend, left, epoch, seq, used, dirty⟩ := l
  simp only at *
  generalize hNs : secs.length = N at *
  generalize hPs : pend.length = P at *
  obtain ⟨D, hDs⟩ : ∃ D, dirty.length = D := ⟨_, rfl⟩
  rw [hDs] at HD hdl ⊢
  have HDs := Lib.hid hDs; have HNs := Lib.hid hNs; have HPs := Lib.hid hPs
  have b0 := heap_alloc_new w (.cells #[.slice a N c, .slice a' P c', .int .i64 left, .int .i64 epoch, .int .i64 seq, .int .i64 used, .slice a2 D c2] 29)
  have hX : Hid (∀ u : World, u = (w.alloc (.cells #[.slice a N c, .slice a' P c', .int .i64 left, .int .i64 epoch, .int .i64 seq, .int .i64 used, .slice a2 D c2] 29)).alloc (.cells nilLog 29) →
      LogAt u w.heap.size (.slice a N c) (.slice a' P c') left epoch seq used (.slice a2 D c2) ∧ u.heap[w.heap.size + 1]? = some (.cells nilLog 29 (0, 0)) ∧ Below w.heap.size w u ∧ u.heap.size = w.heap.size + 1 + 1) := Lib.hid (by
    rintro u rfl
    have e1 := heap_alloc_new (w.alloc (.cells #[.slice a N c, .slice a' P c', .int .i64 left, .int .i64 epoch, .int .i64 seq, .int .i64 used, .slice a2 D c2] 29)) (.cells nilLog 29)
    rw [World.size_alloc] at e1
    exact ⟨(heap_alloc_old _ _ (lt_of_block b0)).trans b0, e1, ((Below.refl w.heap.size w).alloc (Nat.le_refl _) _).alloc (by simp) _, by rw [World.size_alloc, World.size_alloc]⟩)
  unfold nilLog at hX
  clear b0 hDs hNs hPs
  go_enter Tryz.func28, Tryz.ntmps28
  go_upto_region 1 with fail
  obtain ⟨u, hW⟩ : ∃ u, (w.alloc (.cells #[.slice a N c, .slice a' P c', .int .i64 left, .int .i64 epoch, .int .i64 seq, .int .i64 used, .slice a2 D c2] 29)).alloc (.cells #[.slice none 0 0, .slice none 0 0, .int .i64 0, .int .i64 0, .int .i64 0, .int .i64 0, .slice none 0 0] 29) = u := ⟨_, rfl⟩
  rw [hW]
  obtain ⟨hL, hR, hb, hz⟩ := hX.out u hW.symm
  clear hW hX
  obtain ⟨B, hB⟩ : ∃ B, w.heap.size = B := ⟨_, rfl⟩
  rw [hB] at hL hR hz ⊢
  have HBQ := Lib.hid hB; have HBE := Lib.hid hb
  unfold LogAt at hL
  have c4 := below_cell (Below.refl _ u) hL 4 rfl
  have f4 := block_frozen hL 4
  have c5 := below_cell (Below.refl _ u) hL 5 rfl
  have f5 := block_frozen hL 5
  have hL1 := block_set hL 4 (.int .i64 (seq + 1))
  have hL2 := block_set hL1 5 (.int .i64 (used + wn))
  have hBlt := lt_of_block hL
  have hRx : ∀ x y, ((u.setCell ⟨B, 4, none⟩ x).setCell ⟨B, 5, none⟩ y).heap[B + 1]? = some (.cells #[.slice none 0 0, .slice none 0 0, .int .i64 0, .int .i64 0, .int .i64 0, .int .i64 0, .slice none 0 0] 29 (0, 0)) := fun x y => by
    rw [Below.heap_setCell _ _ _ _ (by show B + 1 ≠ B; omega), Below.heap_setCell _ _ _ _ (by show B + 1 ≠ B; omega)]; exact hR
  have hbx : ∀ x y, Below w.heap.size w ((u.setCell ⟨B, 4, none⟩ x).setCell ⟨B, 5, none⟩ y) := fun x y => (hb.setCell (p := ⟨B, 4, none⟩) (by show w.heap.size ≤ B; omega) x).setCell (p := ⟨B, 5, none⟩) (by show w.heap.size ≤ B; omega) y
  go_upto_region 3 with fail
  obtain ⟨u2, hW⟩ : ∃ u2, (u.setCell ⟨B, 4, none⟩ (.int .i64 (seq + 1))).setCell ⟨B, 5, none⟩ (.int .i64 (used + wn)) = u2 := ⟨_, rfl⟩
  have hR2 := hRx (.int .i64 (seq + 1)) (.int .i64 (used + wn))
  have hb2 := hbx (.int .i64 (seq + 1)) (.int .i64 (used + wn))
  have hz2 : ((u.setCell ⟨B, 4, none⟩ (.int .i64 (seq + 1))).setCell ⟨B, 5, none⟩ (.int .i64 (used + wn))).heap.size = B + 1 + 1 := by rw [World.size_setCell, World.size_setCell]; exact hz
  rw [hW] at hL2 hR2 hb2 hz2 ⊢
  have HL2 : Hid (u2.heap[B]? = some (.cells #[.slice a N c, .slice a' P c', .int .i64 left, .int .i64 epoch, .int .i64 (seq + 1), .int .i64 (used + wn), .slice a2 D c2] 29 (0, 0))) := Lib.hid hL2
  have HR2 := Lib.hid hR2; have HB2 := Lib.hid hb2
  have HCL := Lib.hid (cloneWrts_any (.slice a2 D c2) dirty u2 (HD.out.below hb2) (by rw [HDs.out]; omega))
  clear hW hL hR hb hL1 hL2 hRx hbx hR2 hb2 c4 f4 c5 f5 hz hBlt
  rw [HDs.out] at HCL
  have c6 := below_cell (Below.refl _ u2) HL2.out 6 rfl
  go_upto_region 4 with (first | (go_at_call 60; refine HCL.out.mono ?_; rintro e u3 ⟨⟨v3, rfl, hown3⟩, hb3⟩; obtain ⟨a3, c3, rfl⟩ := own_form hown3; have hL3 := (hb3.block _ (lt_of_block HL2.out)).trans HL2.out; have d6 := below_cell (Below.refl _ u3) hL3 6 rfl; have f6 := block_frozen hL3 6))
  have HL4 : Hid ((u3.setCell ⟨B, 6, none⟩ (.slice a3 D c3)).heap[B]? = some (.cells #[.slice a N c, .slice a' P c', .int .i64 left, .int .i64 epoch, .int .i64 (seq + 1), .int .i64 (used + wn), .slice a3 D c3] 29 (0, 0))) := Lib.hid (block_set hL3 6 (.slice a3 D c3))
  have HR4 := Lib.hid ((Below.heap_setCell u3 ⟨B, 6, none⟩ (.slice a3 D c3) (B + 1) (by show B + 1 ≠ B; omega)).trans ((hb3.block _ (lt_of_block HR2.out)).trans HR2.out))
  have HB4 := Lib.hid ((HB2.out.trans (hb3.mono HB2.out.size)).setCell (p := ⟨B, 6, none⟩) (by show w.heap.size ≤ B; rw [HBQ.out]; exact Nat.le_refl _) (.slice a3 D c3))
  have hown3' : u3.ownsRow (B + 1 + 1) 46 2 (.slice a3 D c3) D (wcells dirty) := by rw [← hz2]; exact hown3
  have HO4 := Lib.hid (ownsRow_setCell_below (a := ⟨B, 6, none⟩) hown3' (by show B < B + 1 + 1; omega) (.slice a3 D c3))
  have hz4 : B + 1 + 1 ≤ (u3.setCell ⟨B, 6, none⟩ (.slice a3 D c3)).heap.size := by rw [World.size_setCell]; have := hb3.size; omega
  obtain ⟨u4, hW⟩ : ∃ u4, u3.setCell ⟨B, 6, none⟩ (.slice a3 D c3) = u4 := ⟨_, rfl⟩
  rw [hW] at HL4 HR4 HB4 HO4 hz4 ⊢
  clear hW hL3 d6 f6 c6 hb3 hown3 hown3' HL2 HR2 HB2 HCL hz2
  go_wp2_with fail
  go_loopw [25] (fun z wr => ∃ (j m : Nat) (dv : Value), j ≤ wn ∧ z = .int .i64 j ∧ B + 1 + 1 ≤ wr.heap.size ∧ Hid (((ws.take j).foldl withT dirty).length = m) ∧ Hid (Below w.heap.size w wr) ∧ Hid (wr.heap[B]? = some (.cells #[.slice a N c, .slice a' P c', .int .i64 left, .int .i64 epoch, .int .i64 (seq + 1), .int .i64 (used + wn), dv] 29 (0, 0))) ∧ Hid (wr.heap[B + 1]? = some (.cells #[.slice none 0 0, .slice none 0 0, .int .i64 0, .int .i64 0, .int .i64 0, .int .i64 0, .slice none 0 0] 29 (0, 0))) ∧
      Hid (wr.ownsRow (B + 1 + 1) 46 2 dv m (wcells ((ws.take j).foldl withT dirty)))) (fun z _ => wn - (intOf z).toNat)
  case atStart => exact ⟨0, D, _, Nat.zero_le _, rfl, hz4, Lib.hid HDs.out, HB4, HL4, HR4, HO4⟩
  case round =>
    clear HB4 HL4 HR4 HO4 hz4
    obtain ⟨j, m, dv, hj, rfl, hzr, hml, hB, hL, hR, hO⟩ := hrel
    obtain ⟨a5, c5, rfl⟩ := own_form hO.out
    by_cases hlt : j < wn
    · have hjI : (j : Int) < wn := by omega
      have hjl : j < ws.length := by rw [HWL.out]; exact hlt
      obtain ⟨a9, n9, c9, hv9, _, _, _, _, hat⟩ := HW.out.below hB.out
      injection hv9 with t1 t2 t3
      subst t1 t2 t3
      obtain ⟨b, off, rfl, hbl, hat⟩ := hat.resolve_left (by omega)
      obtain ⟨e0, e1⟩ := hat j hlt
      have hbx := HWB.out _ (List.getElem_mem hjl)
      have hmx := HM.out _ (List.getElem_mem hjl)
      rw [show ws[j] = ws.getD j wrtZ from by simp [List.getD, hjl]] at hbx hmx
      have hft := fold_take dirty ws j hjl dirty
      have hdj := HDB.out j
      generalize (ws.take j).foldl withT dirty = d at *
      generalize ws.getD j wrtZ = X at *
      obtain ⟨xs, xb⟩ := X
      simp only at e0 e1 hbx hmx
      obtain ⟨hmh, hmf⟩ := hmx
      have hnb : 53 ≤ xs ∧ xs < N ∧ xs ≤ 256 := home_bnd hmh HNN.out
      have hmf : (trimS xb).size ≤ 512 := hmf
      have hds := dirty_small hdj HNN.out
      have hTR := fun q => leTrim_any xb q hbx.2
      have hft2 : (ws.take (j + 1)).foldl withT dirty = withW ⟨xs, trimS xb⟩ d := hft
      obtain ⟨T, hT⟩ : ∃ T, trimS xb = T := ⟨_, rfl⟩
      simp only [hT] at hft2 hTR hmf
      have hne : (.slice a5 m c5 : Value).ownBlock ≠ some wr.heap.size := fun e => absurd (hO.out.lt _ e).2 (by omega)
      have hal := (Below.refl wr.heap.size wr).alloc (Nat.le_refl _) (.cells #[.int .i64 xs, .string xb] 46)
      have hn := heap_alloc_new wr (.cells #[.int .i64 xs, .string xb] 46)
      have hOz := hO.out.alloc (.cells #[.int .i64 xs, .string xb] 46)
      have hLz := (hal.block _ (lt_of_block hL.out)).trans hL.out
      have hRz := (hal.block _ (lt_of_block hR.out)).trans hR.out
      have hBz := hB.out.trans (hal.mono hB.out.size)
      have hzz : (wr.alloc (.cells #[.int .i64 xs, .string xb] 46)).heap.size = wr.heap.size + 1 := World.size_alloc _ _
      obtain ⟨wz, hwz⟩ : ∃ wz, wr.alloc (.cells #[.int .i64 xs, .string xb] 46) = wz := ⟨_, rfl⟩
      obtain ⟨V, hV⟩ : ∃ V, wr.heap.size = V := ⟨_, rfl⟩
      rw [hwz] at hn hOz hLz hRz hBz hzz
      rw [hV] at hn hne hzz hzr
      have hBV : B + 1 + 1 ≤ V := hzr
      have hOy := own_putv hOz hne 1 (.string T)
      have hVy := block_set hn 1 (.string T)
      have hLy := (Below.heap_setCell wz ⟨V, 1, none⟩ (.string T) B (by show B ≠ V; omega)).trans hLz
      have hRy := (Below.heap_setCell wz ⟨V, 1, none⟩ (.string T) (B + 1) (by show B + 1 ≠ V; omega)).trans hRz
      have hBy := hBz.setCell (p := ⟨V, 1, none⟩) (by show w.heap.size ≤ V; rw [HBQ.out]; omega) (.string T)
      have hzy : (wz.setCell ⟨V, 1, none⟩ (.string T)).heap.size = V + 1 := by rw [World.size_setCell]; exact hzz
      have HWZ := Lib.hid hwz; have HVQ := Lib.hid hV
      have hz0 := below_cell (Below.refl _ wz) hn 0 rfl
      have hz1 := below_cell (Below.refl _ wz) hn 1 rfl
      have hf1 := block_frozen hn 1
      clear hat hal hn hOz hLz hRz hBz hzz hwz hV hft hT
      obtain ⟨wy, hwy⟩ : ∃ wy, wz.setCell ⟨V, 1, none⟩ (.string T) = wy := ⟨_, rfl⟩
      rw [hwy] at hOy hVy hLy hRy hBy hzy
      have HVY : Hid (wy.heap[V]? = some (.cells #[.int .i64 xs, .string T] 46 (0, 0))) := Lib.hid hVy
      have HWY := Lib.hid hwy
      have HF := Lib.hid (wlFind (.slice a5 m c5) d xs wy (own_wrts hOy (dirty_bounded HNN.out hdj)) (by omega) (by omega) (fun t ht => by have := (dirty_from hdj t ht).1; have := HNN.out; omega) (dirty_rises hdj))
      have HOY := Lib.hid hOy; have HLY := Lib.hid hLy; have HRY := Lib.hid hRy; have HBY := Lib.hid hBy; have HFT2 := Lib.hid hft2; have HTR := Lib.hid hTR
      have hmm : m ≤ 256 := by rw [← hml.out]; exact hds
      clear hOy hLy hRy hBy hwy hVy hft2 hTR hO hL hR hB hbl
      go_upto_region 7 with fail
      rw [HWZ.out]
      (try rw [HVQ.out])
      clear e0 e1
      go_upto_region 8 with (first | (go_at_call 57; refine (HTR.out _).mono ?_; rintro e q5 ⟨rfl, rfl⟩))
      rw [HWY.out]
      clear hz0 hz1 hf1 HWZ HWY
      have y0 := below_cell (Below.refl _ wy) HVY.out 0 rfl
      have y1 := below_cell (Below.refl _ wy) HVY.out 1 rfl
      have l6 := below_cell (Below.refl _ wy) HLY.out 6 rfl
      go_upto_region 9 with (first | (go_at_call 61; refine HF.out.mono ?_; rintro e u5 ⟨⟨k, hk, rfl⟩, hb5⟩))
      have hLv := (hb5.block _ (lt_of_block HLY.out)).trans HLY.out
      have HR5 := Lib.hid ((hb5.block _ (lt_of_block HRY.out)).trans HRY.out)
      have HV5 := Lib.hid ((hb5.block _ (lt_of_block HVY.out)).trans HVY.out)
      have HB5 := Lib.hid (HBY.out.trans (hb5.mono HBY.out.size))
      have hO5 := own_keep HOY.out hb5
      have hz5 : V + 1 ≤ u5.heap.size := by have := hb5.size; omega
      have HL5 := Lib.hid hLv; have HO5 := Lib.hid hO5
      clear y0 y1 l6 hb5 hLv hO5 HLY HRY HVY HBY HOY HF hzy
      have hwa := withW_at ⟨xs, T⟩ d k hk.1 hk.2.1 hk.2.2
      have hml2 : d.length = m := hml.out
      have y0 := below_cell (Below.refl _ u5) HV5.out 0 rfl
      have y1 := below_cell (Below.refl _ u5) HV5.out 1 rfl
      have l6 := below_cell (Below.refl _ u5) HL5.out 6 rfl
      cases hf : foundB d xs k with
      | true =>
        have hkd : k < d.length ∧ (d.getD k wrtZ).sector = xs := by unfold foundB at hf; rwa [decide_eq_true_eq] at hf
        rw [if_pos hkd] at hwa
        have hkm : k < m := by omega
        have hkI : (k : Int) < m := by omega
        obtain ⟨g, cc, w0, w1, hvv, hgB, hgl, g0, g1, gf, hO6⟩ := own_elem HO5.out hkm ⟨xs, T⟩
        injection hvv with t1 t2 t3
        subst t1 t3
        have f0 := gf (k * 2)
        have f1 := gf (k * 2 + 1)
        have HL6 := fun (p q : Value) => ((Below.heap_setCell _ ⟨g, k * 2 + 1, none⟩ q B (by show B ≠ g; omega)).trans ((Below.heap_setCell u5 ⟨g, k * 2, none⟩ p B (by show B ≠ g; omega)).trans HL5.out))
        have HR6 := fun (p q : Value) => ((Below.heap_setCell _ ⟨g, k * 2 + 1, none⟩ q (B + 1) (by show B + 1 ≠ g; omega)).trans ((Below.heap_setCell u5 ⟨g, k * 2, none⟩ p (B + 1) (by show B + 1 ≠ g; omega)).trans HR5.out))
        have HB6 := fun (p q : Value) => (HB5.out.setCell (p := ⟨g, k * 2, none⟩) (by show w.heap.size ≤ g; rw [HBQ.out]; omega) p).setCell (p := ⟨g, k * 2 + 1, none⟩) (by show w.heap.size ≤ g; rw [HBQ.out]; omega) q
        have hz6 : B + 1 + 1 ≤ ((u5.setCell ⟨g, k * 2, none⟩ (.int .i64 xs)).setCell ⟨g, k * 2 + 1, none⟩ (.string T)).heap.size := by rw [World.size_setCell, World.size_setCell]; omega
        have HA6 := Lib.hid (HL6 (.int .i64 xs) (.string T)); have HC6 := Lib.hid (HR6 (.int .i64 xs) (.string T)); have HD6 := Lib.hid (HB6 (.int .i64 xs) (.string T))
        have HO6 := Lib.hid hO6
        have HW6 := Lib.hid (HFT2.out.trans hwa)
        have HM6 : Hid (((ws.take (j + 1)).foldl withT dirty).length = m) := Lib.hid (by rw [HW6.out, List.length_set]; exact hml2)
        clear gf hO6 hwa hk hf hkd HL6 HR6 HB6
        go_wp2_with fail
        go_roundw
        case rel => exact ⟨j + 1, m, _, by omega, by go_num, hz6, HM6, HD6, HA6, HC6, Lib.hid (by rw [HW6.out]; exact HO6.out)⟩
        case measure => simp [intOf]; omega
      | false =>
        have hkd : ¬ (k < d.length ∧ (d.getD k wrtZ).sector = xs) := by unfold foundB at hf; rwa [decide_eq_false_iff_not] at hf
        rw [if_neg hkd] at hwa
        have hn6 := heap_alloc_new u5 (.cells #[.int .i64 xs, .string T] 46)
        have hal6 := (Below.refl u5.heap.size u5).alloc (Nat.le_refl _) (.cells #[.int .i64 xs, .string T] 46)
        have hne6 : (.slice a5 m c5 : Value).ownBlock ≠ some u5.heap.size := fun e => absurd (HO5.out.lt _ e).2 (by omega)
        have hsz6 : B + 1 + 1 ≤ (u5.alloc (.cells #[.int .i64 xs, .string T] 46)).heap.size := by rw [World.size_alloc]; omega
        have hkm : k ≤ m := by have := hk.1; omega
        have HI := Lib.hid (insOwn (B + 1 + 1) (.slice a5 m c5) m d ⟨xs, T⟩ k u5.heap.size (u5.alloc (.cells #[.int .i64 xs, .string T] 46)) (HO5.out.alloc _) hsz6 hkm (by omega) hn6 hne6)
        have HAL6 := Lib.hid hal6
        have HW6 := Lib.hid (HFT2.out.trans hwa)
        have hm1 : (d.take k ++ ⟨xs, T⟩ :: d.drop k).length = m + 1 := by simp only [List.length_append, List.length_take, List.length_cons, List.length_drop]; omega
        have HM6 : Hid (((ws.take (j + 1)).foldl withT dirty).length = m + 1) := Lib.hid (by rw [HW6.out]; exact hm1)
        clear hn6 hal6 hne6 hsz6 hwa hk hf hkd hm1
        go_wp2_with (first | (go_at_call 62; refine HI.out.mono ?_; rintro e u7 ⟨v7, rfl, hown7, hb7⟩; obtain ⟨a7, c7, rfl⟩ := own_form hown7; have hL7 := (hb7.block _ (by omega)).trans ((HAL6.out.block _ (lt_of_block HL5.out)).trans HL5.out); have d6 := below_cell (Below.refl _ u7) hL7 6 rfl; have f6 := block_frozen hL7 6))
        have hR7 := (hb7.block (B + 1) (by omega)).trans ((HAL6.out.block _ (lt_of_block HR5.out)).trans HR5.out)
        have hB7 : Below w.heap.size w u7 := (HB5.out.trans (HAL6.out.mono HB5.out.size)).trans (hb7.mono (by rw [HBQ.out]; omega))
        have HA8 : Hid ((u7.setCell ⟨B, 6, none⟩ (.slice a7 (m + 1) c7)).heap[B]? = some (.cells #[.slice a N c, .slice a' P c', .int .i64 left, .int .i64 epoch, .int .i64 (seq + 1), .int .i64 (used + wn), .slice a7 (m + 1) c7] 29 (0, 0))) := Lib.hid (block_set hL7 6 (.slice a7 (m + 1) c7))
        have HC8 := Lib.hid ((Below.heap_setCell u7 ⟨B, 6, none⟩ (.slice a7 (m + 1) c7) (B + 1) (by show B + 1 ≠ B; omega)).trans hR7)
        have HD8 := Lib.hid (hB7.setCell (p := ⟨B, 6, none⟩) (by show w.heap.size ≤ B; rw [HBQ.out]; exact Nat.le_refl _) (.slice a7 (m + 1) c7))
        have HO8 := Lib.hid (ownsRow_setCell_below (a := ⟨B, 6, none⟩) hown7 (by show B < B + 1 + 1; omega) (.slice a7 (m + 1) c7))
        have hz8 : B + 1 + 1 ≤ (u7.setCell ⟨B, 6, none⟩ (.slice a7 (m + 1) c7)).heap.size := by rw [World.size_setCell]; have := hb7.size; rw [World.size_alloc] at this; omega
        clear hL7 d6 f6 hb7 hR7 hB7 hown7
        go_roundw
        case rel => exact ⟨j + 1, m + 1, _, by omega, by go_num, hz8, HM6, HD8, HA8, HC8, Lib.hid (by rw [HW6.out]; exact HO8.out)⟩
        case measure => simp [intOf]; omega
    · obtain rfl : j = wn := by omega
      have hnl : ¬ (j : Int) < j := by omega
      have hall : ws.take j = ws := List.take_of_length_le (by rw [HWL.out]; exact Nat.le_refl _)
      have hdf := HDB.out j
      rw [hall] at hml hO hdf
      clear hall
      obtain ⟨d, hd⟩ : ∃ d, ws.foldl withT dirty = d := ⟨_, rfl⟩
      rw [hd] at hml hO hdf
      have c0 := below_cell (Below.refl _ wr) hL.out 0 rfl
      have c1 := below_cell (Below.refl _ wr) hL.out 1 rfl
      have c2' := below_cell (Below.refl _ wr) hL.out 2 rfl
      have c3 := below_cell (Below.refl _ wr) hL.out 3 rfl
      have c4 := below_cell (Below.refl _ wr) hL.out 4 rfl
      have c5' := below_cell (Below.refl _ wr) hL.out 5 rfl
      have c6 := below_cell (Below.refl _ wr) hL.out 6 rfl
      have HF := Lib.hid (setRow_heap wr (B + 1) _ #[.slice a N c, .slice a' P c', .int .i64 left, .int .i64 epoch, .int .i64 (seq + 1), .int .i64 (used + j), .slice a5 m c5] _ _ hR.out)
      have HFB := Lib.hid (below_setRow hB.out (show w.heap.size ≤ B + 1 by rw [HBQ.out]; omega) #[.slice a N c, .slice a' P c', .int .i64 left, .int .i64 epoch, .int .i64 (seq + 1), .int .i64 (used + j), .slice a5 m c5])
      have hR9 := hR.out
      go_wp2_with (first | (refine wpList_store_row rfl 29 _ _ rfl (B + 1) #[.slice a N c, .slice a' P c', .int .i64 left, .int .i64 epoch, .int .i64 (seq + 1), .int .i64 (used + j), .slice a5 m c5] rfl rfl 29 _ hR9 (by kernel_rfl) rfl (by simp [Value.oneCell']) ?_))
      refine bodyPost_ret (results_cell_row rfl _ _ (B + 1) _ _ _ _ rfl HF.out Tryz.underlying29 rfl (by kernel_rfl)) rfl ?_
      have hOF := hO.out.kept (row := some (B + 1)) (w' := wr.setRow (B + 1) #[.slice a N c, .slice a' P c', .int .i64 left, .int .i64 epoch, .int .i64 (seq + 1), .int .i64 (used + j), .slice a5 m c5]) ⟨rfl, rfl, rfl, by simp [World.setRow], fun k _ hk => setRow_other wr (B + 1) k _ (fun e => hk (by rw [e]))⟩ (.inr (fun e => absurd (hO.out.lt _ e).1 (by omega)))
      have hIW := own_wrts hOF (dirty_bounded HNN.out hdf)
      rw [← HBQ.out] at HFB ⊢
      refine ⟨_, rfl, ?_, HFB.out⟩
      rw [HT.out, hd]
      obtain ⟨q1, q2, _, _⟩ := HBD.out
      refine ⟨⟨q1, q2, ⟨by show (-9223372036854775808 : Int) ≤ seq + 1; omega, by show seq + 1 ≤ (9223372036854775807 : Int); omega⟩, ⟨by show (-9223372036854775808 : Int) ≤ used + (ws.length : Int); omega, by show used + (ws.length : Int) ≤ (9223372036854775807 : Int); omega⟩⟩, _, _, _, ?_, HS.out.below (by rw [HBQ.out] at *; exact HFB.out), HP.out.below (by rw [HBQ.out] at *; exact HFB.out), by rw [HBQ.out] at *; exact hIW⟩
      rw [HWL.out]
end SWl7
section SWl8
open Go.RowKit
set_option linter.unusedVariables false
set_option linter.unusedSimpArgs false

def goneL (o : Outc) : Lg := ⟨o.dsk.secs, o.dsk.pend, o.left, 0, 0, 0, []⟩
def newL (o : Outc) (e : Int) : Lg := ⟨o.dsk.secs, o.dsk.pend, o.left, e, 0, 0, []⟩
def zeroL : Lg := ⟨[], [], 0, 0, 0, 0, []⟩
def ckO (l : Lg) : Outc := flS (wrS (flS (l.dirty.foldl wrS ⟨l.dsk, l.left, 0⟩)) ⟨0, layS (superL (l.epoch + 1))⟩)
def ckL (l : Lg) : Lg := if rightL l = true then (if l.epoch = 1099511627776 then zeroL else if (ckO l).code = 0 then newL (ckO l) (l.epoch + 1) else goneL (ckO l)) else zeroL
def ckE (l : Lg) : Int := if rightL l = true then (if l.epoch = 1099511627776 then 2 else (ckO l).code) else 1
def LogPost (L : Lg) (E : Int) (w : World) (e : Ending) (w' : World) : Prop := ∃ v, e = .returned (.tuple #[v, .int .i64 E]) ∧ IsLog w' v L ∧ Below w.heap.size w w'
theorem zero_log (w : World) : IsLog w (.agg #[.slice none 0 0, .slice none 0 0, .int .i64 0, .int .i64 0, .int .i64 0, .int .i64 0, .slice none 0 0]) zeroL :=
  ⟨⟨⟨by decide, by decide⟩, ⟨by decide, by decide⟩, ⟨by decide, by decide⟩, ⟨by decide, by decide⟩⟩, _, _, _, rfl, nilStrs w, nilWrts w, nilWrts w⟩
theorem i64_zero : i64ok 0 := ⟨by decide, by decide⟩
theorem new_log {w : World} {sv pv : Value} {o : Outc} {e : Int} (h : IsPower w (.agg #[sv, pv, .int .i64 o.left]) o.dsk o.left) (hk : o.ok) (he : i64ok e) : IsLog w (.agg #[sv, pv, .int .i64 o.left, .int .i64 e, .int .i64 0, .int .i64 0, .slice none 0 0]) (newL o e) := by
  obtain ⟨sv', pv', hv, h1, h2⟩ := h
  injection hv with hv
  injection hv with hv
  injection hv with e1 hv
  injection hv with e2 hv
  subst e1 e2
  exact ⟨⟨hk, he, i64_zero, i64_zero⟩, _, _, _, rfl, h1, h2, nilWrts w⟩
set_option maxRecDepth 100000 in
theorem wlGone (a a' : Option Addr) (n c n' c' : Nat) (o : Outc) (w : World) (h : IsPower w (.agg #[.slice a n c, .slice a' n' c', .int .i64 o.left]) o.dsk o.left) (hk : o.ok) :
    Calls Tryz.prog 27 #[.agg #[.slice a n c, .slice a' n' c', .int .i64 o.left]] w fun e w' => e = .returned (.agg #[.slice a n c, .slice a' n' c', .int .i64 o.left, .int .i64 0, .int .i64 0, .int .i64 0, .slice none 0 0]) ∧
      IsLog w' (.agg #[.slice a n c, .slice a' n' c', .int .i64 o.left, .int .i64 0, .int .i64 0, .int .i64 0, .slice none 0 0]) (goneL o) ∧ Below w.heap.size w w' := by
  have hX : Hid (∀ u : World, u = (w.alloc (.cells #[.slice a n c, .slice a' n' c', .int .i64 o.left] 27)).alloc (.cells #[.slice none 0 0, .slice none 0 0, .int .i64 0, .int .i64 0, .int .i64 0, .int .i64 0, .slice none 0 0] 29) →
      u.heap[w.heap.size]? = some (.cells #[.slice a n c, .slice a' n' c', .int .i64 o.left] 27 (0, 0)) ∧ u.heap[w.heap.size + 1]? = some (.cells #[.slice none 0 0, .slice none 0 0, .int .i64 0, .int .i64 0, .int .i64 0, .int .i64 0, .slice none 0 0] 29 (0, 0)) ∧ Below w.heap.size w u) := Lib.hid (by
    rintro u rfl
    have b0 := heap_alloc_new w (.cells #[.slice a n c, .slice a' n' c', .int .i64 o.left] 27)
    have e1 := heap_alloc_new (w.alloc (.cells #[.slice a n c, .slice a' n' c', .int .i64 o.left] 27)) (.cells #[.slice none 0 0, .slice none 0 0, .int .i64 0, .int .i64 0, .int .i64 0, .int .i64 0, .slice none 0 0] 29)
    rw [World.size_alloc] at e1
    exact ⟨(heap_alloc_old _ _ (lt_of_block b0)).trans b0, e1, ((Below.refl w.heap.size w).alloc (Nat.le_refl _) _).alloc (by simp) _⟩)
  have HH := Lib.hid h
  have HK := Lib.hid hk
  clear h hk
  go_enter Tryz.func27, Tryz.ntmps27
  go_upto_region 1 with fail
  obtain ⟨u, hW⟩ : ∃ u, (w.alloc (.cells #[.slice a n c, .slice a' n' c', .int .i64 o.left] 27)).alloc (.cells #[.slice none 0 0, .slice none 0 0, .int .i64 0, .int .i64 0, .int .i64 0, .int .i64 0, .slice none 0 0] 29) = u := ⟨_, rfl⟩
  rw [hW]
  obtain ⟨hP, hL, hb⟩ := hX.out u hW.symm
  clear hW hX
  have c0 := below_cell (Below.refl _ u) hP 0 rfl
  have c1 := below_cell (Below.refl _ u) hP 1 rfl
  have c2 := below_cell (Below.refl _ u) hP 2 rfl
  have HF := Lib.hid (setRow_heap u (w.heap.size + 1) _ #[.slice a n c, .slice a' n' c', .int .i64 o.left, .int .i64 0, .int .i64 0, .int .i64 0, .slice none 0 0] _ _ hL)
  have HB := Lib.hid (below_setRow hb (show w.heap.size ≤ w.heap.size + 1 by omega) #[.slice a n c, .slice a' n' c', .int .i64 o.left, .int .i64 0, .int .i64 0, .int .i64 0, .slice none 0 0])
  clear hb hP
  go_wp2_with (first | (refine wpList_store_row rfl 29 _ _ rfl (w.heap.size + 1) #[.slice a n c, .slice a' n' c', .int .i64 o.left, .int .i64 0, .int .i64 0, .int .i64 0, .slice none 0 0] rfl rfl 29 _ hL (by kernel_rfl) rfl (by simp [Value.oneCell']) ?_))
  exact bodyPost_ret (results_cell_row rfl _ _ (w.heap.size + 1) _ _ _ _ rfl HF.out Tryz.underlying29 rfl (by kernel_rfl)) rfl ⟨rfl, new_log (HH.out.below HB.out) HK.out ⟨by decide, by decide⟩, HB.out⟩
theorem no_textL : ∀ (j : Nat) (s : ByteArray), (#[Value.slice none 0 0, .slice none 0 0, .int .i64 0, .int .i64 0, .int .i64 0, .int .i64 0, .slice none 0 0] : Array Value)[j]? ≠ some (Value.string s)
  | 0, _ => by simp
  | 1, _ => by simp
  | 2, _ => by simp
  | 3, _ => by simp
  | 4, _ => by simp
  | 5, _ => by simp
  | 6, _ => by simp
  | j + 7, _ => by simp
def set7 (w : World) (g : Nat) (v0 v1 v2 v3 v4 v5 v6 : Value) : World := ((((((w.setCell ⟨g, 0, none⟩ v0).setCell ⟨g, 1, none⟩ v1).setCell ⟨g, 2, none⟩ v2).setCell ⟨g, 3, none⟩ v3).setCell ⟨g, 4, none⟩ v4).setCell ⟨g, 5, none⟩ v5).setCell ⟨g, 6, none⟩ v6
theorem set7_size (w : World) (g : Nat) (v0 v1 v2 v3 v4 v5 v6 : Value) : (set7 w g v0 v1 v2 v3 v4 v5 v6).heap.size = w.heap.size := by simp [set7]
theorem set7_other (w : World) (g : Nat) (v0 v1 v2 v3 v4 v5 v6 : Value) (b : Nat) (h : b ≠ g) : (set7 w g v0 v1 v2 v3 v4 v5 v6).heap[b]? = w.heap[b]? := by
  unfold set7
  rw [Below.heap_setCell _ _ _ _ h, Below.heap_setCell _ _ _ _ h, Below.heap_setCell _ _ _ _ h, Below.heap_setCell _ _ _ _ h, Below.heap_setCell _ _ _ _ h, Below.heap_setCell _ _ _ _ h, Below.heap_setCell _ _ _ _ h]
theorem set7_block {y : World} {B : Nat} {x0 x1 x2 x3 x4 x5 x6 : Value} {T : TypeId} (h : y.heap[B]? = some (.cells #[x0, x1, x2, x3, x4, x5, x6] T (0, 0))) (v0 v1 v2 v3 v4 v5 v6 : Value) : (set7 y B v0 v1 v2 v3 v4 v5 v6).heap[B]? = some (.cells #[v0, v1, v2, v3, v4, v5, v6] T (0, 0)) := by
  unfold set7
  have h0 : (y.setCell ⟨B, 0, none⟩ v0).heap[B]? = some (.cells #[v0, x1, x2, x3, x4, x5, x6] T (0, 0)) := block_set h 0 v0
  have h1 : ((y.setCell ⟨B, 0, none⟩ v0).setCell ⟨B, 1, none⟩ v1).heap[B]? = some (.cells #[v0, v1, x2, x3, x4, x5, x6] T (0, 0)) := block_set h0 1 v1
  have h2 : (((y.setCell ⟨B, 0, none⟩ v0).setCell ⟨B, 1, none⟩ v1).setCell ⟨B, 2, none⟩ v2).heap[B]? = some (.cells #[v0, v1, v2, x3, x4, x5, x6] T (0, 0)) := block_set h1 2 v2
  have h3 : ((((y.setCell ⟨B, 0, none⟩ v0).setCell ⟨B, 1, none⟩ v1).setCell ⟨B, 2, none⟩ v2).setCell ⟨B, 3, none⟩ v3).heap[B]? = some (.cells #[v0, v1, v2, v3, x4, x5, x6] T (0, 0)) := block_set h2 3 v3
  have h4 : (((((y.setCell ⟨B, 0, none⟩ v0).setCell ⟨B, 1, none⟩ v1).setCell ⟨B, 2, none⟩ v2).setCell ⟨B, 3, none⟩ v3).setCell ⟨B, 4, none⟩ v4).heap[B]? = some (.cells #[v0, v1, v2, v3, v4, x5, x6] T (0, 0)) := block_set h3 4 v4
  have h5 : ((((((y.setCell ⟨B, 0, none⟩ v0).setCell ⟨B, 1, none⟩ v1).setCell ⟨B, 2, none⟩ v2).setCell ⟨B, 3, none⟩ v3).setCell ⟨B, 4, none⟩ v4).setCell ⟨B, 5, none⟩ v5).heap[B]? = some (.cells #[v0, v1, v2, v3, v4, v5, x6] T (0, 0)) := block_set h4 5 v5
  exact block_set h5 6 v6
theorem set7_below {N : Nat} {w y : World} (h : Below N w y) {B : Nat} (hB : N ≤ B) (v0 v1 v2 v3 v4 v5 v6 : Value) : Below N w (set7 y B v0 v1 v2 v3 v4 v5 v6) :=
  ((((((h.setCell (p := ⟨B, 0, none⟩) hB v0).setCell (p := ⟨B, 1, none⟩) hB v1).setCell (p := ⟨B, 2, none⟩) hB v2).setCell (p := ⟨B, 3, none⟩) hB v3).setCell (p := ⟨B, 4, none⟩) hB v4).setCell (p := ⟨B, 5, none⟩) hB v5).setCell (p := ⟨B, 6, none⟩) hB v6
theorem IsLog.apart {w w' : World} {v : Value} {l : Lg} (h : IsLog w v l) {g : Nat} {cs : Array Value} {t : TypeId} {fr : Nat × Nat} (hg : w.heap[g]? = some (.cells cs t fr)) (hno : ∀ (j : Nat) (s : ByteArray), cs[j]? ≠ some (Value.string s))
    (hs : w.heap.size ≤ w'.heap.size) (hk : ∀ b, b ≠ g → w'.heap[b]? = w.heap[b]?) : IsLog w' v l := by
  obtain ⟨h0, sv, pv, dv, rfl, h1, h2, h3⟩ := h
  exact ⟨h0, sv, pv, dv, rfl, h1.apart hg hno hs hk, h2.apart hg hno hs hk, h3.apart hg hno hs hk⟩
theorem power_log {w : World} {sv pv dv : Value} {l : Lg} {x y z t : Int} (h : IsLog w (.agg #[sv, pv, .int .i64 x, .int .i64 y, .int .i64 z, .int .i64 t, dv]) l) : IsPower w (.agg #[sv, pv, .int .i64 x]) l.dsk x := by
  obtain ⟨h0, sv', pv', dv', hv, h1, h2, h3⟩ := h
  injection hv with hv
  injection hv with hv
  injection hv with e1 hv
  injection hv with e2 hv
  injection hv with e3 hv
  subst e1 e2
  exact ⟨_, _, rfl, h1, h2⟩
theorem one_wrt (w : World) (x : Wrt) (hx : x.bounded) : IsWrts (w.alloc (.cells #[.int .i64 x.sector, .string x.bytes] 46)) (.slice (some ⟨w.heap.size, 0, none⟩) 1 1) [x] := by
  have hn := heap_alloc_new w (.cells #[.int .i64 x.sector, .string x.bytes] 46)
  refine ⟨_, 1, 1, rfl, rfl, Nat.le_refl _, by omega, fun i hi => by rw [List.mem_singleton.1 hi]; exact hx, .inr ⟨w.heap.size, 0, rfl, lt_of_block hn, fun i hi => ?_⟩⟩
  obtain rfl : i = 0 := by omega
  exact ⟨by rw [cell_of_row _ _ _ _ _ _ hn]; rfl, by rw [cell_of_row _ _ _ _ _ _ hn]; rfl⟩
theorem fl_code (o : Outc) : i64ok o.code → i64ok (flS o).code := by
  intro h
  unfold flS
  split
  · unfold flO
    split
    · rcases ready_is o.dsk o.left with h1 | h1 | h1 <;> (show i64ok (readyE o.dsk o.left)) <;> rw [h1] <;> exact ⟨by decide, by decide⟩
    · exact i64_zero
  · exact h
set_option maxRecDepth 100000 in
set_option maxHeartbeats 4000000 in
theorem wlCheckpoint (v : Value) (l : Lg) (w : World) (h : IsLog w v l) (hp : l.pend.length ≤ 600) :
    Calls Tryz.prog 12 #[v] w (LogPost (ckL l) (ckE l) w) := by
  obtain ⟨a, c, a', c', a2, c2, rfl, _, _, _, hS, hP, hD⟩ := id h.form
  have hbd := h.1
  have hPW := power_log h
  have hL : ckL l = if rightL l = true then (if l.epoch = 1099511627776 then zeroL else if (ckO l).code = 0 then newL (ckO l) (l.epoch + 1) else goneL (ckO l)) else zeroL := rfl
  have hE : ckE l = if rightL l = true then (if l.epoch = 1099511627776 then 2 else (ckO l).code) else 1 := rfl
  have hO : ckO l = flS (wrS (flS (l.dirty.foldl wrS ⟨l.dsk, l.left, 0⟩)) ⟨0, layS (superL (l.epoch + 1))⟩) := rfl
  have hR := fun x (hx : Below w.heap.size w x) => wlRight _ l x (h.below hx)
  have hds : rightL l = true → l.dirty.length ≤ 256 ∧ (1 ≤ l.epoch ∧ l.epoch ≤ 1099511627776) := fun hr => by
    obtain ⟨q1, q2, _⟩ := right_dirty hr
    refine ⟨dirty_small q1 q2, ?_⟩
    rw [rightL_eq] at hr
    unfold numsB at hr
    simp only [Bool.and_eq_true, decide_eq_true_eq] at hr
    exact hr.1.2.1
  have hok0 : (⟨l.dsk, l.left, 0⟩ : Outc).ok := hbd.1
  have hok1 := fold_ok l.dirty ⟨l.dsk, l.left, 0⟩ hok0
  have hpd := fold_pend l.dirty ⟨l.dsk, l.left, 0⟩
  have HPW := Lib.hid (fun x (hx : Below w.heap.size w x) => hPW.below hx)
  have HD := Lib.hid (fun x (hx : Below w.heap.size w x) => hD.below hx)
  have HL := Lib.hid hL; have HE := Lib.hid hE; have HO := Lib.hid hO; have HR := Lib.hid hR; have HDS := Lib.hid hds; have HK0 := Lib.hid hok0; have HK1 := Lib.hid hok1; have HPD := Lib.hid hpd; have HBD := Lib.hid hbd
  clear hL hE hO hR hds hok0 hok1 hpd hS hP hD h hPW
  generalize hrl : rightL l = r at *
  clear hrl
  generalize ckO l = q at *
  generalize ckL l = CL at *
  generalize ckE l = CE at *
  obtain ⟨secs, pend, left, epoch, seq, used, dirty⟩ := l
  simp only [Lg.dsk] at *
  generalize secs.length = N at *
  generalize hPs : pend.length = P at *
  obtain ⟨D, hDs⟩ : ∃ D, dirty.length = D := ⟨_, rfl⟩
  rw [hDs] at HD HPD HDS HR ⊢
  have HDs := Lib.hid hDs
  have hX : Hid (∀ u : World, u = (w.alloc (.cells #[.slice a N c, .slice a' P c', .int .i64 left, .int .i64 epoch, .int .i64 seq, .int .i64 used, .slice a2 D c2] 29)).alloc (.cells #[.slice none 0 0, .slice none 0 0, .int .i64 0, .int .i64 0, .int .i64 0, .int .i64 0, .slice none 0 0] 29) →
      u.heap[w.heap.size]? = some (.cells #[.slice a N c, .slice a' P c', .int .i64 left, .int .i64 epoch, .int .i64 seq, .int .i64 used, .slice a2 D c2] 29 (0, 0)) ∧ u.heap[w.heap.size + 1]? = some (.cells #[.slice none 0 0, .slice none 0 0, .int .i64 0, .int .i64 0, .int .i64 0, .int .i64 0, .slice none 0 0] 29 (0, 0)) ∧ Below w.heap.size w u ∧ u.heap.size = w.heap.size + 1 + 1) := Lib.hid (by
    rintro u rfl
    have b0 := heap_alloc_new w (.cells #[.slice a N c, .slice a' P c', .int .i64 left, .int .i64 epoch, .int .i64 seq, .int .i64 used, .slice a2 D c2] 29)
    have e1 := heap_alloc_new (w.alloc (.cells #[.slice a N c, .slice a' P c', .int .i64 left, .int .i64 epoch, .int .i64 seq, .int .i64 used, .slice a2 D c2] 29)) (.cells #[.slice none 0 0, .slice none 0 0, .int .i64 0, .int .i64 0, .int .i64 0, .int .i64 0, .slice none 0 0] 29)
    rw [World.size_alloc] at e1
    exact ⟨(heap_alloc_old _ _ (lt_of_block b0)).trans b0, e1, ((Below.refl w.heap.size w).alloc (Nat.le_refl _) _).alloc (by simp) _, by rw [World.size_alloc, World.size_alloc]⟩)
  clear hDs
  go_enter Tryz.func12, Tryz.ntmps12
  go_upto_region 1 with fail
  obtain ⟨u, hW⟩ : ∃ u, (w.alloc (.cells #[.slice a N c, .slice a' P c', .int .i64 left, .int .i64 epoch, .int .i64 seq, .int .i64 used, .slice a2 D c2] 29)).alloc (.cells #[.slice none 0 0, .slice none 0 0, .int .i64 0, .int .i64 0, .int .i64 0, .int .i64 0, .slice none 0 0] 29) = u := ⟨_, rfl⟩
  rw [hW]
  obtain ⟨hL1, hR1, hb1, hz1⟩ := hX.out u hW.symm
  clear hW hX
  have c0 := below_cell (Below.refl _ u) hL1 0 rfl
  have c1 := below_cell (Below.refl _ u) hL1 1 rfl
  have c2' := below_cell (Below.refl _ u) hL1 2 rfl
  have c3 := below_cell (Below.refl _ u) hL1 3 rfl
  have c4 := below_cell (Below.refl _ u) hL1 4 rfl
  have c5 := below_cell (Below.refl _ u) hL1 5 rfl
  have c6 := below_cell (Below.refl _ u) hL1 6 rfl
  have HRR := Lib.hid (HR.out u hb1)
  go_upto_if 9 with (first | (go_at_call 24; refine HRR.out.mono ?_; rintro e u1 ⟨rfl, hb2⟩))
  have HL1 := Lib.hid ((hb2.block _ (lt_of_block hL1)).trans hL1)
  have HR1 := Lib.hid ((hb2.block _ (lt_of_block hR1)).trans hR1)
  have HB1 := Lib.hid (hb1.trans (hb2.mono hb1.size))
  have hz1' : w.heap.size + 1 + 1 ≤ u1.heap.size := by have := hb2.size; omega
  clear c0 c1 c2' c3 c4 c5 c6 hL1 hR1 hb1 hb2 HRR HR hz1
  cases r with
  | false =>
    have hl : CL = zeroL := HL.out
    have he : CE = 1 := HE.out
    have HS := Lib.hid (setRow_heap u1 (w.heap.size + 1) _ #[.slice none 0 0, .slice none 0 0, .int .i64 0, .int .i64 0, .int .i64 0, .int .i64 0, .slice none 0 0] _ _ HR1.out)
    have HF := Lib.hid (below_setRow HB1.out (show w.heap.size ≤ w.heap.size + 1 by omega) #[.slice none 0 0, .slice none 0 0, .int .i64 0, .int .i64 0, .int .i64 0, .int .i64 0, .slice none 0 0])
    have hR2 := HR1.out
    have H1 := Lib.hid hl; have H2 := Lib.hid he
    clear hl he
    go_wp2_with (first | (refine wpList_store_row rfl 29 _ _ rfl (w.heap.size + 1) #[.slice none 0 0, .slice none 0 0, .int .i64 0, .int .i64 0, .int .i64 0, .int .i64 0, .slice none 0 0] rfl rfl 29 _ hR2 (by kernel_rfl) rfl (by simp [Value.oneCell']) ?_))
    exact bodyPost_ret (results_row_tmp rfl _ _ (w.heap.size + 1) _ _ _ _ rfl HS.out Tryz.underlying29 rfl (by kernel_rfl)) rfl (by exact ⟨_, by rw [H2.out]; rfl, by rw [H1.out]; exact zero_log _, HF.out⟩)
  | true =>
  obtain ⟨hd256, hep1, hep2⟩ := HDS.out (by first | trivial | rfl)
  by_cases hep : epoch = 1099511627776
  · have hl : CL = zeroL := HL.out.trans (by rw [if_pos hep]; rfl)
    have he : CE = 2 := HE.out.trans (by rw [if_pos hep]; rfl)
    have HS := Lib.hid (setRow_heap u1 (w.heap.size + 1) _ #[.slice none 0 0, .slice none 0 0, .int .i64 0, .int .i64 0, .int .i64 0, .int .i64 0, .slice none 0 0] _ _ HR1.out)
    have HF := Lib.hid (below_setRow HB1.out (show w.heap.size ≤ w.heap.size + 1 by omega) #[.slice none 0 0, .slice none 0 0, .int .i64 0, .int .i64 0, .int .i64 0, .int .i64 0, .slice none 0 0])
    have hR2 := HR1.out
    have H1 := Lib.hid hl; have H2 := Lib.hid he
    have c3 := below_cell (Below.refl _ u1) HL1.out 3 rfl
    have hepq : (epoch == 1099511627776) = true := by simpa using hep
    clear hl he hep hep1 hep2
    go_wp2_with (first | (refine wpList_store_row rfl 29 _ _ rfl (w.heap.size + 1) #[.slice none 0 0, .slice none 0 0, .int .i64 0, .int .i64 0, .int .i64 0, .int .i64 0, .slice none 0 0] rfl rfl 29 _ hR2 (by kernel_rfl) rfl (by simp [Value.oneCell']) ?_))
    exact bodyPost_ret (results_row_tmp rfl _ _ (w.heap.size + 1) _ _ _ _ rfl HS.out Tryz.underlying29 rfl (by kernel_rfl)) rfl (by exact ⟨_, by rw [H2.out]; rfl, by rw [H1.out]; exact zero_log _, HF.out⟩)
  have hepq : (epoch == 1099511627776) = false := by simpa using hep
  have hw1 : wrap64 (epoch + 1) = epoch + 1 := IntWalk.wrap64_in _ ⟨by omega, by omega⟩
  have HSU := Lib.hid (fun x => slotSuper_ok (epoch + 1) x (by omega) (by omega))
  have HL2 := Lib.hid (HL.out.trans (by rw [if_pos (by first | trivial | rfl), if_neg hep]))
  have HE2 := Lib.hid (HE.out.trans (by rw [if_pos (by first | trivial | rfl), if_neg hep]))
  have hep3 : i64ok (epoch + 1) := ⟨by omega, by omega⟩
  have HEP := Lib.hid hep3
  obtain ⟨S, hS⟩ : ∃ S, layS (superL (epoch + 1)) = S := ⟨_, rfl⟩
  have hSb : (⟨0, S⟩ : Wrt).bounded := by
    refine ⟨⟨by show (-9223372036854775808 : Int) ≤ 0; omega, by show (0 : Int) ≤ 9223372036854775807; omega⟩, ?_⟩
    show S.size ≤ 9223372036854775807
    rw [← hS]
    unfold layS
    have h1 := trimS_le (sealL ⟨(superL (epoch + 1)).toArray⟩)
    have h2 := sealL_size ⟨(superL (epoch + 1)).toArray⟩
    have h3 : (superL (epoch + 1)).length = 7 := by unfold superL; rw [List.length_append, fieldsL_len, fieldsL_len]; rfl
    have h4 : (ByteArray.mk (superL (epoch + 1)).toArray).size = (superL (epoch + 1)).length := ba_size _
    omega
  rw [hS] at HSU HO
  have HSB := Lib.hid hSb
  have c3 := below_cell (Below.refl _ u1) HL1.out 3 rfl
  clear hep hep1 hep2 hS hSb hep3 HL HE HDS
  go_upto_region 6 with (first | (go_at_call 35; refine (HSU.out _).mono ?_; rintro e u2 ⟨rfl, hb2⟩))
  have HL3 := Lib.hid ((hb2.block _ (lt_of_block HL1.out)).trans HL1.out)
  have HR3 := Lib.hid ((hb2.block _ (lt_of_block HR1.out)).trans HR1.out)
  have HB3 := Lib.hid (HB1.out.trans (hb2.mono HB1.out.size))
  have hz3 : w.heap.size + 1 + 1 ≤ u2.heap.size := by have := hb2.size; omega
  clear c3 hb2 HL1 HR1 HB1 HSU hz1'
  have c0 := below_cell (Below.refl _ u2) HL3.out 0 rfl
  have c1 := below_cell (Below.refl _ u2) HL3.out 1 rfl
  have c2' := below_cell (Below.refl _ u2) HL3.out 2 rfl
  have c3 := below_cell (Below.refl _ u2) HL3.out 3 rfl
  have c6 := below_cell (Below.refl _ u2) HL3.out 6 rfl
  have hn := heap_alloc_new u2 (.cells #[.slice a N c, .slice a' P c', .int .i64 left, .int .i64 0] 59)
  have hal := (Below.refl u2.heap.size u2).alloc (Nat.le_refl _) (.cells #[.slice a N c, .slice a' P c', .int .i64 left, .int .i64 0] 59)
  have hL4 := (hal.block _ (lt_of_block HL3.out)).trans HL3.out
  have hR4 := (hal.block _ (lt_of_block HR3.out)).trans HR3.out
  have hB4 := HB3.out.trans (hal.mono HB3.out.size)
  go_upto_region 7 with fail
  obtain ⟨u4, hW⟩ : ∃ u4, u2.alloc (.cells #[.slice a N c, .slice a' P c', .int .i64 left, .int .i64 0] 59) = u4 := ⟨_, rfl⟩
  obtain ⟨T, hT⟩ : ∃ T, u2.heap.size = T := ⟨_, rfl⟩
  rw [hW] at hn hL4 hR4 hB4 ⊢
  rw [hT] at hn hz3
  (try rw [hT])
  have hC4 : IsCls u4 T ⟨⟨secs, pend⟩, left, 0⟩ := ⟨_, _, hn, HPW.out u4 hB4⟩
  have HIN := Lib.hid (fun (A x : World) (h : Below w.heap.size w A) (hg : A.grownBy x (some T)) => (show Below w.heap.size w x from h.grown hg h.size (fun k hk => by injection hk with hk; omega)))
  have HIL := Lib.hid (fun (A x : World) (k : Nat) (hk : k < T) (cs : Array Value) (Ty : TypeId) (h : A.heap[k]? = some (.cells cs Ty (0, 0))) (hg : A.grownBy x (some T)) => (hg.block k (lt_of_block h) (fun e => absurd (Option.some.inj e) (by omega))).trans h)
  have HWD := Lib.hid (wlWrite T ⟨⟨secs, pend⟩, left, 0⟩ (.slice a2 D c2) dirty u4 hC4 (HD.out u4 hB4) HK0.out (by rw [HDs.out]; show pend.length + D ≤ 1000; omega))
  have HL4 := Lib.hid hL4; have HR4 := Lib.hid hR4; have HB4 := Lib.hid hB4
  clear c0 c1 c2' c3 c6 hn hal hL4 hR4 hB4 hW hT hC4 HL3 HR3 HB3
  generalize dirty.foldl wrS ⟨⟨secs, pend⟩, left, 0⟩ = o1 at *
  have l6 := below_cell (Below.refl _ u4) HL4.out 6 rfl
  go_upto_region 8 with (first | (go_at_call 36; refine HWD.out.mono ?_; rintro e u5 ⟨rfl, hc5, hg5⟩))
  have HL5 := Lib.hid (HIL.out u4 u5 _ (by omega) _ _ HL4.out hg5)
  have HR5 := Lib.hid (HIL.out u4 u5 _ (by omega) _ _ HR4.out hg5)
  have HB5 := Lib.hid (HIN.out u4 u5 HB4.out hg5)
  have HFL := Lib.hid (wlFlush T o1 u5 hc5 HK1.out (by have h : o1.dsk.pend.length ≤ P + D := HPD.out; omega))
  clear l6 hc5 hg5 HL4 HR4 HB4 HWD
  go_upto_region 9 with (first | (go_at_call 37; refine HFL.out.mono ?_; rintro e u6 ⟨rfl, hc6, hg6⟩))
  have hp2 := fl_pend o1
  have hk2 := fl_left o1 HK1.out
  have HP2 : Hid ((flS o1).dsk.pend.length ≤ 900) := Lib.hid (by have h : o1.dsk.pend.length ≤ P + D := HPD.out; omega)
  have HK2 := Lib.hid hk2
  generalize flS o1 = o2 at *
  have HL6 := Lib.hid (HIL.out u5 u6 _ (by omega) _ _ HL5.out hg6)
  have HR6 := Lib.hid (HIL.out u5 u6 _ (by omega) _ _ HR5.out hg6)
  have HB6 := Lib.hid (HIN.out u5 u6 HB5.out hg6)
  have hTu : T < u6.heap.size := by obtain ⟨_, _, hh, _⟩ := hc6; exact lt_of_block hh
  have hal := (Below.refl u6.heap.size u6).alloc (Nat.le_refl _) (.cells #[.int .i64 0, .string S] 46)
  have HW6 := Lib.hid (wlWrite T o2 (.slice (some ⟨u6.heap.size, 0, none⟩) 1 1) [⟨0, S⟩] (u6.alloc (.cells #[.int .i64 0, .string S] 46)) (cls_alloc hc6 _) (one_wrt u6 ⟨0, S⟩ HSB.out) HK2.out (by have := HP2.out; simp only [List.length_cons, List.length_nil]; omega))
  have HL7 := Lib.hid ((hal.block _ (lt_of_block HL6.out)).trans HL6.out)
  have HR7 := Lib.hid ((hal.block _ (lt_of_block HR6.out)).trans HR6.out)
  have HB7 := Lib.hid (HB6.out.trans (hal.mono HB6.out.size))
  clear hp2 hk2 hc6 hg6 hal HL5 HR5 HB5 HFL HL6 HR6 HB6
  simp only [List.foldl_cons, List.foldl_nil] at HW6
  have hp3 := wr_pend o2 ⟨0, S⟩
  have HK3 := Lib.hid (wr_left o2 ⟨0, S⟩ HK2.out)
  have HP3 : Hid ((wrS o2 ⟨0, S⟩).dsk.pend.length ≤ 1000) := Lib.hid (by have := HP2.out; omega)
  clear hp3
  generalize wrS o2 ⟨0, S⟩ = o3 at *
  go_upto_region 10 with (first | (go_at_call 36; refine HW6.out.mono ?_; rintro e u7 ⟨rfl, hc7, hg7⟩))
  have HL8 := Lib.hid (HIL.out _ u7 _ (by omega) _ _ HL7.out hg7)
  have HR8 := Lib.hid (HIL.out _ u7 _ (by omega) _ _ HR7.out hg7)
  have HB8 := Lib.hid (HIN.out _ u7 HB7.out hg7)
  have HFL := Lib.hid (wlFlush T o3 u7 hc7 HK3.out HP3.out)
  have HK4 := Lib.hid (fl_left o3 HK3.out)
  clear hc7 hg7 HL7 HR7 HB7 HW6
  generalize flS o3 = o4 at *
  go_upto_region 11 with (first | (go_at_call 37; refine HFL.out.mono ?_; rintro e u8 ⟨rfl, hc8, hg8⟩))
  have HL9 := Lib.hid (HIL.out _ u8 _ (by omega) _ _ HL8.out hg8)
  have HR9 := Lib.hid (HIL.out _ u8 _ (by omega) _ _ HR8.out hg8)
  have HB9 := Lib.hid (HIN.out _ u8 HB8.out hg8)
  obtain ⟨x1, y1, x2, y2, hc9, hpw9⟩ := hc8.form
  have hqo : q = o4 := HO.out
  rw [hqo] at HL2 HE2
  have HC9 := Lib.hid hc9; have HPW9 := Lib.hid hpw9
  clear hg8 HL8 HR8 HB8 HFL hqo HO hc8 hpw9
  generalize o4.dsk.secs.length = n1 at *
  generalize o4.dsk.pend.length = n2 at *
  have t0 := below_cell (Below.refl _ u8) hc9 0 rfl
  have t1 := below_cell (Below.refl _ u8) hc9 1 rfl
  have t2 := below_cell (Below.refl _ u8) hc9 2 rfl
  have t3 := below_cell (Below.refl _ u8) hc9 3 rfl
  have hR9 := HR9.out
  clear hc9
  by_cases hco : o4.code = 0
  · have l3 := below_cell (Below.refl _ u8) HL9.out 3 rfl
    have hl : CL = newL o4 (epoch + 1) := HL2.out.trans (by rw [if_pos hco])
    have he : CE = 0 := HE2.out.trans hco
    rw [hco] at t3
    have HS := Lib.hid (setRow_heap u8 (w.heap.size + 1) _ #[.slice x1 n1 y1, .slice x2 n2 y2, .int .i64 o4.left, .int .i64 (epoch + 1), .int .i64 0, .int .i64 0, .slice none 0 0] _ _ HR9.out)
    have HF := Lib.hid (below_setRow HB9.out (show w.heap.size ≤ w.heap.size + 1 by omega) #[.slice x1 n1 y1, .slice x2 n2 y2, .int .i64 o4.left, .int .i64 (epoch + 1), .int .i64 0, .int .i64 0, .slice none 0 0])
    have H1 := Lib.hid hl; have H2 := Lib.hid he
    clear hl he hco HL2 HE2
    go_wp2_with (first | (refine wpList_store_row rfl 29 _ _ rfl (w.heap.size + 1) #[.slice x1 n1 y1, .slice x2 n2 y2, .int .i64 o4.left, .int .i64 (epoch + 1), .int .i64 0, .int .i64 0, .slice none 0 0] rfl rfl 29 _ hR9 (by kernel_rfl) rfl (by simp [Value.oneCell']) ?_))
    refine bodyPost_ret (results_row_tmp rfl _ _ (w.heap.size + 1) _ _ _ _ rfl HS.out Tryz.underlying29 rfl (by kernel_rfl)) rfl ?_
    refine ⟨_, by rw [H2.out]; rfl, ?_, HF.out⟩
    rw [H1.out]
    exact new_log (HPW9.out.apart HR9.out no_textL (by simp [World.setRow]) (fun b hb => setRow_other u8 (w.heap.size + 1) b _ hb)) HK4.out HEP.out
  · have hl : CL = goneL o4 := HL2.out.trans (by rw [if_neg hco])
    have he : CE = o4.code := HE2.out
    have hcq : (o4.code != 0) = true := by simpa using hco
    have HGN := Lib.hid (fun x (hx : Below u8.heap.size u8 x) => wlGone x1 x2 n1 y1 n2 y2 o4 x (HPW9.out.below hx) HK4.out)
    have H1 := Lib.hid hl; have H2 := Lib.hid he
    clear hl he hco HL2 HE2
    go_upto_region 12 with fail
    go_region_with (first
      | (go_at_call 27; refine (HGN.out _ (by first | exact Below.refl _ _ | exact (Below.refl _ _).drew)).mono ?_; rintro e u9 ⟨rfl, hlog, hb9⟩; have hR10 := (hb9.block _ (lt_of_block HR9.out)).trans HR9.out; have hC10 := (hb9.block _ (lt_of_block HC9.out)).trans HC9.out; have t3 := below_cell (Below.refl _ u9) hC10 3 rfl; have r0 := below_cell (Below.refl _ u9) hR10 0 rfl; have fr0 := block_frozen hR10 0; have r1 := below_cell (Below.refl _ u9) hR10 1 rfl; have fr1 := block_frozen hR10 1; have r2 := below_cell (Below.refl _ u9) hR10 2 rfl; have fr2 := block_frozen hR10 2; have r3 := below_cell (Below.refl _ u9) hR10 3 rfl; have fr3 := block_frozen hR10 3; have r4 := below_cell (Below.refl _ u9) hR10 4 rfl; have fr4 := block_frozen hR10 4; have r5 := below_cell (Below.refl _ u9) hR10 5 rfl; have fr5 := block_frozen hR10 5; have r6 := below_cell (Below.refl _ u9) hR10 6 rfl; have fr6 := block_frozen hR10 6)
      | fail)
    all_goals
      have hbz := (Below.refl u8.heap.size u8).drew.trans (hb9.mono (Nat.le_refl _))
      have hB10 := HB9.out.trans (hbz.mono HB9.out.size)
      have hS := set7_block hR10 (.slice x1 n1 y1) (.slice x2 n2 y2) (.int .i64 o4.left) (.int .i64 0) (.int .i64 0) (.int .i64 0) (.slice none 0 0)
      have hF := set7_below hB10 (show w.heap.size ≤ w.heap.size + 1 by omega) (.slice x1 n1 y1) (.slice x2 n2 y2) (.int .i64 o4.left) (.int .i64 0) (.int .i64 0) (.int .i64 0) (.slice none 0 0)
      have hLg := hlog.apart (w' := set7 u9 (w.heap.size + 1) (.slice x1 n1 y1) (.slice x2 n2 y2) (.int .i64 o4.left) (.int .i64 0) (.int .i64 0) (.int .i64 0) (.slice none 0 0)) hR10 no_textL (by rw [set7_size]; exact Nat.le_refl _) (fun b hb => set7_other _ _ _ _ _ _ _ _ _ _ hb)
      unfold set7 at hS hF hLg
      have HS := Lib.hid hS; have HF := Lib.hid hF; have HLg := Lib.hid hLg
      clear hS hF hLg hlog hb9 hbz hB10 hR10 hC10 r0 r1 r2 r3 r4 r5 r6 fr0 fr1 fr2 fr3 fr4 fr5 fr6 t0 t1 t2 t3 hR9
      go_wp2_with fail
      exact bodyPost_ret (results_row_tmp rfl _ _ (w.heap.size + 1) _ _ _ _ rfl HS.out Tryz.underlying29 rfl (by kernel_rfl)) rfl (by exact ⟨_, by rw [H2.out]; rfl, by rw [H1.out]; exact HLg.out, HF.out⟩)
end SWl8
end Go.Proofs.YthnmnnlbglpjaaaGreatDoor
