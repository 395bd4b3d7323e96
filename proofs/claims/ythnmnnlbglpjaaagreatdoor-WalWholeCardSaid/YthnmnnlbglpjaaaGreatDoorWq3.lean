/- A step of a play: a commit or a checkpoint, with all power and with some; plain. -/
import Derived.Test.YthnmnnlbglpjaaaGreatDoorWq1
import Derived.Test.YthnmnnlbglpjaaaGreatDoorWq2
namespace Go.Proofs.YthnmnnlbglpjaaaGreatDoor
open Go.RowKit
set_option linter.unusedVariables false
set_option linter.unusedSimpArgs false

def resL (ck : Bool) (l : Lg) (xs : List Wrt) : Lg := if ck = true then ckL l else comL l xs
def resE (ck : Bool) (l : Lg) (xs : List Wrt) : Int := if ck = true then ckE l else comE l xs
structure ActGo (l : Lg) (N : Nat) (T T' : Nat → ByteArray) (E L : Int) (ck : Bool) (xs : List Wrt) : Prop where
  after : InPlay (resL ck l xs) N T' (E + 1)
  codes : resE ck (l.pow L) xs = 0 ∨ resE ck (l.pow L) xs = 21
  kept : Kept2 N T T' l.epoch (E + 1) (resL ck (l.pow L) xs).dsk
  done : resE ck (l.pow L) xs = 0 → Sound (resL ck (l.pow L) xs) ∧ HasV (resL ck (l.pow L) xs) N T' ∧ (resL ck (l.pow L) xs).epoch ≤ E + 1
  kept' : resE ck (l.pow L) xs = 0 → Kept2 N T' T' l.epoch (E + 1) (resL ck (l.pow L) xs).dsk
theorem act_go {l : Lg} {N : Nat} {T : Nat → ByteArray} {E : Int} (h : InPlay l N T E) (hE : E < 1099511627776) (ck : Bool) (xs : List Wrt) (L : Int) (h0 : resE ck l xs = 0) : ∃ T', ActGo l N T T' E L ck xs := by
  have hep := h.ep
  cases ck with
  | true =>
    have G := ck_go h.sound (show l.epoch < 1099511627776 by omega) h.has
    have GL := ck_go (h.sound.pow L) (show l.epoch < 1099511627776 by omega) (h.has.pow L)
    obtain ⟨_, k2, _, _⟩ := h.ck hE
    refine ⟨T, k2, GL.codes, GL.kept.two (Int.le_refl _) (show l.epoch + 1 ≤ E + 1 by omega), fun hz => ?_, fun hz => GL.kept.two (Int.le_refl _) (show l.epoch + 1 ≤ E + 1 by omega)⟩
    obtain ⟨a, b, c, _⟩ := GL.done hz
    exact ⟨a, b, show (ckL (l.pow L)).epoch ≤ E + 1 by rw [c]; show l.epoch + 1 ≤ E + 1; omega⟩
  | false =>
    have h0' : comE l xs = 0 := h0
    obtain ⟨ha, h40⟩ := com_ok h.sound h.has.1 h0'
    have GL := com_go (h.sound.pow L) (show l.epoch < 1099511627776 by omega) (h.has.pow L) ha h40
    have k2 : InPlay (comL l xs) N (updT T xs) (E + 1) := by
      rcases h.commit hE xs with ⟨_, k2, _⟩ | e | e
      · exact k2
      · rw [e] at h0'; exact absurd h0' (by decide)
      · rw [e] at h0'; exact absurd h0' (by decide)
    have hd : comE (l.pow L) xs = 0 → Sound (comL (l.pow L) xs) ∧ HasV (comL (l.pow L) xs) N (updT T xs) ∧ l.epoch ≤ (comL (l.pow L) xs).epoch ∧ (comL (l.pow L) xs).epoch ≤ E + 1 := fun hz => by
      obtain ⟨a, b, c, d⟩ := GL.done hz
      have d' : (comL (l.pow L) xs).epoch ≤ l.epoch + 1 := d
      exact ⟨a, b, c, by omega⟩
    refine ⟨updT T xs, k2, GL.codes, fun keep => ?_, fun hz => ?_, fun hz => ?_⟩
    · obtain ⟨l', a, b, c, d, e⟩ := GL.kept keep
      have e' : l'.epoch ≤ l.epoch + 1 := e
      exact ⟨l', a, b, c, d, by omega⟩
    · obtain ⟨a, b, _, d⟩ := hd hz
      exact ⟨a, b, d⟩
    · obtain ⟨a, b, c, d⟩ := hd hz
      exact (kept_self a b c d).two (Int.le_refl _) (Int.le_refl _)
/-- the power that a step has -/
def actL (x : Int) : Int := if 0 < x then x else -1
theorem actL_ok {x : Int} (h : i64ok x) : i64ok (actL x) := by
  unfold actL
  split
  · exact h
  · exact ⟨by decide, by decide⟩
theorem IsActs.get {w : World} {a : Option Addr} {n c : Nat} {ls : List Actn} (h : IsActs w (.slice a n c) ls) (i : Nat) (hi : i < n) : ∃ b off a' m' c' k', a = some ⟨b, off, none⟩ ∧ b < w.heap.size ∧ (i64ok (ls.getD i actZ).left ∧ i64ok (ls.getD i actZ).again) ∧
    w.cell? ⟨b, off + i * 5, none⟩ = some (.slice a' m' c') ∧ w.cell? ⟨b, off + i * 5 + 1, none⟩ = some (.bool (ls.getD i actZ).check) ∧ w.cell? ⟨b, off + i * 5 + 2, none⟩ = some (.int .i64 (ls.getD i actZ).left) ∧ w.cell? ⟨b, off + i * 5 + 3, none⟩ = some (.int .i64 (ls.getD i actZ).again) ∧ w.cell? ⟨b, off + i * 5 + 4, none⟩ = some k' ∧
    IsWrts w (.slice a' m' c') (ls.getD i actZ).writes ∧ IsBools w k' (ls.getD i actZ).keep ∧ m' = (ls.getD i actZ).writes.length ∧ m' ≤ c' ∧ c' ≤ 9223372036854775807 := by
  obtain ⟨a1, n1, c1, hv, h1, h2, h3, h4⟩ := h
  injection hv with e1 e2 e3
  subst e1 e2 e3
  obtain ⟨b, off, rfl, hb, hat⟩ := h4.resolve_left (by omega)
  obtain ⟨h0, k1, k2, hw, hk, z0, z1, z2, z3, z4⟩ := hat i hi
  obtain ⟨a', c', rfl, y1, y2⟩ := hw.form
  exact ⟨b, off, a', _, c', k2, rfl, hb, h0, z0, z1, z2, z3, z4, hw, hk, rfl, y1, y2⟩
theorem IsBools.form' {w : World} {v : Value} {l : List Bool} (h : IsBools w v l) : ∃ a c, v = .slice a l.length c ∧ l.length ≤ c ∧ c ≤ 9223372036854775807 := by
  obtain ⟨a, len, cap, rfl, rfl, h1, h2, _⟩ := h
  exact ⟨a, cap, rfl, h1, h2⟩
theorem LogBox.wrts_stay {u u' : World} {g : Nat} {m : Lg} (h : LogBox u g m) (hs : u.heap.size ≤ u'.heap.size) (hk : ∀ b, b ≠ g → u'.heap[b]? = u.heap[b]?) {v : Value} {l : List Wrt} (hl : IsWrts u v l) : IsWrts u' v l := by
  obtain ⟨x1, c1, x2, c2, x3, c3, h1, h2⟩ := h
  exact hl.apart h1 (logNoText _ _ _ _ _ _ _ _ _ _ _ _ _) hs hk
theorem logNoBool (x1 : Option Addr) (c1 : Nat) (x2 : Option Addr) (c2 : Nat) (x3 : Option Addr) (c3 n1 n2 n3 : Nat) (a b c d : Int) : ∀ (j : Nat) (s : Bool), (#[Value.slice x1 n1 c1, .slice x2 n2 c2, .int .i64 a, .int .i64 b, .int .i64 c, .int .i64 d, .slice x3 n3 c3] : Array Value)[j]? ≠ some (Value.bool s) := by
  intro j s h
  match j with
  | 0 => simp at h
  | 1 => simp at h
  | 2 => simp at h
  | 3 => simp at h
  | 4 => simp at h
  | 5 => simp at h
  | 6 => simp at h
  | j + 7 => simp at h
theorem LogBox.bools_stay {u u' : World} {g : Nat} {m : Lg} (h : LogBox u g m) (hs : u.heap.size ≤ u'.heap.size) (hk : ∀ b, b ≠ g → u'.heap[b]? = u.heap[b]?) {v : Value} {l : List Bool} (hl : IsBools u v l) : IsBools u' v l := by
  obtain ⟨x1, c1, x2, c2, x3, c3, h1, h2⟩ := h
  obtain ⟨a, len, cap, rfl, hl, k1, k2, hat⟩ := hl
  refine ⟨a, len, cap, rfl, hl, k1, k2, ?_⟩
  by_cases h0 : len = 0
  · exact .inl h0
  · obtain ⟨b, off, rfl, hb, hat⟩ := hat.resolve_left h0
    by_cases e : b = g
    · subst e
      have := hat 0 (by omega)
      rw [cell_of_row _ _ _ _ _ _ h1] at this
      exact absurd this (logNoBool _ _ _ _ _ _ _ _ _ _ _ _ _ _ _)
    · exact .inr ⟨b, off, rfl, Nat.lt_of_lt_of_le hb hs, fun i hi => (World.cell?_of_block (a := ⟨b, off + i, none⟩) (hk b e)).trans (hat i hi)⟩
/-- the cells that a region over two boxes looks at -/
theorem keepLA {w u : World} {g h : Nat} {v0 v1 v2 v3 v4 v5 v6 x0 x1 x2 x3 x4 : Value} {t t' : TypeId} {fr fr' : Nat × Nat} (hg : w.heap[g]? = some (.cells #[v0, v1, v2, v3, v4, v5, v6] t fr)) (hh : w.heap[h]? = some (.cells #[x0, x1, x2, x3, x4] t' fr')) (hb : Below w.heap.size w u) :
    Below w.heap.size w u ∧ u.cell? ⟨g, 0, none⟩ = some v0 ∧ u.cell? ⟨g, 1, none⟩ = some v1 ∧ u.cell? ⟨g, 2, none⟩ = some v2 ∧ u.cell? ⟨g, 3, none⟩ = some v3 ∧ u.cell? ⟨g, 4, none⟩ = some v4 ∧ u.cell? ⟨g, 5, none⟩ = some v5 ∧ u.cell? ⟨g, 6, none⟩ = some v6 ∧ u.cell? ⟨h, 0, none⟩ = some x0 :=
  ⟨hb, below_cell hb hg 0 rfl, below_cell hb hg 1 rfl, below_cell hb hg 2 rfl, below_cell hb hg 3 rfl, below_cell hb hg 4 rfl, below_cell hb hg 5 rfl, below_cell hb hg 6 rfl, below_cell hb hh 0 rfl⟩
end Go.Proofs.YthnmnnlbglpjaaaGreatDoor
