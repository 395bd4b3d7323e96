/- The beginning of the laws over plays of writes: a new log, and what a row of rows has. -/
import Derived.Test.YthnmnnlbglpjaaaGreatDoorWq0
import Derived.Test.YthnmnnlbglpjaaaGreatDoorWo3
import Derived.Test.YthnmnnlbglpjaaaGreatDoorWlS
import Derived.Test.YthnmnnlbglpjaaaGreatDoorPk6
namespace Go.Proofs.YthnmnnlbglpjaaaGreatDoor
open Go.RowKit
set_option linter.unusedVariables false
set_option linter.unusedSimpArgs false

/-- what holds of a log in a play, so many steps of which are done, each of which takes at most c epochs -/
structure InPlay (l : Lg) (N : Nat) (T : Nat → ByteArray) (E : Int) : Prop where
  sound : Sound l
  has : HasV l N T
  left : l.left < 0
  ep : l.epoch ≤ E
theorem InPlay.mono {l : Lg} {N : Nat} {T : Nat → ByteArray} {E E' : Int} (h : InPlay l N T E) (hE : E ≤ E') : InPlay l N T E' := ⟨h.sound, h.has, h.left, Int.le_trans h.ep hE⟩
/-- a commit in a play -/
theorem InPlay.commit {l : Lg} {N : Nat} {T : Nat → ByteArray} {E : Int} (h : InPlay l N T E) (hE : E < 1099511627776) (xs : List Wrt) :
    (comE l xs = 0 ∧ InPlay (comL l xs) N (updT T xs) (E + 1) ∧ (∀ x ∈ xs, 53 ≤ x.sector ∧ x.sector < N)) ∨ comE l xs = 1 ∨ comE l xs = 30 := by
  by_cases hb : allowL N xs = true ∧ xs.length ≤ 40
  · have G := com_go h.sound (show l.epoch < 1099511627776 by have := h.ep; omega) h.has hb.1 hb.2
    obtain ⟨f1, f2⟩ := G.full h.left
    obtain ⟨g1, g2, g3, g4⟩ := G.done f1
    have hN := (right_dirty h.sound.right).2.1
    exact .inl ⟨f1, ⟨g1, g2, f2, by have := h.ep; omega⟩, fun x hx => by
      have := home_bnd (allow_may hb.1 x hx).1 (by rw [← h.has.1]; exact hN)
      omega⟩
  · exact .inr (com_bad h.sound h.has.1 hb)
theorem InPlay.ck {l : Lg} {N : Nat} {T : Nat → ByteArray} {E : Int} (h : InPlay l N T E) (hE : E < 1099511627776) : ckE l = 0 ∧ InPlay (ckL l) N T (E + 1) ∧ (ckL l).dirty = [] ∧ (ckL l).epoch = l.epoch + 1 := by
  have G := ck_go h.sound (show l.epoch < 1099511627776 by have := h.ep; omega) h.has
  obtain ⟨f1, f2⟩ := G.full h.left
  obtain ⟨g1, g2, g3, g4, _⟩ := G.done f1
  exact ⟨f1, ⟨g1, g2, f2, by have := h.ep; omega⟩, g4, g3⟩
theorem InPlay.opn {l : Lg} {N : Nat} {T : Nat → ByteArray} {E : Int} (h : InPlay l N T E) (hE : E < 1099511627776) : opE l.dsk (-1) = 0 ∧ InPlay (opL l.dsk (-1)) N T (E + 1) ∧ (opL l.dsk (-1)).epoch = l.epoch + 1 := by
  obtain ⟨o1, o2⟩ := sound_open h.sound (-1)
  have h' : InPlay (l.pow (-1)) N T E := ⟨h.sound.pow _, h.has.pow _, show (-1 : Int) < 0 by decide, h.ep⟩
  obtain ⟨f1, f2, _, f4⟩ := h'.ck hE
  rw [o1, o2]
  exact ⟨f1, f2, f4⟩
theorem InPlay.pend {l : Lg} {N : Nat} {T : Nat → ByteArray} {E : Int} (h : InPlay l N T E) : l.pend.length ≤ 600 := by rw [h.sound.pend]; exact Nat.zero_le _
theorem InPlay.sizes {l : Lg} {N : Nat} {T : Nat → ByteArray} {E : Int} (h : InPlay l N T E) : ∀ s ∈ homesN T (N - 53), s.size ≤ 9223372036854775807 := by
  intro s hs
  unfold homesN at hs
  obtain ⟨i, hi, rfl⟩ := List.mem_map.1 hs
  have hi := List.mem_range.1 hi
  rw [← h.has.2 (53 + i) (by omega) (by omega), tells_bare h.sound.pend]
  obtain ⟨d1, d2, d3⟩ := right_dirty h.sound.right
  cases hf : l.dirty.find? (isAt ((53 + i : Nat) : Int)) with
  | some x =>
    have := (fits_size5 (dirty_mem d1 x (find_mem hf).1).2).2.2
    show x.bytes.size ≤ _
    omega
  | none =>
    show (sec l.secs (53 + i)).size ≤ _
    unfold sec
    have hk : 53 + i < l.secs.length := by rw [h.has.1]; omega
    rw [show l.secs.getD (53 + i) ⟨#[]⟩ = l.secs[53 + i] from by simp [List.getD, hk]]
    have := (fits_size5 (right_secs l.dsk d3 _ (List.getElem_mem hk))).2.2
    omega
theorem new_play {k : Nat} (h : 64 ≤ k ∧ k ≤ 256) : InPlay (newLg k) k (fun _ => ⟨#[]⟩) 1 := by
  obtain ⟨a, b, c, d⟩ := new_sound h
  exact ⟨a, b, by rw [d]; decide, by omega⟩
/-- what a row of rows has at a place -/
theorem IsWrtss.get {w : World} {a : Option Addr} {n c : Nat} {ls : List (List Wrt)} (h : IsWrtss w (.slice a n c) ls) (i : Nat) (hi : i < n) : ∃ b off a' m' c', a = some ⟨b, off, none⟩ ∧ b < w.heap.size ∧ w.cell? ⟨b, off + i, none⟩ = some (.slice a' m' c') ∧ IsWrts w (.slice a' m' c') (ls.getD i []) ∧ m' = (ls.getD i []).length ∧ m' ≤ c' ∧ c' ≤ 9223372036854775807 := by
  obtain ⟨a1, n1, c1, hv, h1, h2, h3, h4⟩ := h
  injection hv with e1 e2 e3
  subst e1 e2 e3
  obtain ⟨b, off, rfl, hb, hat⟩ := h4.resolve_left (by omega)
  obtain ⟨k, hk, hw⟩ := hat i hi
  obtain ⟨a', c', rfl, k1, k2⟩ := hw.form
  exact ⟨b, off, a', _, c', rfl, hb, hk, hw, rfl, k1, k2⟩
/-- the cells of a box of a log, in every later world -/
theorem keepLg {w u : World} {g : Nat} {v0 v1 v2 v3 v4 v5 v6 : Value} {t : TypeId} {fr : Nat × Nat} (h : w.heap[g]? = some (.cells #[v0, v1, v2, v3, v4, v5, v6] t fr)) (hb : Below w.heap.size w u) :
    Below w.heap.size w u ∧ u.cell? ⟨g, 0, none⟩ = some v0 ∧ u.cell? ⟨g, 1, none⟩ = some v1 ∧ u.cell? ⟨g, 2, none⟩ = some v2 ∧ u.cell? ⟨g, 3, none⟩ = some v3 ∧ u.cell? ⟨g, 4, none⟩ = some v4 ∧ u.cell? ⟨g, 5, none⟩ = some v5 ∧ u.cell? ⟨g, 6, none⟩ = some v6 :=
  ⟨hb, below_cell hb h 0 rfl, below_cell hb h 1 rfl, below_cell hb h 2 rfl, below_cell hb h 3 rfl, below_cell hb h 4 rfl, below_cell hb h 5 rfl, below_cell hb h 6 rfl⟩
theorem keep7 {w u : World} {R : Prop} (h : Below w.heap.size w u ∧ R) {g : Nat} (hg : w.heap.size ≤ g) (v0 v1 v2 v3 v4 v5 v6 : Value) : Below w.heap.size w (((((((u.setCell ⟨g, 0, none⟩ v0).setCell ⟨g, 1, none⟩ v1).setCell ⟨g, 2, none⟩ v2).setCell ⟨g, 3, none⟩ v3).setCell ⟨g, 4, none⟩ v4).setCell ⟨g, 5, none⟩ v5).setCell ⟨g, 6, none⟩ v6) :=
  set7_below h.1 hg v0 v1 v2 v3 v4 v5 v6
theorem nilNoText : ∀ (j : Nat) (s : ByteArray), (#[Value.slice none 0 0, .slice none 0 0, .int .i64 0, .int .i64 0, .int .i64 0, .int .i64 0, .slice none 0 0] : Array Value)[j]? ≠ some (Value.string s) := fun j s => logNoText none 0 none 0 none 0 0 0 0 0 0 0 0 j s
/-- a log stored into an empty box -/
theorem box_set7 {u : World} {g : Nat} {m : Lg} {x1 : Option Addr} {c1 : Nat} {x2 : Option Addr} {c2 : Nat} {x3 : Option Addr} {c3 : Nat} (hz : u.heap[g]? = some (.cells #[.slice none 0 0, .slice none 0 0, .int .i64 0, .int .i64 0, .int .i64 0, .int .i64 0, .slice none 0 0] 29 (0, 0)))
    (h : IsLog u (.agg #[.slice x1 m.secs.length c1, .slice x2 m.pend.length c2, .int .i64 m.left, .int .i64 m.epoch, .int .i64 m.seq, .int .i64 m.used, .slice x3 m.dirty.length c3]) m) :
    LogBox (((((((u.setCell ⟨g, 0, none⟩ (.slice x1 m.secs.length c1)).setCell ⟨g, 1, none⟩ (.slice x2 m.pend.length c2)).setCell ⟨g, 2, none⟩ (.int .i64 m.left)).setCell ⟨g, 3, none⟩ (.int .i64 m.epoch)).setCell ⟨g, 4, none⟩ (.int .i64 m.seq)).setCell ⟨g, 5, none⟩ (.int .i64 m.used)).setCell ⟨g, 6, none⟩ (.slice x3 m.dirty.length c3)) g m := by
  have h1 := set7_block hz (.slice x1 m.secs.length c1) (.slice x2 m.pend.length c2) (.int .i64 m.left) (.int .i64 m.epoch) (.int .i64 m.seq) (.int .i64 m.used) (.slice x3 m.dirty.length c3)
  have h2 := h.apart (w' := set7 u g (.slice x1 m.secs.length c1) (.slice x2 m.pend.length c2) (.int .i64 m.left) (.int .i64 m.epoch) (.int .i64 m.seq) (.int .i64 m.used) (.slice x3 m.dirty.length c3)) hz nilNoText (by rw [set7_size]; exact Nat.le_refl _) (fun b hb => set7_other _ _ _ _ _ _ _ _ _ _ hb)
  exact ⟨_, _, _, _, _, _, h1, h2⟩
theorem box_alloc {u : World} {m : Lg} {x1 : Option Addr} {c1 : Nat} {x2 : Option Addr} {c2 : Nat} {x3 : Option Addr} {c3 : Nat}
    (h : IsLog u (.agg #[.slice x1 m.secs.length c1, .slice x2 m.pend.length c2, .int .i64 m.left, .int .i64 m.epoch, .int .i64 m.seq, .int .i64 m.used, .slice x3 m.dirty.length c3]) m) :
    LogBox (u.alloc (.cells #[.slice x1 m.secs.length c1, .slice x2 m.pend.length c2, .int .i64 m.left, .int .i64 m.epoch, .int .i64 m.seq, .int .i64 m.used, .slice x3 m.dirty.length c3] 29)) u.heap.size m :=
  (h.below ((Below.refl _ u).alloc (Nat.le_refl _) _)).box (heap_alloc_new u _)
theorem keepQ4 {w u : World} {g1 g2 g3 g4 : Nat} {a0 a1 a2 a3 a4 a5 a6 b0 b1 b2 b3 b4 b5 b6 c0 c1 c2 c3 c4 c5 c6 d0 d1 d2 d3 d4 d5 d6 : Value} {t : TypeId} {fr : Nat × Nat} (h1 : w.heap[g1]? = some (.cells #[a0, a1, a2, a3, a4, a5, a6] t fr)) (h2 : w.heap[g2]? = some (.cells #[b0, b1, b2, b3, b4, b5, b6] t fr)) (h3 : w.heap[g3]? = some (.cells #[c0, c1, c2, c3, c4, c5, c6] t fr)) (h4 : w.heap[g4]? = some (.cells #[d0, d1, d2, d3, d4, d5, d6] t fr)) (hb : Below w.heap.size w u) :
    Below w.heap.size w u ∧ u.cell? ⟨g1, 0, none⟩ = some a0 ∧ u.cell? ⟨g1, 1, none⟩ = some a1 ∧ u.cell? ⟨g1, 2, none⟩ = some a2 ∧ u.cell? ⟨g1, 3, none⟩ = some a3 ∧ u.cell? ⟨g1, 4, none⟩ = some a4 ∧ u.cell? ⟨g1, 5, none⟩ = some a5 ∧ u.cell? ⟨g1, 6, none⟩ = some a6 ∧ u.cell? ⟨g2, 0, none⟩ = some b0 ∧ u.cell? ⟨g2, 1, none⟩ = some b1 ∧ u.cell? ⟨g2, 2, none⟩ = some b2 ∧ u.cell? ⟨g2, 3, none⟩ = some b3 ∧ u.cell? ⟨g2, 4, none⟩ = some b4 ∧ u.cell? ⟨g2, 5, none⟩ = some b5 ∧ u.cell? ⟨g2, 6, none⟩ = some b6 ∧ u.cell? ⟨g3, 0, none⟩ = some c0 ∧ u.cell? ⟨g3, 1, none⟩ = some c1 ∧ u.cell? ⟨g3, 2, none⟩ = some c2 ∧ u.cell? ⟨g3, 3, none⟩ = some c3 ∧ u.cell? ⟨g3, 4, none⟩ = some c4 ∧ u.cell? ⟨g3, 5, none⟩ = some c5 ∧ u.cell? ⟨g3, 6, none⟩ = some c6 ∧ u.cell? ⟨g4, 0, none⟩ = some d0 ∧ u.cell? ⟨g4, 1, none⟩ = some d1 ∧ u.cell? ⟨g4, 2, none⟩ = some d2 ∧ u.cell? ⟨g4, 3, none⟩ = some d3 ∧ u.cell? ⟨g4, 4, none⟩ = some d4 ∧ u.cell? ⟨g4, 5, none⟩ = some d5 ∧ u.cell? ⟨g4, 6, none⟩ = some d6 :=
  ⟨hb, below_cell hb h1 0 rfl, below_cell hb h1 1 rfl, below_cell hb h1 2 rfl, below_cell hb h1 3 rfl, below_cell hb h1 4 rfl, below_cell hb h1 5 rfl, below_cell hb h1 6 rfl, below_cell hb h2 0 rfl, below_cell hb h2 1 rfl, below_cell hb h2 2 rfl, below_cell hb h2 3 rfl, below_cell hb h2 4 rfl, below_cell hb h2 5 rfl, below_cell hb h2 6 rfl, below_cell hb h3 0 rfl, below_cell hb h3 1 rfl, below_cell hb h3 2 rfl, below_cell hb h3 3 rfl, below_cell hb h3 4 rfl, below_cell hb h3 5 rfl, below_cell hb h3 6 rfl, below_cell hb h4 0 rfl, below_cell hb h4 1 rfl, below_cell hb h4 2 rfl, below_cell hb h4 3 rfl, below_cell hb h4 4 rfl, below_cell hb h4 5 rfl, below_cell hb h4 6 rfl⟩
theorem com_nil {l : Lg} (h : rightL l = true) : comL l [] = l ∧ comE l [] = 0 := by
  have hc : (rightL l && allowL l.secs.length []) = true := by rw [h]; rfl
  unfold comL comE
  have h40 : ¬ 40 < ([] : List Wrt).length := by simp
  have h0 : ([] : List Wrt).length = 0 := rfl
  rw [if_pos hc, if_pos hc, if_neg h40, if_neg h40, if_pos h0, if_pos h0]
  exact ⟨rfl, rfl⟩
theorem LogBox.drew {u : World} {g : Nat} {l : Lg} (h : LogBox u g l) : LogBox u.drew g l := h
end Go.Proofs.YthnmnnlbglpjaaaGreatDoor
