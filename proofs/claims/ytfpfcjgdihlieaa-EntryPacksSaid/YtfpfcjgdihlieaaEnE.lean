/- entry.Unpack. -/
import Derived.Test.YtfpfcjgdihlieaaEnZ
import Derived.Test.YtfpfcjgdihlieaaEnC
namespace Go.Proofs.Ytfpfcjgdihlieaa
open Go.RowKit
set_option linter.unusedVariables false

/-- these cells are these entries', whose versions lie in rows of the call's own -/
def RowV (w : World) (B : Nat) (xs : List Value) (l : List En) : Prop :=
  xs.length = l.length * 4 ∧ ∀ j, j < l.length → (l.getD j enZ).bounded ∧ (∀ v ∈ (l.getD j enZ).vers, v.bounded) ∧ xs[j * 4]? = some (.string (l.getD j enZ).name) ∧ xs[j * 4 + 1]? = some (.int .i64 (l.getD j enZ).cur) ∧ xs[j * 4 + 2]? = some (.int .i64 (l.getD j enZ).nxt) ∧
    ∃ k, xs[j * 4 + 3]? = some k ∧ w.ownsRow B 42 5 k (l.getD j enZ).vers.length (vrCells (l.getD j enZ).vers)
theorem own_tag {w : World} {base : Nat} {e T : TypeId} {size : Nat} {v : Value} {n : Nat} {xs : List Value} (h : w.ownsRow base e size v n xs) {B : Nat} {cs : Array Value} (hB : w.heap[B]? = some (.cells cs T (0, 0))) (hT : T ≠ e) : v.ownBlock ≠ some B := by
  rcases h.2 with ⟨rfl, _⟩ | ⟨g, cap, cur, rfl, _, hg, _⟩
  · simp [Value.ownBlock]
  · intro he
    have he : g = B := by simpa [Value.ownBlock] using he
    subst he
    rw [hg] at hB
    injection hB with hB
    injection hB with _ hB
    exact hT hB.symm
theorem RowV.kept {w w' : World} {B : Nat} {xs : List Value} {l : List En} (h : RowV w B xs l) {X : Nat} (hg : w.grownBy w' (some X)) (hX : X < B ∨ ∃ cs, w.heap[X]? = some (.cells cs 36 (0, 0))) : RowV w' B xs l := by
  refine ⟨h.1, fun j hj => ?_⟩
  obtain ⟨a, b, c, d, e, k, f, g⟩ := h.2 j hj
  refine ⟨a, b, c, d, e, k, f, g.kept hg (.inr ?_)⟩
  rcases hX with hX | ⟨cs, hX⟩
  · intro hk
    have := (g.lt X hk).1
    omega
  · exact own_tag g hX (by decide)
theorem RowV.drew {w : World} {B : Nat} {xs : List Value} {l : List En} (h : RowV w B xs l) : RowV w.drew B xs l :=
  ⟨h.1, fun j hj => by
    obtain ⟨a, b, c, d, e, k, f, g⟩ := h.2 j hj
    exact ⟨a, b, c, d, e, k, f, g.drew⟩⟩
theorem RowV.snoc {w : World} {B : Nat} {xs : List Value} {l : List En} {e : En} {k : Value} (h : RowV w B xs l) (hb : e.bounded) (hbv : ∀ v ∈ e.vers, v.bounded) (hk : w.ownsRow B 42 5 k e.vers.length (vrCells e.vers)) : RowV w B (xs ++ e.cells k) (l ++ [e]) := by
  obtain ⟨h1, h2⟩ := h
  refine ⟨by rw [List.length_append, List.length_append, h1]; simp [En.cells]; omega, fun j hj => ?_⟩
  by_cases hl : j < l.length
  · obtain ⟨a, b0, b, c, d, k', e', f⟩ := h2 j hl
    rw [show (l ++ [e]).getD j enZ = l.getD j enZ from by simp [List.getD, List.getElem?_append_left hl]]
    refine ⟨a, b0, ?_, ?_, ?_, k', ?_, f⟩ <;> (rw [List.getElem?_append_left (by omega)]; assumption)
  · have hj' : j = l.length := by rw [List.length_append] at hj; simp at hj; omega
    subst hj'
    rw [show (l ++ [e]).getD l.length enZ = e from by simp [List.getD]]
    refine ⟨hb, hbv, ?_, ?_, ?_, k, ?_, hk⟩ <;> (rw [List.getElem?_append_right (by omega), h1]; simp [En.cells])
theorem vrCells_at (l : List Vr) (i j : Nat) (hi : i < l.length) (hj : j < 5) : (vrCells l)[i * 5 + j]? = (l.getD i vrZ).cells[j]? := by
  induction l generalizing i with
  | nil => simp at hi
  | cons a l ih =>
    rw [vrCells, List.flatMap_cons, ← vrCells]
    cases i with
    | zero => rw [List.getElem?_append_left (by simp [Vr.cells]; omega)]; simp
    | succ i =>
      rw [List.getElem?_append_right (by simp [Vr.cells]; omega), show (i + 1) * 5 + j - a.cells.length = i * 5 + j from by simp [Vr.cells]; omega, ih i (by simpa using hi)]
      rfl
theorem vrs_own {w : World} {B : Nat} {k : Value} {l : List Vr} (h : w.ownsRow B 42 5 k l.length (vrCells l)) (hb : ∀ v ∈ l, v.bounded) : IsVrs w k l := by
  rcases h.2 with ⟨rfl, h0⟩ | ⟨g, cap, cur, rfl, hg, hh, hn, hc, hcs, htake⟩
  · exact ⟨none, 0, 0, rfl, h0, by omega, by omega, hb, fun _ => rfl, .inl rfl⟩
  · refine ⟨_, _, cap, rfl, rfl, hn, by unfold maxLen at hc; exact hc, hb, (fun e => by cases e), ?_⟩
    by_cases h0 : l.length = 0
    · exact .inl h0
    · refine .inr ⟨g, 0, rfl, (h.lt g rfl).2, fun i hi => ?_⟩
      have hat : ∀ j u, j < 5 → (l.getD i vrZ).cells[j]? = some u → w.cell? ⟨g, i * 5 + j, none⟩ = some u := by
        intro j u hj hu
        have := h.cells (g := g) rfl (i * 5 + j) u (by rw [vrCells_at l i j hi hj]; exact hu)
        rwa [show (⟨g, 0, none⟩ : Addr).add (i * 5 + j) = ⟨g, i * 5 + j, none⟩ from by unfold Addr.add; split <;> simp_all] at this
      rw [Nat.zero_add]
      exact ⟨hat 0 _ (by omega) rfl, hat 1 _ (by omega) rfl, hat 2 _ (by omega) rfl, hat 3 _ (by omega) rfl, hat 4 _ (by omega) rfl⟩
theorem RowV.row {w : World} {B : Nat} {xs : List Value} {l : List En} (h : RowV w B xs l) : RowE w xs l :=
  ⟨h.1, fun j hj => by
    obtain ⟨a, b0, b, c, d, k, e, f⟩ := h.2 j hj
    exact ⟨a, b, c, d, k, e, vrs_own f b0⟩⟩
theorem RowV.grew {w w' : World} {B : Nat} {xs ys : List Value} {l : List En} (h : RowV w B xs l) {v v' : Value} {n m : Nat} {zs : List Value} (_ : w'.ownsRow B 36 4 v' m ys) (hg : w.grownBy w' v.ownBlock) (hv : w.ownsRow B 36 4 v n zs) : RowV w' B xs l := by
  cases hX : v.ownBlock with
  | none =>
    rw [hX] at hg
    refine ⟨h.1, fun j hj => ?_⟩
    obtain ⟨a, b, c, d, e, k, f, g⟩ := h.2 j hj
    exact ⟨a, b, c, d, e, k, f, g.kept hg (Classical.em _)⟩
  | some X =>
    rw [hX] at hg
    refine h.kept hg (.inr ?_)
    rcases hv.2 with ⟨rfl, _⟩ | ⟨g, cap, cur, rfl, _, hh, _⟩
    · simp [Value.ownBlock] at hX
    · have : g = X := by simpa [Value.ownBlock] using hX
      subst this
      exact ⟨cur, hh⟩
theorem numA_i64 (s : ByteArray) (p k : Nat) (hk : k ≤ 2) : i64ok (numA s p k) := by
  have := getL_small s p k hk
  unfold i64ok numA; omega
theorem prEnt_facts {s : ByteArray} {p q : Nat} {e : En} (hs : s.size ≤ 3000) (h : prEnt s p = some (e, q)) : e.bounded ∧ (∀ v ∈ e.vers, v.bounded) ∧ q ≤ s.size := by
  unfold prEnt at h
  split at h
  · rename_i hc
    split at h
    · split at h
      · rename_i hq
        injection h with h
        injection h with h1 h2
        subst h1 h2
        refine ⟨⟨?_, numA_i64 _ _ _ (by omega), numA_i64 _ _ _ (by omega)⟩, ?_, hq⟩
        · show (cutS s p).size ≤ 9223372036854775807
          unfold cutS
          rw [if_pos hc, ba_size]
          have h1 : (cutL s ((p : Int).toNat + 2) (getL (cutL s (p : Int).toNat 2))).length ≤ getL (cutL s (p : Int).toNat 2) := List.length_take_le _ _
          have h2 := getL_small s (p : Int).toNat 2 (by omega)
          omega
        · intro v hv
          obtain ⟨j, _, rfl⟩ := List.mem_map.1 hv
          exact ⟨numA_i64 _ _ _ (by omega), numA_i64 _ _ _ (by omega), numA_i64 _ _ _ (by omega), numA_i64 _ _ _ (by omega), numA_i64 _ _ _ (by omega)⟩
      · cases h
    · cases h
  · cases h
def conc (acc : List En) : Option (List En × Nat) → Option (List En × Nat)
  | none => none
  | some (l, r) => some (acc ++ l, r)
theorem prEnts_none {s : ByteArray} {n p : Nat} (h : prEnt s p = none) : prEnts s (n + 1) p = none := by
  rw [prEnts, h]
theorem prEnts_some {s : ByteArray} {n p q : Nat} {e : En} (h : prEnt s p = some (e, q)) (acc : List En) : conc acc (prEnts s (n + 1) p) = conc (acc ++ [e]) (prEnts s n q) := by
  rw [prEnts, h]
  simp only
  cases prEnts s n q with
  | none => rfl
  | some x => obtain ⟨l, r⟩ := x; simp [conc]
def UnpPost (s : ByteArray) (w : World) (e : Ending) (w' : World) : Prop :=
  Below w.heap.size w w' ∧ match unpE s with
    | some l => ∃ v, e = .returned (.tuple #[v, .int .i64 0]) ∧ IsEns w' v l
    | none => e = .returned (.tuple #[.slice none 0 0, .int .i64 4])
/-- the door, where a reader has panicked -/
theorem unpDoor {s : ByteArray} {w w7 : World} {N0 N1 : Nat} {x y : Value} {tmps : Array Value} (hu : unpE s = none) (h0 : w7.heap[N0]? = some (.cells #[x] 22 (0, 0))) (h1 : w7.heap[N1]? = some (.cells #[y] 24 (0, 0)))
    (ht0 : tmps.getD 2 undef = .pointer (some ⟨N0, 0, none⟩)) (ht1 : tmps.getD 3 undef = .pointer (some ⟨N1, 0, none⟩)) (hne : N0 ≠ N1) (hb : Below w.heap.size w w7) (hN0 : w.heap.size ≤ N0) (hN1 : w.heap.size ≤ N1) :
    Leaves Try.prog Try.f9 tmps (UnpPost s w) [{ target := .fn (.func 23) #[.pointer (some ⟨N0, 0, none⟩), .pointer (some ⟨N1, 0, none⟩)], args := #[] }] (.panicking endP) w7 := by
  refine leaves_cons (f := 23) (args := #[.pointer (some ⟨N0, 0, none⟩), .pointer (some ⟨N1, 0, none⟩)]) (by simp) (by simp [go_sem]) ?_
  refine (unpCatch N0 N1 x y w7 h0 h1 hne).mono ?_
  rintro e u' w8 ⟨rfl, rfl, rfl⟩
  have b0 := (heap_alloc_old w7 (.cells #[] 47) (lt_of_block h0)).trans h0
  have b1 := (heap_alloc_old w7 (.cells #[] 47) (lt_of_block h1)).trans h1
  have b2 := block_set b0 0 (.slice none 0 0)
  have b3 := (Below.heap_setCell (w7.alloc (.cells #[] 47)) ⟨N0, 0, none⟩ (.slice none 0 0) N1 (by show N1 ≠ N0; omega)).trans b1
  have b4 := block_set b3 0 (.int .i64 4)
  have b5 := (Below.heap_setCell ((w7.alloc (.cells #[] 47)).setCell ⟨N0, 0, none⟩ (.slice none 0 0)) ⟨N1, 0, none⟩ (.int .i64 4) N0 (by show N0 ≠ N1; omega)).trans b2
  have c4 := below_cell (Below.refl _ _) b4 0 rfl
  have c5 := below_cell (Below.refl _ _) b5 0 rfl
  have hb9 : Below w.heap.size w (((w7.alloc (.cells #[] 47)).setCell ⟨N0, 0, none⟩ (.slice none 0 0)).setCell ⟨N1, 0, none⟩ (.int .i64 4)) :=
    ((hb.alloc hb.size _).setCell (p := ⟨N0, 0, none⟩) hN0 _).setCell (p := ⟨N1, 0, none⟩) hN1 _
  have HB9 := Lib.hid hb9; have HU := Lib.hid hu
  clear b0 b1 b2 b3 b4 b5 hb hb9 h0 h1 hu
  have ht0' : tmps[2]?.getD undef = .pointer (some ⟨N0, 0, none⟩) := by simpa using ht0
  have ht1' : tmps[3]?.getD undef = .pointer (some ⟨N1, 0, none⟩) := by simpa using ht1
  have hfin : UnpPost s w (.returned (.tuple #[.slice none 0 0, .int .i64 4])) (((w7.alloc (.cells #[] 47)).setCell ⟨N0, 0, none⟩ (.slice none 0 0)).setCell ⟨N1, 0, none⟩ (.int .i64 4)) := by
    refine ⟨HB9.out, ?_⟩
    rw [HU.out]
  have HFIN := Lib.hid hfin
  clear hfin
  simp [Leaves, settle, results, Try.results9, go_sem, c4, c5, ht0', ht1']
  exact HFIN.out
/-- the door, where nothing has panicked -/
theorem unpDoorRet {s : ByteArray} {w w7 : World} {N0 N1 : Nat} {v : Value} {c : Int} {tmps : Array Value} (h0 : w7.heap[N0]? = some (.cells #[v] 22 (0, 0))) (h1 : w7.heap[N1]? = some (.cells #[.int .i64 c] 24 (0, 0)))
    (ht0 : tmps.getD 2 undef = .pointer (some ⟨N0, 0, none⟩)) (ht1 : tmps.getD 3 undef = .pointer (some ⟨N1, 0, none⟩)) (hfin : UnpPost s w (.returned (.tuple #[v, .int .i64 c])) w7) :
    Leaves Try.prog Try.f9 tmps (UnpPost s w) [{ target := .fn (.func 23) #[.pointer (some ⟨N0, 0, none⟩), .pointer (some ⟨N1, 0, none⟩)], args := #[] }] .returning w7 := by
  refine leaves_cons (f := 23) (args := #[.pointer (some ⟨N0, 0, none⟩), .pointer (some ⟨N1, 0, none⟩)]) (by simp) (by simp [go_sem]) ?_
  refine (unpIdle N0 N1 w7).mono ?_
  rintro e u' w8 ⟨rfl, rfl, rfl⟩
  have c4 := below_cell (Below.refl _ _) h0 0 rfl
  have c5 := below_cell (Below.refl _ _) h1 0 rfl
  have ht0' : tmps[2]?.getD undef = .pointer (some ⟨N0, 0, none⟩) := by simpa using ht0
  have ht1' : tmps[3]?.getD undef = .pointer (some ⟨N1, 0, none⟩) := by simpa using ht1
  have HFIN := Lib.hid hfin
  clear hfin h0 h1
  simp [Leaves, settle, results, Try.results9, go_sem, c4, c5, ht0', ht1']
  exact HFIN.out
set_option maxRecDepth 100000 in
set_option maxHeartbeats 4000000 in
theorem enUnpack (s : ByteArray) (w : World) (hs : s.size ≤ 3000) : Calls Try.prog 9 #[.string s] w (UnpPost s w) := by
  obtain ⟨iI, hNI, hzI0, hzI1, hzI2⟩ := info_parts infoEn
  have hmf : ∀ (fn : Fn) (first cap : Array Value) (w : World), (Instr.makeFunc fn first cap).run Try.prog w = .ok (.func fn first cap) w := fun _ _ _ _ => rfl
  have b0 := heap_alloc_new w (.cells #[.slice none 0 0] 22)
  have w0 := (Below.refl w.heap.size w).alloc (Nat.le_refl _) (.cells #[.slice none 0 0] 22)
  have z0 : (w.alloc (.cells #[.slice none 0 0] 22)).heap.size = w.heap.size + 1 := World.size_alloc _ _
  have HX : Hid (∀ u : World, u = ((w.alloc (.cells #[.slice none 0 0] 22)).alloc (.cells #[.int .i64 0] 24)).alloc (.cells #[.string s, .int .i64 0] 50) →
      u.heap[w.heap.size]? = some (.cells #[.slice none 0 0] 22 (0, 0)) ∧ u.heap[w.heap.size + 1]? = some (.cells #[.int .i64 0] 24 (0, 0)) ∧ Rd (w.heap.size + 1 + 1) s 0 u ∧ Below w.heap.size w u ∧ u.heap.size = w.heap.size + 1 + 1 + 1) := Lib.hid (by
    rintro u rfl
    have b1 := (heap_alloc_old (w.alloc (.cells #[.slice none 0 0] 22)) (.cells #[.int .i64 0] 24) (lt_of_block b0)).trans b0
    have b2 := (heap_alloc_old ((w.alloc (.cells #[.slice none 0 0] 22)).alloc (.cells #[.int .i64 0] 24)) (.cells #[.string s, .int .i64 0] 50) (lt_of_block b1)).trans b1
    have e1 := heap_alloc_new (w.alloc (.cells #[.slice none 0 0] 22)) (.cells #[.int .i64 0] 24)
    have e2 := (heap_alloc_old ((w.alloc (.cells #[.slice none 0 0] 22)).alloc (.cells #[.int .i64 0] 24)) (.cells #[.string s, .int .i64 0] 50) (lt_of_block e1)).trans e1
    have e3 := heap_alloc_new ((w.alloc (.cells #[.slice none 0 0] 22)).alloc (.cells #[.int .i64 0] 24)) (.cells #[.string s, .int .i64 0] 50)
    rw [World.size_alloc] at e2
    rw [World.size_alloc, World.size_alloc] at e3
    refine ⟨b2, e2, e3, (w0.alloc (by rw [World.size_alloc]; omega) _).alloc (by rw [World.size_alloc, World.size_alloc]; omega) _, by rw [World.size_alloc, World.size_alloc, World.size_alloc]⟩)
  clear b0 w0 z0
  go_enter_defers Try.func9, Try.ntmps9
  go_upto_region 3 with fail
  obtain ⟨w2, hW2⟩ : ∃ w2, ((w.alloc (.cells #[.slice none 0 0] 22)).alloc (.cells #[.int .i64 0] 24)).alloc (.cells #[.string s, .int .i64 0] 50) = w2 := ⟨_, rfl⟩
  rw [hW2]
  obtain ⟨hN0, hN1, hrd, hb2, hz2⟩ := HX.out w2 hW2.symm
  clear HX hW2
  obtain ⟨N0, hNN0⟩ : ∃ N0, w.heap.size = N0 := ⟨_, rfl⟩
  rw [hNN0] at hN0 hN1 hrd hz2 ⊢
  obtain ⟨N1, hNN1⟩ : ∃ N1, N0 + 1 = N1 := ⟨_, rfl⟩
  rw [hNN1] at hN1 hrd hz2 ⊢
  obtain ⟨R, hRR⟩ : ∃ R, N1 + 1 = R := ⟨_, rfl⟩
  rw [hRR] at hrd hz2 ⊢
  have hw0 : w.heap.size ≤ N0 := by omega
  have hn1 : N1 = N0 + 1 := hNN1.symm
  have HN01 := Lib.hid hn1
  have hR1 : R = N1 + 1 := hRR.symm
  have i01 : N0 < N1 := by omega
  have i1R : N1 < R := by omega
  have hBz0 : N1 + 2 ≤ w2.heap.size := by omega
  have iRB : R < N1 + 2 := by omega
  have HB2 := Lib.hid hb2; have HN0 := Lib.hid hN0; have HN1 := Lib.hid hN1
  clear hNN0 hNN1 hRR hn1 hR1 hb2 hN0 hN1 hz2
  by_cases hs1 : 1 ≤ s.size
  case neg =>
    have hU : unpE s = none := by unfold unpE parseE; rw [if_neg hs1]
    have HU := Lib.hid hU
    clear hU
    go_wp2_with fail
    refine (rdNumber_bad s 0 1 R _ hrd hs (by omega) (by omega) (by omega) (by omega)).mono ?_
    rintro e' w3 ⟨rfl, hg3⟩
    have HG := Lib.hid hg3
    clear hg3 hrd
    go_wp2_with fail
    refine unpDoor (N0 := N0) (N1 := N1) HU.out ((HG.out.block N0 (lt_of_block HN0.out) (fun e => absurd (Option.some.inj e) (by omega))).trans HN0.out) ((HG.out.block N1 (lt_of_block HN1.out) (fun e => absurd (Option.some.inj e) (by omega))).trans HN1.out) (by rfl) (by rfl) (by omega) ?_ (by omega) (by omega)
    exact HB2.out.grown HG.out (by omega) (fun k hk => by injection hk with hk; omega)
  obtain ⟨n, hn⟩ : ∃ n, getL (cutL s 0 1) = n := ⟨_, rfl⟩
  have hn6 : n ≤ 65535 := by rw [← hn]; exact getL_small s 0 1 (by omega)
  have hnI : (n : Int) ≤ 65535 := by omega
  have hnum : numA s 0 1 = (n : Nat) := by unfold numA; rw [hn]
  have hUN : ∀ o, conc [] (prEnts s n 1) = o → unpE s = match o with | none => none | some (l, _) => if rightE l = true ∧ (ByteArray.mk (packB l).toArray) = s then some l else none := by
    rintro o rfl
    unfold unpE parseE
    rw [if_pos hs1, hn]
    cases prEnts s n 1 with
    | none => rfl
    | some x => obtain ⟨l, r⟩ := x; rfl
  have HUN := Lib.hid hUN; have HNUM := Lib.hid hnum
  clear hUN hnum hn
  go_wp2_with fail
  refine (rdNumber_ok s 0 1 R _ hrd hs (by omega) (by omega) (by omega)).mono ?_
  rw [HNUM.out]
  rintro e' w3 ⟨rfl, hrd3, hg3⟩
  have hN03 := Lib.hid ((hg3.block N0 (lt_of_block HN0.out) (fun e => absurd (Option.some.inj e) (by omega))).trans HN0.out)
  have hN13 := Lib.hid ((hg3.block N1 (lt_of_block HN1.out) (fun e => absurd (Option.some.inj e) (by omega))).trans HN1.out)
  have hgT3 := Lib.hid (HB2.out.grown hg3 HB2.out.size (fun k hk => by injection hk with hk; omega))
  have hBz3 : N1 + 2 ≤ w3.heap.size := Nat.le_trans hBz0 hg3.size
  have hO3 := Lib.hid (World.ownsRow_nil w3 (N1 + 2) 36 4)
  clear hg3 hrd HN0 HN1 HB2 hBz0
  obtain ⟨o, ho⟩ : ∃ o, conc [] (prEnts s n 1) = o := ⟨_, rfl⟩
  have hUo := HUN.out o ho
  have HUO := Lib.hid hUo; have HO := Lib.hid ho
  clear HUN hUo ho
  go_wp2_with fail
  go_loopw [11] (fun z wr => ∃ (i p : Nat) (v : Value) (xs : List Value) (acc : List En), i ≤ n ∧ z = .int .i64 i ∧ p ≤ 1000000 ∧ Rd R s p wr ∧ N1 + 2 ≤ wr.heap.size ∧ Hid (acc.length = i) ∧ Hid (o = conc acc (prEnts s (n - i) p)) ∧ Hid (Below w.heap.size w wr) ∧ Hid (wr.heap[N0]? = some (.cells #[v] 22 (0, 0))) ∧ Hid (wr.heap[N1]? = some (.cells #[.int .i64 0] 24 (0, 0))) ∧ Hid (wr.ownsRow (N1 + 2) 36 4 v i xs) ∧ Hid (RowV wr (N1 + 2) xs acc)) (fun z _ => n - (intOf z).toNat)
  case atStart => exact ⟨0, 1, _, [], [], Nat.zero_le _, rfl, by omega, hrd3, hBz3, Lib.hid rfl, Lib.hid HO.out.symm, hgT3, hN03, hN13, hO3, Lib.hid ⟨rfl, fun j hj => by simp at hj⟩⟩
  case round =>
    clear hN03 hN13 hgT3 hBz3 hO3 hrd3
    obtain ⟨i, p, v, xs, acc, hin, rfl, hpp, hrd, hBz, hA, hP, hgT, hN0, hN1, hO, hV⟩ := hrel
    obtain ⟨ta, tc, rfl, _⟩ := own_formS hO.out
    by_cases hlt : i < n
    · have hltI : (i : Int) < n := by omega
      have c0 := below_cell (Below.refl _ wr) hN0.out 0 rfl
      have c0a := fun o : Obj => (World.cell?_of_block (a := ⟨N0, 0, none⟩) (Below.heap_alloc wr o N0 (lt_of_block hN0.out))).trans c0
      have hni : n - i = (n - (i + 1)) + 1 := by omega
      cases hpr : prEnt s p with
      | none =>
        have hon : o = none := by rw [hP.out, hni, prEnts_none hpr]; rfl
        have hU : unpE s = none := by rw [HUO.out, hon]
        have HU := Lib.hid hU
        have HC : Hid (∀ u, Rd R s p u → Calls Try.prog 25 #[.pointer (some ⟨R, 0, none⟩)] u (BadPost R u)) := Lib.hid (fun u hu => by have := rdEntry s p R u hu hs hpp; rw [hpr] at this; exact this)
        clear hon hU hpr hni
        go_upto_region 5 with fail
        go_region_law (first
          | (go_simp; go_at_call 25; refine (HC.out _ (by exact hrd)).mono ?_; rintro e' w7 ⟨rfl, hgr⟩; have hgT := Lib.hid (show Below w.heap.size w w7 from (by first | exact hgT.out.grown hgr hgT.out.size (fun k hk => by injection hk with hk; omega) | exact hgT.out.grown (grown_drew hgr) hgT.out.size (fun k hk => by injection hk with hk; omega))); have hN0 := Lib.hid ((hgr.block N0 (lt_of_block (by exact hN0.out)) (fun e => absurd (Option.some.inj e) (by omega))).trans (by exact hN0.out)); have hN1 := Lib.hid ((hgr.block N1 (lt_of_block (by exact hN1.out)) (fun e => absurd (Option.some.inj e) (by omega))).trans (by exact hN1.out)); go_simp; refine as_any _ ⟨#[], []⟩ w7 ?_)
          | fail)
        all_goals
          exact unpDoor (N0 := N0) (N1 := N1) HU.out hN0.out hN1.out (by rfl) (by rfl) (by omega) hgT.out (by omega) (by omega)
      | some eq =>
        obtain ⟨en, q⟩ := eq
        have hcn : o = conc (acc ++ [en]) (prEnts s (n - (i + 1)) q) := by rw [hP.out, hni, prEnts_some hpr]
        obtain ⟨f1, f2, f3⟩ := prEnt_facts hs hpr
        have hEP : ∀ u, Rd R s p u → Calls Try.prog 25 #[.pointer (some ⟨R, 0, none⟩)] u (EntPost R s q en u) := fun u hu => by have := rdEntry s p R u hu hs hpp; rw [hpr] at this; exact this
        obtain ⟨name, cur, nxt, vers⟩ := en
        have HC : Hid (∀ u, Rd R s p u → Calls Try.prog 25 #[.pointer (some ⟨R, 0, none⟩)] u (fun e' w' => ∃ k, e' = .returned (.agg #[.string name, .int .i64 cur, .int .i64 nxt, k]) ∧ w'.ownsRow u.heap.size 42 5 k vers.length (vrCells vers) ∧ Rd R s q w' ∧ u.grownBy w' (some R))) := Lib.hid hEP
        have HCN := Lib.hid hcn; have HF1 := Lib.hid f1; have HF2 := Lib.hid f2
        have hq6 : q ≤ 1000000 := by omega
        clear hcn hpr hni f1 f2 f3 hEP
        go_upto_region 5 with fail
        go_region_law (first
          | (go_simp; go_at_call 25; refine (HC.out _ (by exact hrd)).mono ?_; rintro e' w7 ⟨k, rfl, hk, hrd, hgr⟩; have hk := own_base (b' := N1 + 2) hk hBz; have hgT := Lib.hid (show Below w.heap.size w w7 from (by first | exact hgT.out.grown hgr hgT.out.size (fun k hk => by injection hk with hk; omega) | exact hgT.out.grown (grown_drew hgr) hgT.out.size (fun k hk => by injection hk with hk; omega))); have hN0 := Lib.hid ((hgr.block N0 (lt_of_block (by exact hN0.out)) (fun e => absurd (Option.some.inj e) (by omega))).trans (by exact hN0.out)); have hN1 := Lib.hid ((hgr.block N1 (lt_of_block (by exact hN1.out)) (fun e => absurd (Option.some.inj e) (by omega))).trans (by exact hN1.out)); have hO := Lib.hid (World.ownsRow.kept (w := _) (by first | exact hO.out | exact hO.out.drew) hgr (.inr (fun e => absurd (hO.out.lt R e).1 (by omega)))); have hV := Lib.hid (RowV.kept (w := _) (by first | exact hV.out | exact hV.out.drew) hgr (.inl (by omega))); have hBz := Nat.le_trans hBz hgr.size; have c0 := below_cell (Below.refl _ w7) hN0.out 0 rfl; have c0a := fun o : Obj => (World.cell?_of_block (a := ⟨N0, 0, none⟩) (Below.heap_alloc w7 o N0 (lt_of_block hN0.out))).trans c0; obtain ⟨ka, kc, rfl, _⟩ := own_formS hk; go_simp)
          | (refine step_push (m := 1) (c := 1) (Operand.tmp 13) (Operand.tmp 15) 22 36 [.string name, .int .i64 cur, .int .i64 nxt, .slice ka vers.length kc] (hO.out.alloc _) ((Below.refl _ _).alloc hBz _) hBz Try.underlying22 hNI hzI0 hzI1 hzI2 rfl (by decide) (by rfl) (by rfl) (by rfl) (by rfl) (cells_new _ [.string name, .int .i64 cur, .int .i64 nxt, .slice ka vers.length kc] 36) (by rfl) (by intro u hu; simp only [List.mem_cons, List.not_mem_nil, or_false] at hu; rcases hu with rfl | rfl | rfl | rfl <;> rfl) ⟨by omega, by omega⟩ ?_; intro v8 w8 hown8 hb8 hgr8; obtain ⟨ta8, tc8, rfl, _⟩ := own_formS hown8; have hN8 := (hb8.block N0 (by omega)).trans hN0.out; have c08 := below_cell (Below.refl _ w8) hN8 0 rfl; have f08 := block_frozen hN8 0)
          | fail)
        all_goals
          have hN09 := Lib.hid (block_set hN8 0 (.slice ta8 (i + 1) tc8))
          have hN19 := Lib.hid ((Below.heap_setCell w8 ⟨N0, 0, none⟩ (.slice ta8 (i + 1) tc8) N1 (by show N1 ≠ N0; omega)).trans ((hb8.block N1 (by omega)).trans hN1.out))
          have hO9 := Lib.hid (ownsRow_setCell_below (a := ⟨N0, 0, none⟩) hown8 (by show N0 < N1 + 2; omega) (.slice ta8 (i + 1) tc8))
          have hV0 := RowV.snoc (e := ⟨name, cur, nxt, vers⟩) hV.out HF1.out HF2.out hk
          have hV1 : RowV w8 (N1 + 2) (xs ++ [.string name, .int .i64 cur, .int .i64 nxt, .slice ka vers.length kc]) (acc ++ [⟨name, cur, nxt, vers⟩]) := RowV.grew hV0 hown8 (grown_trans (World.grownBy_alloc w7 _ _) hgr8) hO.out
          have hV9 := Lib.hid (RowV.kept hV1 (grown_set (R := N0) (w := w8) ⟨rfl, rfl, rfl, Nat.le_refl _, fun _ _ _ => rfl⟩ 0 (.slice ta8 (i + 1) tc8)) (.inl (by omega)))
          have hg9 := Lib.hid ((hgT.out.trans (hb8.mono (by omega))).setCell (p := ⟨N0, 0, none⟩) (show w.heap.size ≤ N0 by omega) (.slice ta8 (i + 1) tc8))
          have hrd9 : Rd R s q (w8.setCell ⟨N0, 0, none⟩ (.slice ta8 (i + 1) tc8)) :=
            (Below.heap_setCell w8 ⟨N0, 0, none⟩ _ R (by show R ≠ N0; omega)).trans ((hb8.block R (by omega)).trans hrd)
          have hBz9 : N1 + 2 ≤ (w8.setCell ⟨N0, 0, none⟩ (.slice ta8 (i + 1) tc8)).heap.size := by rw [World.size_setCell]; exact Nat.le_trans hBz hb8.size
          have hA9 : Hid ((acc ++ [(⟨name, cur, nxt, vers⟩ : En)]).length = i + 1) := Lib.hid (by rw [List.length_append, hA.out]; rfl)
          clear hN8 c08 hb8 hgr8 hown8 hN0 hN1 hO hV hgT c0 c0a hrd hBz hV0 hV1 hk
          go_wp2_with fail
          go_roundw
          case rel => exact ⟨i + 1, q, _, _, _, by omega, by go_num, hq6, hrd9, hBz9, hA9, HCN, hg9, hN09, hN19, hO9, hV9⟩
          case measure => simp [intOf]; omega
    · obtain rfl : i = n := by omega
      have hnl : ¬ (i : Int) < i := by omega
      have hU : unpE s = if rightE acc = true ∧ (ByteArray.mk (packB acc).toArray) = s then some acc else none := by
        rw [HUO.out, hP.out, Nat.sub_self]
        simp [prEnts, conc]
      have HU := Lib.hid hU
      have hen : IsEns wr (.slice ta i tc) acc := hV.out.row.reads hO.out hA.out (Below.refl _ _)
      have c0 := below_cell (Below.refl _ wr) hN0.out 0 rfl
      clear hU HUO hP hrd
      by_cases hok : rightE acc = true ∧ (ByteArray.mk (packB acc).toArray) = s
      · have hU2 : unpE s = some acc := by rw [HU.out, if_pos hok]
        have HU2 := Lib.hid hU2
        have HPK := Lib.hid (enPack_ok acc _ wr hen hok.1)
        obtain ⟨hok1, hok2⟩ := hok
        rw [hok2] at HPK
        clear hU2 HU hok1 hok2 hen
        go_wp2_with fail
        refine HPK.out.mono ?_
        rintro e' w4 ⟨rfl, hb4⟩
        have hN04 := (hb4.block N0 (lt_of_block hN0.out)).trans hN0.out
        have hN14 := (hb4.block N1 (lt_of_block hN1.out)).trans hN1.out
        have hV4 := RowV.kept hV.out (grown_below N0 hb4) (.inl (by omega))
        have hO4 := own_stay hO.out hb4
        have hg4 := hgT.out.trans (hb4.mono hgT.out.size)
        have d0 := below_cell (Below.refl _ w4) hN04 0 rfl
        have e0 := block_frozen hN04 0
        have hN05 := block_set hN04 0 (.slice ta i tc)
        have hN15 := (Below.heap_setCell w4 ⟨N0, 0, none⟩ (.slice ta i tc) N1 (by show N1 ≠ N0; omega)).trans hN14
        have d1 := below_cell (Below.refl _ _) hN15 0 rfl
        have e1 := block_frozen hN15 0
        have hN16 := Lib.hid (block_set hN15 0 (.int .i64 0))
        have hN06 := Lib.hid ((Below.heap_setCell (w4.setCell ⟨N0, 0, none⟩ (.slice ta i tc)) ⟨N1, 0, none⟩ (.int .i64 0) N0 (by show N0 ≠ N1; omega)).trans hN05)
        have hO6 := ownsRow_setCell_below (a := ⟨N1, 0, none⟩) (ownsRow_setCell_below (a := ⟨N0, 0, none⟩) hO4 (by show N0 < N1 + 2; omega) (.slice ta i tc)) (by show N1 < N1 + 2; omega) (.int .i64 0)
        have hV6 := RowV.kept (RowV.kept hV4 (grown_set (R := N0) (w := w4) ⟨rfl, rfl, rfl, Nat.le_refl _, fun _ _ _ => rfl⟩ 0 (.slice ta i tc)) (.inl (by omega))) (grown_set (R := N1) ⟨rfl, rfl, rfl, Nat.le_refl _, fun _ _ _ => rfl⟩ 0 (.int .i64 0)) (.inl (by omega))
        have hg6 := (hg4.setCell (p := ⟨N0, 0, none⟩) (show w.heap.size ≤ N0 by omega) (.slice ta i tc)).setCell (p := ⟨N1, 0, none⟩) (show w.heap.size ≤ N1 by omega) (.int .i64 0)
        have hfin : UnpPost s w (.returned (.tuple #[.slice ta i tc, .int .i64 0])) ((w4.setCell ⟨N0, 0, none⟩ (.slice ta i tc)).setCell ⟨N1, 0, none⟩ (.int .i64 0)) := by
          refine ⟨hg6, ?_⟩
          rw [HU2.out]
          exact ⟨_, rfl, hV6.row.reads hO6 hA.out (Below.refl _ _)⟩
        have HFIN := Lib.hid hfin
        clear hfin hV6 hO6 hg6 hV4 hO4 hg4 hN04 hN14 hN05 hN15 hV hO hgT hN0 hN1 c0 hb4
        have hss : (s.toList == s.toList) = true := by simp
        go_wp2_with fail
        exact unpDoorRet (N0 := N0) (N1 := N1) hN06.out hN16.out (by rfl) (by rfl) HFIN.out
      · have hU2 : unpE s = none := by rw [HU.out, if_neg hok]
        have HU2 := Lib.hid hU2
        have hPost : ∀ u, Below w.heap.size w u → UnpPost s w (.returned (.tuple #[.slice none 0 0, .int .i64 4])) u := fun u hu => ⟨hu, by rw [HU2.out]⟩
        have HPO := Lib.hid hPost
        have HOK := Lib.hid hok
        clear hU2 HU hPost hok
        have hcalls : (Calls Try.prog 8 #[.slice ta i tc] wr fun e' w' => e' = .returned (.tuple #[.string ⟨#[]⟩, .int .i64 1]) ∧ Below wr.heap.size wr w') ∨ (rightE acc = true ∧ (ByteArray.mk (packB acc).toArray) ≠ s) := by
          cases hr : rightE acc with
          | false => exact .inl (enPack_bad acc _ wr hen hr)
          | true => exact .inr ⟨rfl, fun h => HOK.out ⟨hr, h⟩⟩
        rcases hcalls with hbad | ⟨hr, hne⟩
        · have HPK := Lib.hid hbad
          clear hbad hen
          go_wp2_with fail
          refine HPK.out.mono ?_
          rintro e' w4 ⟨rfl, hb4⟩
          have hN04 := (hb4.block N0 (lt_of_block hN0.out)).trans hN0.out
          have hN14 := (hb4.block N1 (lt_of_block hN1.out)).trans hN1.out
          have hg4 := hgT.out.trans (hb4.mono hgT.out.size)
          have d0 := below_cell (Below.refl _ w4) hN04 0 rfl
          have e0 := block_frozen hN04 0
          have hN05 := block_set hN04 0 (.slice none 0 0)
          have hN15 := (Below.heap_setCell w4 ⟨N0, 0, none⟩ (.slice none 0 0) N1 (by show N1 ≠ N0; omega)).trans hN14
          have d1 := below_cell (Below.refl _ _) hN15 0 rfl
          have e1 := block_frozen hN15 0
          have hN16 := Lib.hid (block_set hN15 0 (.int .i64 4))
          have hN06 := Lib.hid ((Below.heap_setCell (w4.setCell ⟨N0, 0, none⟩ (.slice none 0 0)) ⟨N1, 0, none⟩ (.int .i64 4) N0 (by show N0 ≠ N1; omega)).trans hN05)
          have HFIN := Lib.hid (HPO.out _ ((hg4.setCell (p := ⟨N0, 0, none⟩) (show w.heap.size ≤ N0 by omega) (.slice none 0 0)).setCell (p := ⟨N1, 0, none⟩) (show w.heap.size ≤ N1 by omega) (.int .i64 4)))
          clear hg4 hN04 hN14 hN05 hN15 hV hO hgT hN0 hN1 c0 hb4
          go_wp2_with fail
          exact unpDoorRet (N0 := N0) (N1 := N1) hN06.out hN16.out (by rfl) (by rfl) HFIN.out
        · have HPK := Lib.hid (enPack_ok acc _ wr hen hr)
          have hq := ba_tne hne
          generalize (ByteArray.mk (packB acc).toArray) = S at *
          clear hen hr hne HOK
          go_wp2_with fail
          refine HPK.out.mono ?_
          rintro e' w4 ⟨rfl, hb4⟩
          have hN04 := (hb4.block N0 (lt_of_block hN0.out)).trans hN0.out
          have hN14 := (hb4.block N1 (lt_of_block hN1.out)).trans hN1.out
          have hg4 := hgT.out.trans (hb4.mono hgT.out.size)
          have d0 := below_cell (Below.refl _ w4) hN04 0 rfl
          have e0 := block_frozen hN04 0
          have hN05 := block_set hN04 0 (.slice none 0 0)
          have hN15 := (Below.heap_setCell w4 ⟨N0, 0, none⟩ (.slice none 0 0) N1 (by show N1 ≠ N0; omega)).trans hN14
          have d1 := below_cell (Below.refl _ _) hN15 0 rfl
          have e1 := block_frozen hN15 0
          have hN16 := Lib.hid (block_set hN15 0 (.int .i64 4))
          have hN06 := Lib.hid ((Below.heap_setCell (w4.setCell ⟨N0, 0, none⟩ (.slice none 0 0)) ⟨N1, 0, none⟩ (.int .i64 4) N0 (by show N0 ≠ N1; omega)).trans hN05)
          have HFIN := Lib.hid (HPO.out _ ((hg4.setCell (p := ⟨N0, 0, none⟩) (show w.heap.size ≤ N0 by omega) (.slice none 0 0)).setCell (p := ⟨N1, 0, none⟩) (show w.heap.size ≤ N1 by omega) (.int .i64 4)))
          clear hg4 hN04 hN14 hN05 hN15 hV hO hgT hN0 hN1 c0 hb4
          go_wp2_with fail
          exact unpDoorRet (N0 := N0) (N1 := N1) hN06.out hN16.out (by rfl) (by rfl) HFIN.out
end Go.Proofs.Ytfpfcjgdihlieaa
