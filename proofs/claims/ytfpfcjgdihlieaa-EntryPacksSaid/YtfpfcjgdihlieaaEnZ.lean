/- entry's reader: an entry. -/
import Derived.Test.YtfpfcjgdihlieaaEnY
import Derived.Test.YtfpfcjgdihlieaaEnG
import Derived.Deep.RegionLaw
import Derived.Laws.Rows
namespace Go.Proofs.Ytfpfcjgdihlieaa
open Go.RowKit
set_option linter.unusedVariables false

/-- 's = append(s, t...)' as a step of a region that draws -/
theorem step_push {P : Program} {ops : Array Oper} {o : Oper} {a : Act} {K : Act → World → Prop} {Q : Exit → Act → World → Prop} {E : Prop} {w w0 : World}
    (s x : Operand) (t : TypeId) (e : TypeId) {i : TypeInfo} {z : Value} {size bytes m c : Nat} {base : Nat} {v : Value} {n : Nat} {xs : List Value} {ad : Addr} (news : List Value)
    (hown : w.ownsRow base e size v n xs) (hbel : Below base w0 w) (hbase : base ≤ w0.heap.size)
    (ht : P.underlying t = some (.slice e)) (hi : P.info? e = some i) (hz : i.zero = some z)
    (hsize : i.size = size) (hby : i.bytes = bytes) (hzs : z.cells.size = size) (hsz : 0 < size)
    (hgd : o.guard = none) (ho : o.op = .call { callee := .builtin .append, args := #[s, x], argTypes := #[t, t] })
    (hs : a.eval s = v) (hx : a.eval x = .slice (some ad) m c) (hc : ∀ j u, news[j]? = some u → w.cell? (ad.add j) = some u)
    (hl : news.length = m * size) (h1 : ∀ u ∈ news, u.oneCell' = true)
    (hroom : n + m ≤ 17592186044416 ∧ (n + m) * bytes ≤ 140737488355328)
    (h : ∀ v' w', w'.ownsRow base e size v' (n + m) (xs ++ news) → Below base w0 w' → w.grownBy w' v.ownBlock → K (a.put o.dst v') w') :
    if Region.wanted o (yielded ops a.tmps) = true then Oper.wp P o a w K Q else E := by
  rw [if_pos (by simp [Region.wanted, hgd])]
  exact wp_append_own w s x t ho base e i z size bytes ht hi hz hsize hby hzs hsz v n xs hs hown ad m c news hx hl hc h1 (by unfold maxLen; omega) hroom.2 (Nat.le_trans hbase hbel.size)
    fun v' w' h2 h3 _ => h v' w' h2 (hbel.grown h3 (Nat.le_trans hbase hbel.size) (fun k hk => (hown.lt k hk).1)) h3
theorem own_base {w : World} {b b' e size : Nat} {v : Value} {n : Nat} {xs : List Value} (h : w.ownsRow b e size v n xs) (hb : b' ≤ b) : w.ownsRow b' e size v n xs := by
  refine ⟨h.1, h.2.imp id ?_⟩
  rintro ⟨g, cap, cur, rfl, hg, hr⟩
  exact ⟨g, cap, cur, rfl, Nat.le_trans hb hg, hr⟩
theorem grown_drew {w w' : World} {R : Option Nat} (h : w.drew.grownBy w' R) : w.grownBy w' R := ⟨h.os, h.tape, h.output, h.size, h.block⟩
/-- a way of a region that ends in a panic, as the region's tactic bears it -/
theorem as_any (G : Prop) (a : Act) (w : World) (h : wpAny Try.prog .any #[] (fun _ _ _ => G) 0 #[] a w) : G := h.2
theorem infoVr : (Try.prog.info? 42).map (fun i => (i.zero, i.size, i.bytes)) = some (some (.agg #[.int .i64 0, .int .i64 0, .int .i64 0, .int .i64 0, .int .i64 0]), 5, 40) := by kernel_rfl
def vrCells (l : List Vr) : List Value := l.flatMap Vr.cells
theorem vrCells_len (l : List Vr) : (vrCells l).length = l.length * 5 := by
  induction l with
  | nil => rfl
  | cons v l ih => rw [vrCells, List.flatMap_cons, List.length_append, ← vrCells, ih, List.length_cons]; simp [Vr.cells]; omega
theorem vrCells_snoc (l : List Vr) (v : Vr) : vrCells (l ++ [v]) = vrCells l ++ v.cells := by simp [vrCells]
theorem versL_snoc (s : ByteArray) (p n : Nat) : versL s p (n + 1) = versL s p n ++ [vrAt s (p + 10 * n)] := by
  unfold versL; rw [List.range_succ, List.map_append]; rfl
theorem versL_len (s : ByteArray) (p n : Nat) : (versL s p n).length = n := by simp [versL]
def EntPost (R : Nat) (s : ByteArray) (q : Nat) (en : En) (w : World) (e : Ending) (w' : World) : Prop :=
  ∃ k, e = .returned (.agg #[.string en.name, .int .i64 en.cur, .int .i64 en.nxt, k]) ∧ w'.ownsRow w.heap.size 42 5 k en.vers.length (vrCells en.vers) ∧ Rd R s q w' ∧ w.grownBy w' (some R)
theorem below_grown {B R : Nat} {w w1 w2 : World} (h1 : w.grownBy w1 (some R)) (h2 : Below B w1 w2) (hB : w.heap.size ≤ B) : w.grownBy w2 (some R) :=
  ⟨h2.os.trans h1.os, h2.tape.trans h1.tape, h2.output.trans h1.output, Nat.le_trans h1.size h2.size, fun k hk hr => (h2.block k (Nat.lt_of_lt_of_le hk hB)).trans (h1.block k hk hr)⟩
def EPost (R : Nat) (s : ByteArray) (o : Option (En × Nat)) (w : World) (e : Ending) (w' : World) : Prop :=
  match o with
  | some (en, q) => EntPost R s q en w e w'
  | none => BadPost R w e w'
theorem grown_new {w w1 : World} {R : Nat} (h : w.grownBy w1 (some R)) {E : Nat} (hE : w.heap.size ≤ E) (j : Nat) (v : Value) : w.grownBy (w1.setCell ⟨E, j, none⟩ v) (some R) :=
  ⟨h.os, h.tape, h.output, by rw [World.size_setCell]; exact h.size, fun k hk hr => by
    rw [Below.heap_setCell _ _ _ _ (by show k ≠ E; omega)]
    exact h.block k hk hr⟩
theorem grown_alloc {w w1 : World} {R : Nat} (h : w.grownBy w1 (some R)) (o : Obj) : w.grownBy (w1.alloc o) (some R) :=
  grown_trans h (World.grownBy_alloc w1 o (some R))
set_option maxRecDepth 100000 in
set_option maxHeartbeats 4000000 in
theorem rdEntry (s : ByteArray) (p R : Nat) (w : World) (h : Rd R s p w) (hs : s.size ≤ 3000) (hpp : p ≤ 1000000) :
    Calls Try.prog 25 #[.pointer (some ⟨R, 0, none⟩)] w (EPost R s (prEnt s p) w) := by
  obtain ⟨iI, hNI, hzI0, hzI1, hzI2⟩ := info_parts infoVr
  have hRw : R < w.heap.size := lt_of_block h
  have hal := (Below.refl w.heap.size w).alloc (Nat.le_refl _) (.cells #[.string ⟨#[]⟩, .int .i64 0, .int .i64 0, .slice none 0 0] 36)
  have hrd1 : Rd R s p (w.alloc (.cells #[.string ⟨#[]⟩, .int .i64 0, .int .i64 0, .slice none 0 0] 36)) := (hal.block R hRw).trans h
  have hg1 := grown_below R hal
  have hZ1 := heap_alloc_new w (.cells #[.string ⟨#[]⟩, .int .i64 0, .int .i64 0, .slice none 0 0] 36)
  have HZ := Lib.hid hZ1; have HG := Lib.hid hg1
  clear hal hZ1 hg1 h
  by_cases hc : cutE s p = 0
  case neg =>
    have hPR : prEnt s p = none := by unfold prEnt; rw [if_neg hc]
    rw [hPR]
    have HC := Lib.hid hc
    clear hPR hc
    go_enter Try.func25, Try.ntmps25
    go_wp2_with fail
    refine (rdText_bad s p R _ hrd1 hs hpp HC.out).mono ?_
    rintro e' w2 ⟨rfl, hg2⟩
    go_wp2_with fail
    exact ⟨rfl, rfl, grown_trans HG.out hg2⟩
  obtain ⟨a1, ha1⟩ : ∃ a1, (cutT s p).toNat = a1 := ⟨_, rfl⟩
  have ha1b : a1 ≤ 3000 := by
    have := getN_2 s p
    rw [← ha1]
    have hE := hc
    unfold cutE at hE
    unfold cutT
    rw [if_pos hc]
    split at hE
    · rename_i hh; exact absurd hE hh
    · split at hE
      · omega
      · cases hE
  have hPR : prEnt s p = (if a1 + 5 ≤ s.size then (if a1 + 5 + 10 * getL (cutL s (a1 + 4) 1) ≤ s.size then some (⟨cutS s p, numA s a1 2, numA s (a1 + 2) 2, versL s (a1 + 5) (getL (cutL s (a1 + 4) 1))⟩, a1 + 5 + 10 * getL (cutL s (a1 + 4) 1)) else none) else none) := by
    unfold prEnt; rw [if_pos hc, ha1]
  have HT := Lib.hid (fun u hu => rdText_ok s p R u hu hs hpp hc)
  rw [ha1] at HT
  generalize prEnt s p = PR at *
  have HPR := Lib.hid hPR
  clear hPR ha1 hc
  by_cases h5 : a1 + 5 ≤ s.size
  case neg =>
    have hN : PR = none := by rw [HPR.out, if_neg h5]
    subst hN
    clear HPR
    go_enter Try.func25, Try.ntmps25
    go_wp2_with fail
    refine (HT.out _ hrd1).mono ?_
    rintro e' w2 ⟨rfl, hrd2, hg2⟩
    have HG2 := Lib.hid (grown_trans HG.out hg2)
    clear hg2 HG HT
    go_wp2_with fail
    by_cases h2 : a1 + 2 ≤ s.size
    case neg =>
      refine (rdNumber_bad s a1 2 R _ hrd2 hs (by omega) (by omega) (by omega) h2).mono ?_
      rintro e' w3 ⟨rfl, hg3⟩
      go_wp2_with fail
      exact ⟨rfl, rfl, grown_trans HG2.out hg3⟩
    refine (rdNumber_ok s a1 2 R _ hrd2 hs (by omega) (by omega) h2).mono ?_
    rintro e' w3 ⟨rfl, hrd3, hg3⟩
    have HG3 := Lib.hid (grown_trans HG2.out hg3)
    clear hg3 HG2
    go_wp2_with fail
    by_cases h4 : a1 + 2 + 2 ≤ s.size
    case neg =>
      refine (rdNumber_bad s (a1 + 2) 2 R _ hrd3 hs (by omega) (by omega) (by omega) h4).mono ?_
      rintro e' w4 ⟨rfl, hg4⟩
      go_wp2_with fail
      exact ⟨rfl, rfl, grown_trans HG3.out hg4⟩
    refine (rdNumber_ok s (a1 + 2) 2 R _ hrd3 hs (by omega) (by omega) h4).mono ?_
    rintro e' w4 ⟨rfl, hrd4, hg4⟩
    have HG4 := Lib.hid (grown_trans HG3.out hg4)
    have HG5 := Lib.hid (grown_alloc HG4.out (.cells #[.string (cutS s p), .int .i64 (numA s a1 2), .int .i64 (numA s (a1 + 2) 2), .slice none 0 0] 36))
    have hrd5 : Rd R s (a1 + 2 + 2) (w4.alloc (.cells #[.string (cutS s p), .int .i64 (numA s a1 2), .int .i64 (numA s (a1 + 2) 2), .slice none 0 0] 36)) := (heap_alloc_old w4 _ (lt_of_block hrd4)).trans hrd4
    clear hg4 HG3
    go_wp2_with fail
    refine (rdNumber_bad s (a1 + 2 + 2) 1 R _ hrd5 hs (by omega) (by omega) (by omega) (by omega)).mono ?_
    rintro e' w5 ⟨rfl, hg5⟩
    go_wp2_with fail
    exact ⟨rfl, rfl, grown_trans HG5.out hg5⟩
  rw [if_pos h5] at HPR
  obtain ⟨c, hc⟩ : ∃ c, getL (cutL s (a1 + 4) 1) = c := ⟨_, rfl⟩
  have hc255 : c ≤ 65535 := by rw [← hc]; exact getL_small s _ 1 (by omega)
  rw [hc] at HPR
  have hnc : numA s (a1 + 2 + 2) 1 = (c : Nat) := by unfold numA; rw [show a1 + 2 + 2 = a1 + 4 by omega, hc]
  have HNC := Lib.hid hnc
  have hcI : (c : Int) ≤ 65535 := by omega
  clear hnc hc
  go_enter Try.func25, Try.ntmps25
  go_wp2_with fail
  refine (HT.out _ hrd1).mono ?_
  rintro e' w2 ⟨rfl, hrd2, hg2⟩
  have HG2 := Lib.hid (grown_trans HG.out hg2)
  have HZ2 := Lib.hid ((hg2.block _ (lt_of_block HZ.out) (fun e => absurd (Option.some.inj e) (by omega))).trans HZ.out)
  clear hg2 HG HT HZ
  go_wp2_with fail
  refine (rdNumber_ok s a1 2 R _ hrd2 hs (by omega) (by omega) (by omega)).mono ?_
  rintro e' w3 ⟨rfl, hrd3, hg3⟩
  have HG3 := Lib.hid (grown_trans HG2.out hg3)
  have HZ3 := Lib.hid ((hg3.block _ (lt_of_block HZ2.out) (fun e => absurd (Option.some.inj e) (by omega))).trans HZ2.out)
  clear hg3 HG2 HZ2
  go_wp2_with fail
  refine (rdNumber_ok s (a1 + 2) 2 R _ hrd3 hs (by omega) (by omega) (by omega)).mono ?_
  rintro e' w4 ⟨rfl, hrd4, hg4⟩
  have HG4 := Lib.hid (grown_trans HG3.out hg4)
  have HZ4 := Lib.hid ((hg4.block _ (lt_of_block HZ3.out) (fun e => absurd (Option.some.inj e) (by omega))).trans HZ3.out)
  clear hg4 HG3 HZ3
  generalize cutS s p = name at *
  generalize numA s a1 2 = cur at *
  generalize numA s (a1 + 2) 2 = nxt at *
  have HG5 := Lib.hid (grown_alloc HG4.out (.cells #[.string name, .int .i64 cur, .int .i64 nxt, .slice none 0 0] 36))
  have hrd5 : Rd R s (a1 + 2 + 2) (w4.alloc (.cells #[.string name, .int .i64 cur, .int .i64 nxt, .slice none 0 0] 36)) := (heap_alloc_old w4 _ (lt_of_block hrd4)).trans hrd4
  have HZ5 := Lib.hid ((heap_alloc_old w4 (.cells #[.string name, .int .i64 cur, .int .i64 nxt, .slice none 0 0] 36) (lt_of_block HZ4.out)).trans HZ4.out)
  have HE5 := Lib.hid (heap_alloc_new w4 (.cells #[.string name, .int .i64 cur, .int .i64 nxt, .slice none 0 0] 36))
  have hwE : w.heap.size < w4.heap.size := lt_of_block HZ4.out
  clear HG4 HZ4 hrd4 hrd3 hrd2 hrd1
  go_upto_region 2 with fail
  obtain ⟨w5, hW⟩ : ∃ w5, w4.alloc (.cells #[.string name, .int .i64 cur, .int .i64 nxt, .slice none 0 0] 36) = w5 := ⟨_, rfl⟩
  obtain ⟨E, hEE⟩ : ∃ E, w4.heap.size = E := ⟨_, rfl⟩
  have hBv : w5.heap.size = E + 1 := by rw [← hW, World.size_alloc, hEE]
  rw [hW] at HG5 hrd5 HZ5 HE5 ⊢
  rw [hEE] at HE5 hwE
  (try rw [hEE])
  clear hW hEE
  go_wp2_with fail
  refine (rdNumber_ok s (a1 + 2 + 2) 1 R _ hrd5 hs (by omega) (by omega) (by omega)).mono ?_
  rw [HNC.out]
  rintro e' w6 ⟨rfl, hrd6, hg6⟩
  have HG6 := Lib.hid (grown_trans HG5.out hg6)
  have HZ6 := Lib.hid ((hg6.block _ (lt_of_block HZ5.out) (fun e => absurd (Option.some.inj e) (by omega))).trans HZ5.out)
  have HE6 := Lib.hid ((hg6.block _ (lt_of_block HE5.out) (fun e => absurd (Option.some.inj e) (by omega))).trans HE5.out)
  have hBz6 : E + 1 ≤ w6.heap.size := by have := hg6.size; omega
  have hrd6 : Rd R s (a1 + 5 + 10 * 0) w6 := hrd6
  have HO6 := Lib.hid (World.ownsRow_nil w6 (E + 1) 42 5)
  clear hg6 HG5 HZ5 HE5 hrd5 hBv HNC
  have hER : E ≠ R := by omega
  have hZR : w.heap.size ≠ R := by omega
  go_wp2_with fail
  go_loopw [13] (fun z wr => ∃ (j : Nat) (tv : Value), j ≤ c ∧ z = .int .i64 j ∧ a1 + 5 + 10 * j ≤ s.size ∧ Rd R s (a1 + 5 + 10 * j) wr ∧ E + 1 ≤ wr.heap.size ∧ Hid (w.grownBy wr (some R)) ∧ Hid (wr.heap[w.heap.size]? = some (.cells #[.string ⟨#[]⟩, .int .i64 0, .int .i64 0, .slice none 0 0] 36 (0, 0))) ∧ Hid (wr.heap[E]? = some (.cells #[.string name, .int .i64 cur, .int .i64 nxt, tv] 36 (0, 0))) ∧ Hid (wr.ownsRow (E + 1) 42 5 tv j (vrCells (versL s (a1 + 5) j)))) (fun z _ => c - (intOf z).toNat)
  case atStart => exact ⟨0, _, Nat.zero_le _, rfl, h5, hrd6, hBz6, HG6, HZ6, HE6, HO6⟩
  case round =>
    clear HG6 HZ6 HE6 HO6 hrd6 hBz6
    obtain ⟨j, tv, hjc, rfl, hpos, hrd, hBz, hgT, hZ, hE, hO⟩ := hrel
    obtain ⟨ta, tc, rfl, _⟩ := own_formS hO.out
    by_cases hlt : j < c
    · have hltI : (j : Int) < c := by omega
      have c3 := below_cell (Below.refl _ wr) hE.out 3 rfl
      have c3a := fun o : Obj => (World.cell?_of_block (a := ⟨E, 3, none⟩) (Below.heap_alloc wr o E (lt_of_block hE.out))).trans c3
      obtain ⟨P0, hP0⟩ : ∃ P0, a1 + 5 + 10 * j = P0 := ⟨_, rfl⟩
      rw [hP0] at hrd hpos
      have HP0 := Lib.hid hP0
      by_cases h10 : P0 + 10 ≤ s.size
      · clear hP0
        go_upto_region 4 with fail
        go_region_law (first
          | (go_simp; go_at_call 24; refine (rdNumber_ok s _ 2 R _ (by exact hrd) hs (by omega) (by omega) (by omega)).mono ?_; rintro e' w7 ⟨rfl, hrd, hgr⟩; have hgT := Lib.hid (show w.grownBy w7 (some R) from (by first | exact grown_trans hgT.out hgr | exact grown_trans hgT.out (grown_drew hgr))); have hE := Lib.hid ((hgr.block E (lt_of_block (by exact hE.out)) (fun e => hER (Option.some.inj e))).trans (by exact hE.out)); have hZ := Lib.hid ((hgr.block w.heap.size (lt_of_block (by exact hZ.out)) (fun e => hZR (Option.some.inj e))).trans (by exact hZ.out)); have hO := Lib.hid (World.ownsRow.kept (w := _) (by first | exact hO.out | exact hO.out.drew) hgr (.inr (fun e => absurd (hO.out.lt R e).1 (by omega)))); have hBz := Nat.le_trans hBz hgr.size; have c3 := below_cell (Below.refl _ w7) hE.out 3 rfl; have c3a := fun o : Obj => (World.cell?_of_block (a := ⟨E, 3, none⟩) (Below.heap_alloc w7 o E (lt_of_block hE.out))).trans c3; go_simp)
          | (refine step_push (m := 1) (c := 1) (Operand.tmp 16) (Operand.tmp 28) 34 42 [.int .i64 (numA s P0 2), .int .i64 (numA s (P0 + 2) 2), .int .i64 (numA s (P0 + 2 + 2) 2), .int .i64 (numA s (P0 + 2 + 2 + 2) 2), .int .i64 (numA s (P0 + 2 + 2 + 2 + 2) 2)] (hO.out.alloc _) ((Below.refl _ _).alloc hBz _) hBz Try.underlying34 hNI hzI0 hzI1 hzI2 rfl (by decide) (by rfl) (by rfl) (by rfl) (by rfl) (cells_new _ [.int .i64 (numA s P0 2), .int .i64 (numA s (P0 + 2) 2), .int .i64 (numA s (P0 + 2 + 2) 2), .int .i64 (numA s (P0 + 2 + 2 + 2) 2), .int .i64 (numA s (P0 + 2 + 2 + 2 + 2) 2)] 42) (by rfl) (by intro u hu; simp only [List.mem_cons, List.not_mem_nil, or_false] at hu; rcases hu with rfl | rfl | rfl | rfl | rfl <;> rfl) ⟨by omega, by omega⟩ ?_; intro v8 w8 hown8 hb8 hgr8; obtain ⟨ta8, tc8, rfl, _⟩ := own_formS hown8; have hE8 := (hb8.block E (by omega)).trans hE.out; have hE8c := below_cell (Below.refl _ w8) hE8 3 rfl; have hE8f := block_frozen hE8 3)
          | fail)
        all_goals
          have hE9 := Lib.hid (block_set hE8 3 (.slice ta8 (j + 1) tc8))
          have hZ9 := Lib.hid ((Below.heap_setCell w8 ⟨E, 3, none⟩ (.slice ta8 (j + 1) tc8) w.heap.size (by show w.heap.size ≠ E; omega)).trans ((hb8.block _ (by omega)).trans hZ.out))
          have hO9 := Lib.hid (ownsRow_setCell_below (a := ⟨E, 3, none⟩) hown8 (by show E < E + 1; omega) (.slice ta8 (j + 1) tc8))
          have hg9 := Lib.hid (grown_new (below_grown hgT.out hb8 (by omega)) (E := E) (by omega) 3 (.slice ta8 (j + 1) tc8))
          have hrd9 : Rd R s (a1 + 5 + 10 * (j + 1)) (w8.setCell ⟨E, 3, none⟩ (.slice ta8 (j + 1) tc8)) := by
            rw [show a1 + 5 + 10 * (j + 1) = P0 + 2 + 2 + 2 + 2 + 2 by have := HP0.out; omega]
            exact (Below.heap_setCell w8 ⟨E, 3, none⟩ _ R (by show R ≠ E; omega)).trans ((hb8.block R (by omega)).trans hrd)
          have hBz9 : E + 1 ≤ (w8.setCell ⟨E, 3, none⟩ (.slice ta8 (j + 1) tc8)).heap.size := by rw [World.size_setCell]; exact Nat.le_trans hBz hb8.size
          have hcs : vrCells (versL s (a1 + 5) (j + 1)) = vrCells (versL s (a1 + 5) j) ++ [.int .i64 (numA s P0 2), .int .i64 (numA s (P0 + 2) 2), .int .i64 (numA s (P0 + 2 + 2) 2), .int .i64 (numA s (P0 + 2 + 2 + 2) 2), .int .i64 (numA s (P0 + 2 + 2 + 2 + 2) 2)] := by
            rw [versL_snoc, vrCells_snoc, HP0.out]; rfl
          have hpos9 : a1 + 5 + 10 * (j + 1) ≤ s.size := by have := HP0.out; omega
          rw [← hcs] at hO9
          clear hE8c hE8f hE8 hb8 hgr8 hown8 hE hZ hO hgT c3 c3a hrd hcs hBz
          go_wp2_with fail
          go_roundw
          case rel => exact ⟨j + 1, _, by omega, by go_num, hpos9, hrd9, hBz9, hg9, hZ9, hE9, hO9⟩
          case measure => simp [intOf]; omega
      · have hN : PR = none := by rw [HPR.out, if_neg (by omega)]
        subst hN
        clear HPR hP0
        have hways : (s.size < P0 + 2) ∨ (P0 + 2 ≤ s.size ∧ s.size < P0 + 4) ∨ (P0 + 4 ≤ s.size ∧ s.size < P0 + 6) ∨ (P0 + 6 ≤ s.size ∧ s.size < P0 + 8) ∨ (P0 + 8 ≤ s.size ∧ s.size < P0 + 10) := by omega
        clear h10
        rcases hways with k1 | ⟨k0, k1⟩ | ⟨k0, k1⟩ | ⟨k0, k1⟩ | ⟨k0, k1⟩
        all_goals
          go_upto_region 4 with fail
          go_region_law (first
            | (go_simp; go_at_call 24; refine (rdNumber_ok s _ 2 R _ (by exact hrd) hs (by omega) (by omega) (by omega)).mono ?_; rintro e' w7 ⟨rfl, hrd, hgr⟩; have hgT := Lib.hid (show w.grownBy w7 (some R) from (by first | exact grown_trans hgT.out hgr | exact grown_trans hgT.out (grown_drew hgr))); have hE := Lib.hid ((hgr.block E (lt_of_block (by exact hE.out)) (fun e => hER (Option.some.inj e))).trans (by exact hE.out)); have hZ := Lib.hid ((hgr.block w.heap.size (lt_of_block (by exact hZ.out)) (fun e => hZR (Option.some.inj e))).trans (by exact hZ.out)); have hO := Lib.hid (World.ownsRow.kept (w := _) (by first | exact hO.out | exact hO.out.drew) hgr (.inr (fun e => absurd (hO.out.lt R e).1 (by omega)))); have hBz := Nat.le_trans hBz hgr.size; have c3 := below_cell (Below.refl _ w7) hE.out 3 rfl; have c3a := fun o : Obj => (World.cell?_of_block (a := ⟨E, 3, none⟩) (Below.heap_alloc w7 o E (lt_of_block hE.out))).trans c3; go_simp)
            | (go_simp; go_at_call 24; refine (rdNumber_bad s _ 2 R _ (by exact hrd) hs (by omega) (by omega) (by omega) (by omega)).mono ?_; rintro e' w7 ⟨rfl, hgr⟩; have hgT := Lib.hid (show w.grownBy w7 (some R) from (by first | exact grown_trans hgT.out hgr | exact grown_trans hgT.out (grown_drew hgr))); go_simp; refine as_any _ ⟨#[], []⟩ w7 ?_)
            | fail)
          all_goals
            exact And.intro rfl (show BadPost R w (.panicked endP) w7 from ⟨rfl, hgT.out⟩)
    · obtain rfl : j = c := by omega
      have hnl : ¬ (j : Int) < j := by omega
      rw [if_pos hpos] at HPR
      obtain rfl := HPR.out
      clear HPR
      have c0 := below_cell (Below.refl _ wr) hE.out 0 rfl
      have c1 := below_cell (Below.refl _ wr) hE.out 1 rfl
      have c2 := below_cell (Below.refl _ wr) hE.out 2 rfl
      have c3 := below_cell (Below.refl _ wr) hE.out 3 rfl
      have z0 := below_cell (Below.refl _ wr) hZ.out 0 rfl
      have z1 := below_cell (Below.refl _ wr) hZ.out 1 rfl
      have z2 := below_cell (Below.refl _ wr) hZ.out 2 rfl
      have z3 := below_cell (Below.refl _ wr) hZ.out 3 rfl
      have f0 := block_frozen hZ.out 0
      have f1 := block_frozen hZ.out 1
      have f2 := block_frozen hZ.out 2
      have f3 := block_frozen hZ.out 3
      have HSET := Lib.hid (block_set (block_set (block_set (block_set hZ.out 0 (.string name)) 1 (.int .i64 cur)) 2 (.int .i64 nxt)) 3 (.slice ta j tc))
      have HGF := Lib.hid (grown_new (grown_new (grown_new (grown_new hgT.out (E := w.heap.size) (Nat.le_refl _) 0 (.string name)) (E := w.heap.size) (Nat.le_refl _) 1 (.int .i64 cur)) (E := w.heap.size) (Nat.le_refl _) 2 (.int .i64 nxt)) (E := w.heap.size) (Nat.le_refl _) 3 (.slice ta j tc))
      have hzE : w.heap.size < E + 1 := by omega
      have HOF := Lib.hid (ownsRow_setCell_below (a := ⟨w.heap.size, 3, none⟩) (ownsRow_setCell_below (a := ⟨w.heap.size, 2, none⟩) (ownsRow_setCell_below (a := ⟨w.heap.size, 1, none⟩) (ownsRow_setCell_below (a := ⟨w.heap.size, 0, none⟩) hO.out hzE (.string name)) hzE (.int .i64 cur)) hzE (.int .i64 nxt)) hzE (.slice ta j tc))
      have hrdF : Rd R s (a1 + 5 + 10 * j) ((((wr.setCell ⟨w.heap.size, 0, none⟩ (.string name)).setCell ⟨w.heap.size, 1, none⟩ (.int .i64 cur)).setCell ⟨w.heap.size, 2, none⟩ (.int .i64 nxt)).setCell ⟨w.heap.size, 3, none⟩ (.slice ta j tc)) := by
        unfold Rd
        rw [Below.heap_setCell _ _ _ _ (by show R ≠ w.heap.size; omega), Below.heap_setCell _ _ _ _ (by show R ≠ w.heap.size; omega), Below.heap_setCell _ _ _ _ (by show R ≠ w.heap.size; omega), Below.heap_setCell _ _ _ _ (by show R ≠ w.heap.size; omega)]
        exact hrd
      go_wp2_with fail
      refine bodyPost_ret (results_cell_row rfl _ _ w.heap.size _ _ _ _ rfl HSET.out Try.underlying36 rfl (by kernel_rfl)) rfl ?_
      refine ⟨_, rfl, ?_, hrdF, HGF.out⟩
      have hh := HOF.out
      show World.ownsRow _ _ _ _ _ (versL s (a1 + 5) j).length (vrCells (versL s (a1 + 5) j))
      rw [versL_len]
      exact own_base hh (by omega)
end Go.Proofs.Ytfpfcjgdihlieaa
