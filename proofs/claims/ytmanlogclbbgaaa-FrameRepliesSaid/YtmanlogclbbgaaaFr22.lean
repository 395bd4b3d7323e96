/- frame's reader: a line of an answer. -/
import Derived.Test.YtmanlogclbbgaaaFr21
import Derived.Test.YtmanlogclbbgaaaResRow
import Derived.Test.YtmanlogclbbgaaaLnR
import Derived.Deep.RegionLaw
import Derived.Laws.Rows
namespace Go.Proofs.Ytmanlogclbbgaaa
open Go.RowKit
set_option linter.unusedVariables false
set_option linter.unusedSimpArgs false

theorem cutP_le2 (t : ByteArray) (p : Nat) (h : cutE t p = 0) : cutP t p ≤ t.size := (cut_facts t p h).2.2.2.1
/-- 's = append(s, t...)' as a step of a region that draws -/
theorem step_push {P : Program} {ops : Array Oper} {o : Oper} {a : Act} {K : Act → World → Prop} {Q : Exit → Act → World → Prop} {E : Prop} {w w0 : World}
    (s x : Operand) (t : TypeId) (e : TypeId) {i : TypeInfo} {z : Value} {size bytes m c : Nat} {base : Nat} {v : Value} {n : Nat} {xs : List Value} {ad : Addr} (news : List Value)
    (hown : w.ownsRow base e size v n xs) (hbel : Below base w0 w) (hbase : base ≤ w0.heap.size)
    (ht : P.underlying t = some (.slice e)) (hi : P.info? e = some i) (hz : i.zero = some z)
    (hsize : i.size = size) (hby : i.bytes = bytes) (hzs : z.cells.size = size) (hsz : 0 < size)
    (hgd : o.guard = none) (ho : o.op = .call { callee := .builtin .append, args := #[s, x], argTypes := #[t, t] })
    (hs : a.eval s = v) (hx : a.eval x = .slice (some ad) m c) (hc : ∀ j u, news[j]? = some u → w.cell? (ad.add j) = some u)
    (hl : news.length = m * size) (h1 : ∀ u ∈ news, u.oneCell' = true)
    (hroom : n + m ≤ 17592186044416 ∧ (n + m) * bytes ≤ 140737488355328)
    (h : ∀ v' w', w'.ownsRow base e size v' (n + m) (xs ++ news) → Below base w0 w' → w.grownBy w' v.ownBlock → K (a.put o.dst v') w') :
    if Region.wanted o (yielded ops a.tmps) = true then Oper.wp P o a w K Q else E := by
  rw [if_pos (by simp [Region.wanted, hgd])]
  exact wp_append_own w s x t ho base e i z size bytes ht hi hz hsize hby hzs hsz v n xs hs hown ad m c news hx hl hc h1 (by unfold maxLen; omega) hroom.2 (Nat.le_trans hbase hbel.size)
    fun v' w' h2 h3 _ => h v' w' h2 (hbel.grown h3 (Nat.le_trans hbase hbel.size) (fun k hk => (hown.lt k hk).1)) h3
theorem own_base {w : World} {b b' e size : Nat} {v : Value} {n : Nat} {xs : List Value} (h : w.ownsRow b e size v n xs) (hb : b' ≤ b) : w.ownsRow b' e size v n xs := by
  refine ⟨h.1, h.2.imp id ?_⟩
  rintro ⟨g, cap, cur, rfl, hg, hr⟩
  exact ⟨g, cap, cur, rfl, Nat.le_trans hb hg, hr⟩
theorem grown_drew {w w' : World} {R : Option Nat} (h : w.drew.grownBy w' R) : w.grownBy w' R := ⟨h.os, h.tape, h.output, h.size, h.block⟩
/-- a way of a region that ends in a panic, as the region's tactic bears it -/
theorem as_any (G : Prop) (a : Act) (w : World) (h : wpAny Try.prog .any #[] (fun _ _ _ => G) 0 #[] a w) : G := h.2
theorem below_grown {B R : Nat} {w w1 w2 : World} (h1 : w.grownBy w1 (some R)) (h2 : Below B w1 w2) (hB : w.heap.size ≤ B) : w.grownBy w2 (some R) :=
  ⟨h2.os.trans h1.os, h2.tape.trans h1.tape, h2.output.trans h1.output, Nat.le_trans h1.size h2.size, fun k hk hr => (h2.block k (Nat.lt_of_lt_of_le hk hB)).trans (h1.block k hk hr)⟩
theorem grown_new {w w1 : World} {R : Nat} (h : w.grownBy w1 (some R)) {E : Nat} (hE : w.heap.size ≤ E) (j : Nat) (v : Value) : w.grownBy (w1.setCell ⟨E, j, none⟩ v) (some R) :=
  ⟨h.os, h.tape, h.output, by rw [World.size_setCell]; exact h.size, fun k hk hr => by
    rw [Below.heap_setCell _ _ _ _ (by show k ≠ E; omega)]
    exact h.block k hk hr⟩
theorem grown_alloc {w w1 : World} {R : Nat} (h : w.grownBy w1 (some R)) (o : Obj) : w.grownBy (w1.alloc o) (some R) :=
  grown_trans h (World.grownBy_alloc w1 o (some R))
theorem infoInt : (Try.prog.info? 3).map (fun i => (i.zero, i.size, i.bytes)) = some (some (.int .i64 0), 1, 8) := by kernel_rfl
def nosV (l : List Int) : List Value := l.map (Value.int .i64)
theorem numA_get (s : ByteArray) (p k : Nat) (hk : k ≤ 4) : numA s p k = (getL (cutL s p k) : Nat) := by
  have h1 := getL_lt (cutL s p k)
  have h2 : (cutL s p k).length ≤ 4 := Nat.le_trans (List.length_take_le _ _) hk
  have h3 : 256 ^ (cutL s p k).length ≤ 256 ^ 4 := Nat.pow_le_pow_right (by omega) h2
  rw [show (256 : Nat) ^ 4 = 4294967296 by decide] at h3
  unfold numA
  simp [IntKind.wrap, IntKind.signed, IntKind.bits]
  omega
theorem prNum_yes {s : ByteArray} {p k : Nat} (hk : k ≤ 4) (h : p + k ≤ s.size) : prNum s p k = some (numA s p k, p + k) := by
  unfold prNum; rw [if_pos h, numA_get s p k hk]
theorem prNum_no {s : ByteArray} {p k : Nat} (h : ¬ p + k ≤ s.size) : prNum s p k = none := by unfold prNum; rw [if_neg h]
theorem prTxt_yes {s : ByteArray} {p : Nat} (h : cutE s p = 0) : prTxt s p = some (cutS s p, cutP s p) := by unfold prTxt; rw [if_pos h]
theorem prTxt_no {s : ByteArray} {p : Nat} (h : cutE s p ≠ 0) : prTxt s p = none := by unfold prTxt; rw [if_neg h]
def concI (acc : List Int) (o : Option (List Int × Nat)) : Option (List Int × Nat) := o.map fun x => (acc ++ x.1, x.2)
theorem concI_none {s : ByteArray} {acc : List Int} {n p : Nat} (h : ¬ p + 2 ≤ s.size) : concI acc (prNos s (n + 1) p) = none := by
  rw [prNos, prNum_no h]; rfl
theorem concI_some {s : ByteArray} {acc : List Int} {n p : Nat} (h : p + 2 ≤ s.size) : concI acc (prNos s (n + 1) p) = concI (acc ++ [numA s p 2]) (prNos s n (p + 2)) := by
  rw [prNos, prNum_yes (by omega) h]
  simp only [Option.bind_some]
  unfold concI
  cases prNos s n (p + 2) with
  | none => rfl
  | some x => obtain ⟨l, r⟩ := x; simp
def LnPost (R : Nat) (s : ByteArray) (q : Nat) (ln : Ln) (w : World) (e : Ending) (w' : World) : Prop :=
  ∃ k, e = .returned (.agg #[.string ln.name, .int .i64 ln.cur, k]) ∧ w'.ownsRow w.heap.size 3 1 k ln.nos.length (nosV ln.nos) ∧ Rd R s q w' ∧ w.grownBy w' (some R)
def LPost (R : Nat) (s : ByteArray) (o : Option (Ln × Nat)) (w : World) (e : Ending) (w' : World) : Prop :=
  match o with
  | some (ln, q) => LnPost R s q ln w e w'
  | none => BadPost R w e w'
set_option maxRecDepth 100000 in
set_option maxHeartbeats 4000000 in
theorem rdLine (s : ByteArray) (p R : Nat) (w : World) (h : Rd R s p w) (hs : s.size ≤ 3000) (hpp : p ≤ 1000000) :
    Calls Try.prog 42 #[.pointer (some ⟨R, 0, none⟩)] w (LPost R s (prLn s p) w) := by
  have hRw : R < w.heap.size := lt_of_block h
  have hal := (Below.refl w.heap.size w).alloc (Nat.le_refl _) (.cells #[.string ⟨#[]⟩, .int .i64 0, .slice none 0 0] 66)
  have hrd1 : Rd R s p (w.alloc (.cells #[.string ⟨#[]⟩, .int .i64 0, .slice none 0 0] 66)) := (hal.block R hRw).trans h
  have hg1 := grown_below R hal
  have hZ1 := heap_alloc_new w (.cells #[.string ⟨#[]⟩, .int .i64 0, .slice none 0 0] 66)
  have HZ := Lib.hid hZ1; have HG := Lib.hid hg1
  clear hal hZ1 hg1 h
  have hPR : prLn s p = (prTxt s p).bind fun a => (prNum s a.2 2).bind fun b => (prNum s b.2 1).bind fun c => (prNos s c.1.toNat c.2).bind fun d => some (⟨a.1, b.1, d.1⟩, d.2) := rfl
  generalize prLn s p = PR at *
  by_cases hc : cutE s p = 0
  case neg =>
    rw [prTxt_no hc] at hPR
    have hPN : PR = none := hPR
    clear hPR
    subst hPN
    have HC := Lib.hid hc
    clear hc
    go_enter Try.func42, Try.ntmps42
    go_wp2_with fail
    refine (rdText_bad s p R _ hrd1 hs hpp HC.out).mono ?_
    rintro e' w2 ⟨rfl, hg2⟩
    go_wp2_with fail
    exact ⟨rfl, rfl, grown_trans HG.out hg2⟩
  rw [prTxt_yes hc] at hPR
  simp only [Option.bind_some] at hPR
  have ha1b := cutP_le2 s p hc
  have HT := Lib.hid (fun u hu => rdText_ok s p R u hu hs hpp hc)
  rw [show (cutT s (p : Nat)).toNat = cutP s p from rfl] at HT
  generalize cutS s (p : Nat) = name at *
  generalize cutP s p = a1 at *
  clear hc
  by_cases h2 : a1 + 2 ≤ s.size
  case neg =>
    rw [prNum_no h2] at hPR
    have hPN : PR = none := hPR
    clear hPR
    subst hPN
    go_enter Try.func42, Try.ntmps42
    go_wp2_with fail
    refine (HT.out _ hrd1).mono ?_
    rintro e' w2 ⟨rfl, hrd2, hg2⟩
    have HG2 := Lib.hid (grown_trans HG.out hg2)
    clear hg2 HG HT
    go_wp2_with fail
    refine (rdNumber_bad s a1 2 R _ hrd2 hs (by omega) (by omega) (by omega) h2).mono ?_
    rintro e' w3 ⟨rfl, hg3⟩
    go_wp2_with fail
    exact ⟨rfl, rfl, grown_trans HG2.out hg3⟩
  rw [prNum_yes (by omega) h2] at hPR
  simp only [Option.bind_some] at hPR
  obtain ⟨cur, hcur⟩ : ∃ x, numA s a1 2 = x := ⟨_, rfl⟩
  rw [hcur] at hPR
  have HCUR := Lib.hid hcur
  by_cases h3 : a1 + 2 + 1 ≤ s.size
  case neg =>
    rw [prNum_no h3] at hPR
    have hPN : PR = none := hPR
    clear hPR
    subst hPN
    go_enter Try.func42, Try.ntmps42
    go_wp2_with fail
    refine (HT.out _ hrd1).mono ?_
    rintro e' w2 ⟨rfl, hrd2, hg2⟩
    have HG2 := Lib.hid (grown_trans HG.out hg2)
    clear hg2 HG HT
    go_wp2_with fail
    refine (rdNumber_ok s a1 2 R _ hrd2 hs (by omega) (by omega) h2).mono ?_
    rw [HCUR.out]
    rintro e' w3 ⟨rfl, hrd3, hg3⟩
    have HG4 := Lib.hid (grown_trans HG2.out hg3)
    have HG5 := Lib.hid (grown_alloc HG4.out (.cells #[.string name, .int .i64 cur, .slice none 0 0] 66))
    have hrd5 : Rd R s (a1 + 2) (w3.alloc (.cells #[.string name, .int .i64 cur, .slice none 0 0] 66)) := (heap_alloc_old w3 _ (lt_of_block hrd3)).trans hrd3
    clear hg3 HG2
    go_wp2_with fail
    refine (rdNumber_bad s (a1 + 2) 1 R _ hrd5 hs (by omega) (by omega) (by omega) h3).mono ?_
    rintro e' w5 ⟨rfl, hg5⟩
    go_wp2_with fail
    exact ⟨rfl, rfl, grown_trans HG5.out hg5⟩
  rw [prNum_yes (by omega) h3] at hPR
  simp only [Option.bind_some] at hPR
  obtain ⟨c, hcc⟩ : ∃ c : Nat, numA s (a1 + 2) 1 = (c : Int) := ⟨_, numA_1 s (a1 + 2)⟩
  have hc255 : c ≤ 255 := by
    have h1 := numA_1 s (a1 + 2)
    have h2 := getL_lt (cutL s (a1 + 2) 1)
    have h3 : (cutL s (a1 + 2) 1).length ≤ 1 := List.length_take_le _ _
    have h4 : 256 ^ (cutL s (a1 + 2) 1).length ≤ 256 ^ 1 := Nat.pow_le_pow_right (by omega) h3
    rw [hcc] at h1
    omega
  rw [hcc, Int.toNat_natCast] at hPR
  have HNC := Lib.hid hcc
  have hcI : (c : Int) ≤ 255 := by omega
  obtain ⟨O, hO⟩ : ∃ O, prNos s c (a1 + 2 + 1) = O := ⟨_, rfl⟩
  rw [hO] at hPR
  have HPR := Lib.hid hPR
  have HO0 := Lib.hid (show O = concI [] (prNos s (c - 0) (a1 + 2 + 1)) from by rw [Nat.sub_zero, hO]; unfold concI; cases O <;> simp)
  clear hPR hcc hO
  go_enter Try.func42, Try.ntmps42
  go_wp2_with fail
  refine (HT.out _ hrd1).mono ?_
  rintro e' w2 ⟨rfl, hrd2, hg2⟩
  have HG2 := Lib.hid (grown_trans HG.out hg2)
  have HZ2 := Lib.hid ((hg2.block _ (lt_of_block HZ.out) (fun e => absurd (Option.some.inj e) (by omega))).trans HZ.out)
  clear hg2 HG HT HZ
  go_wp2_with fail
  refine (rdNumber_ok s a1 2 R _ hrd2 hs (by omega) (by omega) h2).mono ?_
  rw [HCUR.out]
  rintro e' w3 ⟨rfl, hrd3, hg3⟩
  have HG4 := Lib.hid (grown_trans HG2.out hg3)
  have HZ4 := Lib.hid ((hg3.block _ (lt_of_block HZ2.out) (fun e => absurd (Option.some.inj e) (by omega))).trans HZ2.out)
  clear hg3 HG2 HZ2 hcur
  have HG5 := Lib.hid (grown_alloc HG4.out (.cells #[.string name, .int .i64 cur, .slice none 0 0] 66))
  have hrd5 : Rd R s (a1 + 2) (w3.alloc (.cells #[.string name, .int .i64 cur, .slice none 0 0] 66)) := (heap_alloc_old w3 _ (lt_of_block hrd3)).trans hrd3
  have HZ5 := Lib.hid ((heap_alloc_old w3 (.cells #[.string name, .int .i64 cur, .slice none 0 0] 66) (lt_of_block HZ4.out)).trans HZ4.out)
  have HE5 := Lib.hid (heap_alloc_new w3 (.cells #[.string name, .int .i64 cur, .slice none 0 0] 66))
  have hwE : w.heap.size < w3.heap.size := lt_of_block HZ4.out
  clear HG4 HZ4 hrd3 hrd2 hrd1
  go_upto_region 2 with fail
  obtain ⟨w5, hW⟩ : ∃ w5, w3.alloc (.cells #[.string name, .int .i64 cur, .slice none 0 0] 66) = w5 := ⟨_, rfl⟩
  obtain ⟨E, hEE⟩ : ∃ E, w3.heap.size = E := ⟨_, rfl⟩
  have hBv : w5.heap.size = E + 1 := by rw [← hW, World.size_alloc, hEE]
  rw [hW] at HG5 hrd5 HZ5 HE5 ⊢
  rw [hEE] at HE5 hwE
  (try rw [hEE])
  clear hW hEE
  go_wp2_with fail
  refine (rdNumber_ok s (a1 + 2) 1 R _ hrd5 hs (by omega) (by omega) h3).mono ?_
  rw [HNC.out]
  rintro e' w6 ⟨rfl, hrd6, hg6⟩
  have HG6 := Lib.hid (grown_trans HG5.out hg6)
  have HZ6 := Lib.hid ((hg6.block _ (lt_of_block HZ5.out) (fun e => absurd (Option.some.inj e) (by omega))).trans HZ5.out)
  have HE6 := Lib.hid ((hg6.block _ (lt_of_block HE5.out) (fun e => absurd (Option.some.inj e) (by omega))).trans HE5.out)
  have hBz6 : E + 1 ≤ w6.heap.size := by have := hg6.size; omega
  have HO6 := Lib.hid (World.ownsRow_nil w6 (E + 1) 3 1)
  clear hg6 HG5 HZ5 HE5 hrd5 hBv HNC HCUR
  have hER : E ≠ R := by omega
  have hZR : w.heap.size ≠ R := by omega
  go_wp2_with fail
  go_loopw [11] (fun z wr => ∃ (j p : Nat) (tv : Value) (acc : List Int), j ≤ c ∧ z = .int .i64 j ∧ p ≤ 1000000 ∧ Rd R s p wr ∧ E + 1 ≤ wr.heap.size ∧ Hid (acc.length = j) ∧ Hid (O = concI acc (prNos s (c - j) p)) ∧ Hid (w.grownBy wr (some R)) ∧ Hid (wr.heap[w.heap.size]? = some (.cells #[.string ⟨#[]⟩, .int .i64 0, .slice none 0 0] 66 (0, 0))) ∧ Hid (wr.heap[E]? = some (.cells #[.string name, .int .i64 cur, tv] 66 (0, 0))) ∧ Hid (wr.ownsRow (E + 1) 3 1 tv j (nosV acc))) (fun z _ => c - (intOf z).toNat)
  case atStart => exact ⟨0, a1 + 2 + 1, _, [], Nat.zero_le _, rfl, by omega, hrd6, hBz6, Lib.hid rfl, HO0, HG6, HZ6, HE6, HO6⟩
  case round =>
    clear HG6 HZ6 HE6 HO6 hrd6 hBz6 HO0
    obtain ⟨j, p, tv, acc, hjc, rfl, hpp, hrd, hBz, hA, hP, hgT, hZ, hE, hO⟩ := hrel
    obtain ⟨ta, tc, rfl, _⟩ := own_formS hO.out
    by_cases hlt : j < c
    · have hltI : (j : Int) < c := by omega
      have c3 := below_cell (Below.refl _ wr) hE.out 2 rfl
      have c3a := fun o : Obj => (World.cell?_of_block (a := ⟨E, 2, none⟩) (Below.heap_alloc wr o E (lt_of_block hE.out))).trans c3
      have hcj : c - j = (c - (j + 1)) + 1 := by omega
      by_cases h10 : p + 2 ≤ s.size
      · have hP2 := Lib.hid (show O = concI (acc ++ [numA s p 2]) (prNos s (c - (j + 1)) (p + 2)) from by rw [hP.out, hcj, concI_some h10])
        clear hcj hP
        go_upto_region 4 with fail
        obtain ⟨iI, hNI, hzI0, hzI1, hzI2⟩ := info_parts infoInt
        go_region_law (first
          | (go_simp; go_at_call 29; refine (rdNumber_ok s _ 2 R _ (by exact hrd) hs (by omega) (by omega) (by omega)).mono ?_; rintro e' w7 ⟨rfl, hrd, hgr⟩; have hgT := Lib.hid (show w.grownBy w7 (some R) from (by first | exact grown_trans hgT.out hgr | exact grown_trans hgT.out (grown_drew hgr))); have hE := Lib.hid ((hgr.block E (lt_of_block (by exact hE.out)) (fun e => hER (Option.some.inj e))).trans (by exact hE.out)); have hZ := Lib.hid ((hgr.block w.heap.size (lt_of_block (by exact hZ.out)) (fun e => hZR (Option.some.inj e))).trans (by exact hZ.out)); have hO := Lib.hid (World.ownsRow.kept (w := _) (by first | exact hO.out | exact hO.out.drew) hgr (.inr (fun e => absurd (hO.out.lt R e).1 (by omega)))); have hBz := Nat.le_trans hBz hgr.size; have c3 := below_cell (Below.refl _ w7) hE.out 2 rfl; have c3a := fun o : Obj => (World.cell?_of_block (a := ⟨E, 2, none⟩) (Below.heap_alloc w7 o E (lt_of_block hE.out))).trans c3; go_simp)
          | (refine step_push (m := 1) (c := 1) (Operand.tmp 14) (Operand.tmp 17) 64 3 [.int .i64 (numA s p 2)] (hO.out.alloc _) ((Below.refl _ _).alloc hBz _) hBz Try.underlying64 hNI hzI0 hzI1 hzI2 rfl (by decide) (by rfl) (by rfl) (by rfl) (by rfl) (cells_new _ [.int .i64 (numA s p 2)] 3) (by rfl) (by intro u hu; simp only [List.mem_cons, List.not_mem_nil, or_false] at hu; rcases hu with rfl; rfl) ⟨by omega, by omega⟩ ?_; intro v8 w8 hown8 hb8 hgr8; obtain ⟨ta8, tc8, rfl, _⟩ := own_formS hown8; have hE8 := (hb8.block E (by omega)).trans hE.out; have hE8c := below_cell (Below.refl _ w8) hE8 2 rfl; have hE8f := block_frozen hE8 2)
          | fail)
        all_goals
          have hE9 := Lib.hid (block_set hE8 2 (.slice ta8 (j + 1) tc8))
          have hZ9 := Lib.hid ((Below.heap_setCell w8 ⟨E, 2, none⟩ (.slice ta8 (j + 1) tc8) w.heap.size (by show w.heap.size ≠ E; omega)).trans ((hb8.block _ (by omega)).trans hZ.out))
          have hO9 := Lib.hid (ownsRow_setCell_below (a := ⟨E, 2, none⟩) hown8 (by show E < E + 1; omega) (.slice ta8 (j + 1) tc8))
          have hg9 := Lib.hid (grown_new (below_grown hgT.out hb8 (by omega)) (E := E) (by omega) 2 (.slice ta8 (j + 1) tc8))
          have hrd9 : Rd R s (p + 2) (w8.setCell ⟨E, 2, none⟩ (.slice ta8 (j + 1) tc8)) :=
            (Below.heap_setCell w8 ⟨E, 2, none⟩ _ R (by show R ≠ E; omega)).trans ((hb8.block R (by omega)).trans hrd)
          have hBz9 : E + 1 ≤ (w8.setCell ⟨E, 2, none⟩ (.slice ta8 (j + 1) tc8)).heap.size := by rw [World.size_setCell]; exact Nat.le_trans hBz hb8.size
          have hcs : nosV (acc ++ [numA s p 2]) = nosV acc ++ [.int .i64 (numA s p 2)] := by simp [nosV]
          have hA9 : Hid ((acc ++ [numA s p 2]).length = j + 1) := Lib.hid (by rw [List.length_append, hA.out]; rfl)
          rw [← hcs] at hO9
          clear hE8c hE8f hE8 hb8 hgr8 hown8 hE hZ hO hgT c3 c3a hrd hcs hBz hNI hzI0 hzI1 hzI2
          go_wp2_with fail
          go_roundw
          case rel => exact ⟨j + 1, p + 2, _, _, by omega, by go_num, by omega, hrd9, hBz9, hA9, hP2, hg9, hZ9, hE9, hO9⟩
          case measure => simp [intOf]; omega
      · have hON : O = none := by rw [hP.out, hcj, concI_none h10]
        have hN : PR = none := by rw [HPR.out, hON]; rfl
        subst hN
        clear HPR hP hcj hON
        go_upto_region 4 with fail
        go_region_law (first
          | (go_simp; go_at_call 29; refine (rdNumber_bad s _ 2 R _ (by exact hrd) hs (by omega) (by omega) (by omega) (by omega)).mono ?_; rintro e' w7 ⟨rfl, hgr⟩; have hgT := Lib.hid (show w.grownBy w7 (some R) from (by first | exact grown_trans hgT.out hgr | exact grown_trans hgT.out (grown_drew hgr))); go_simp; refine as_any _ ⟨#[], []⟩ w7 ?_)
          | fail)
        all_goals
          exact And.intro rfl (show BadPost R w (.panicked endP) w7 from ⟨rfl, hgT.out⟩)
    · have hjcc : j = c := by omega
      subst hjcc
      have hnl : ¬ (j : Int) < j := by omega
      have hON : O = some (acc, p) := by rw [hP.out, Nat.sub_self]; simp [prNos, concI]
      have hPS : PR = some (⟨name, cur, acc⟩, p) := by rw [HPR.out, hON]; rfl
      subst hPS
      clear HPR hP
      have c0 := below_cell (Below.refl _ wr) hE.out 0 rfl
      have c1 := below_cell (Below.refl _ wr) hE.out 1 rfl
      have c2 := below_cell (Below.refl _ wr) hE.out 2 rfl
      have z0 := below_cell (Below.refl _ wr) hZ.out 0 rfl
      have z1 := below_cell (Below.refl _ wr) hZ.out 1 rfl
      have z2 := below_cell (Below.refl _ wr) hZ.out 2 rfl
      have f0 := block_frozen hZ.out 0
      have f1 := block_frozen hZ.out 1
      have f2 := block_frozen hZ.out 2
      have HSET := Lib.hid (block_set (block_set (block_set hZ.out 0 (.string name)) 1 (.int .i64 cur)) 2 (.slice ta j tc))
      have HGF := Lib.hid (grown_new (grown_new (grown_new hgT.out (E := w.heap.size) (Nat.le_refl _) 0 (.string name)) (E := w.heap.size) (Nat.le_refl _) 1 (.int .i64 cur)) (E := w.heap.size) (Nat.le_refl _) 2 (.slice ta j tc))
      have hzE : w.heap.size < E + 1 := by omega
      have HOF := Lib.hid (ownsRow_setCell_below (a := ⟨w.heap.size, 2, none⟩) (ownsRow_setCell_below (a := ⟨w.heap.size, 1, none⟩) (ownsRow_setCell_below (a := ⟨w.heap.size, 0, none⟩) hO.out hzE (.string name)) hzE (.int .i64 cur)) hzE (.slice ta j tc))
      have hrdF : Rd R s p (((wr.setCell ⟨w.heap.size, 0, none⟩ (.string name)).setCell ⟨w.heap.size, 1, none⟩ (.int .i64 cur)).setCell ⟨w.heap.size, 2, none⟩ (.slice ta j tc)) := by
        unfold Rd
        rw [Below.heap_setCell _ _ _ _ (by show R ≠ w.heap.size; omega), Below.heap_setCell _ _ _ _ (by show R ≠ w.heap.size; omega), Below.heap_setCell _ _ _ _ (by show R ≠ w.heap.size; omega)]
        exact hrd
      go_wp2_with fail
      refine bodyPost_ret (results_cell_row rfl _ _ w.heap.size _ _ _ _ rfl HSET.out Try.underlying66 rfl (by kernel_rfl)) rfl ?_
      refine ⟨_, rfl, ?_, hrdF, HGF.out⟩
      have hh := HOF.out
      show World.ownsRow _ _ _ _ _ acc.length (nosV acc)
      rw [hA.out]
      exact own_base hh (by omega)
end Go.Proofs.Ytmanlogclbbgaaa
