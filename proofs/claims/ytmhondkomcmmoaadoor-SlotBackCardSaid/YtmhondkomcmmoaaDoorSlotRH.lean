/- slot.ReadHead. -/
import Derived.Test.YtmhondkomcmmoaaDoorSlotR
import Derived.Test.YtmhondkomcmmoaaDoorSlotH
import Derived.Deep.RegionLaw
namespace Go.Proofs.YtmhondkomcmmoaaDoor
open Go.RowKit
set_option linter.unusedVariables false

/-- 's = append(s, t...)' as a step of a region that draws -/
theorem step_push {P : Program} {ops : Array Oper} {o : Oper} {a : Act} {K : Act → World → Prop} {Q : Exit → Act → World → Prop} {E : Prop} {w w0 : World}
    (s x : Operand) (t : TypeId) (e : TypeId) {i : TypeInfo} {z : Value} {size bytes m c : Nat} {base : Nat} {v : Value} {n : Nat} {xs : List Value} {ad : Addr} (news : List Value)
    (hown : w.ownsRow base e size v n xs) (hbel : Below base w0 w) (hbase : base ≤ w0.heap.size)
    (ht : P.underlying t = some (.slice e)) (hi : P.info? e = some i) (hz : i.zero = some z)
    (hsize : i.size = size) (hby : i.bytes = bytes) (hzs : z.cells.size = size) (hsz : 0 < size)
    (hgd : o.guard = none) (ho : o.op = .call { callee := .builtin .append, args := #[s, x], argTypes := #[t, t] })
    (hs : a.eval s = v) (hx : a.eval x = .slice (some ad) m c) (hc : ∀ j u, news[j]? = some u → w.cell? (ad.add j) = some u)
    (hl : news.length = m * size) (h1 : ∀ u ∈ news, u.oneCell' = true)
    (hroom : n + m ≤ 17592186044416 ∧ (n + m) * bytes ≤ 140737488355328)
    (h : ∀ v' w', w'.ownsRow base e size v' (n + m) (xs ++ news) → Below base w0 w' → K (a.put o.dst v') w') :
    if Region.wanted o (yielded ops a.tmps) = true then Oper.wp P o a w K Q else E := by
  rw [if_pos (by simp [Region.wanted, hgd])]
  exact wp_append_own w s x t ho base e i z size bytes ht hi hz hsize hby hzs hsz v n xs hs hown ad m c news hx hl hc h1 (by unfold maxLen; omega) hroom.2 (Nat.le_trans hbase hbel.size)
    fun v' w' h2 h3 _ => h v' w' h2 (hbel.grown h3 (Nat.le_trans hbase hbel.size) (fun k hk => (hown.lt k hk).1))
theorem own_form1' {w : World} {base : Nat} {e : TypeId} {v : Value} {n : Nat} {xs : List Value} (h : w.ownsRow base e 1 v n xs) : ∃ A c, v = .slice A n c := by
  obtain ⟨A, c, rfl, _⟩ := own_form1 h
  exact ⟨A, c, rfl⟩
theorem own_keepB {w w' : World} {B base : Nat} {e : TypeId} {size : Nat} {v : Value} {n : Nat} {xs : List Value} (h : w.ownsRow base e size v n xs) (hb : Below w.heap.size w w') (hB : B ≤ w.heap.size) : w'.ownsRow base e size v n xs :=
  h.kept (row := none) ⟨hb.os, hb.tape, hb.output, hb.size, fun i hi _ => hb.block i hi⟩ (Classical.em _)
structure Hd where
  epoch : Int
  seq : Int
  tgt : List Int
  deriving DecidableEq
def IsHd (w : World) (v : Value) (h : Hd) : Prop := ∃ tv, v = .agg #[.int .i64 h.epoch, .int .i64 h.seq, tv] ∧ Reads1 encI w tv h.tgt
theorem IsHd.below {w w' : World} {v : Value} {h : Hd} (hh : IsHd w v h) (hb : Below w.heap.size w w') : IsHd w' v h := by
  obtain ⟨tv, rfl, hr⟩ := hh
  exact ⟨tv, rfl, hr.below hb⟩
def tgtL (s : ByteArray) (n : Nat) : List Int := (List.range n).map fun i => (partN s (9 + 2 * i) 2 : Int)
theorem tgtL_len (s : ByteArray) (n : Nat) : (tgtL s n).length = n := by simp [tgtL]
theorem tgtL_snoc (s : ByteArray) (n : Nat) : tgtL s (n + 1) = tgtL s n ++ [(partN s (9 + 2 * n) 2 : Int)] := by
  simp [tgtL, List.range_succ]
/-- the head that a text tells -/
def headOf (s : ByteArray) : Hd := ⟨(partN s 1 6 : Nat), (partN s 7 1 : Nat), tgtL s (partN s 8 1)⟩
def Hd.ok (h : Hd) : Bool := headOk h.epoch h.seq h.tgt
def Hd.bytes (h : Hd) : ByteArray := layS (headL h.epoch h.seq h.tgt)
def headIs (s : ByteArray) : Prop := (headOf s).ok = true ∧ (headOf s).bytes = s
instance (s : ByteArray) : Decidable (headIs s) := by unfold headIs; exact inferInstance
def headV (s : ByteArray) : Hd := if headIs s then headOf s else ⟨0, 0, []⟩
def headE (s : ByteArray) : Int := if headIs s then 0 else 4
theorem infoI : (Tryd.prog.info? 3).map (fun i => (i.zero, i.size, i.bytes)) = some (some (.int .i64 0), 1, 8) := by kernel_rfl
theorem HNF (wr : World) (p k B T R A : Nat) (hTR : T ≠ R) (hAR : A ≠ R) {o oA : Obj} {s : ByteArray} {t : TypeId} {e : TypeId} {v : Value} {n : Nat} {xs : List Value} (hT : wr.heap[T]? = some o) (hR : wr.heap[R]? = some (.cells #[.string s, .int .i64 ((p : Nat) : Int)] t (0, 0))) (hA : wr.heap[A]? = some oA)
    (hO : wr.ownsRow B e 1 v n xs) (hRB : R < B) (hBw : B ≤ wr.heap.size) :
    ∀ w7, Below wr.drew.heap.size (wr.drew.setCell ⟨R, 1, none⟩ (.int .i64 ((p : Int) + ((k : Nat) : Int)))) w7 →
      w7.heap[T]? = some o ∧ w7.heap[R]? = some (.cells #[.string s, .int .i64 ((p + k : Nat) : Int)] t (0, 0)) ∧ w7.heap[A]? = some oA ∧ w7.ownsRow B e 1 v n xs ∧ B ≤ w7.heap.size ∧ T < w7.heap.size := by
  intro w7 hb
  have lT := (Array.getElem?_eq_some_iff.1 hT).1
  have lA := (Array.getElem?_eq_some_iff.1 hA).1
  have lR := (Array.getElem?_eq_some_iff.1 hR).1
  have hsz : wr.heap.size ≤ w7.heap.size := by have := hb.size; rw [World.size_setCell] at this; exact this
  refine ⟨?_, ?_, ?_, ?_, by omega, by omega⟩
  · exact ((hb.block T lT).trans (Below.heap_setCell wr.drew ⟨R, 1, none⟩ _ T hTR)).trans hT
  · have := (hb.block R lR).trans (block_set (w := wr.drew) hR 1 (.int .i64 ((p : Int) + ((k : Nat) : Int))))
    rw [Int.natCast_add]
    exact this
  · exact ((hb.block A lA).trans (Below.heap_setCell wr.drew ⟨R, 1, none⟩ _ A hAR)).trans hA
  · exact own_keepB (ownsRow_setCell_below (a := ⟨R, 1, none⟩) hO.drew hRB _) (hb.mono (by rw [World.size_setCell]; exact Nat.le_refl _)) (by rw [World.size_setCell]; exact hBw)
set_option maxRecDepth 100000 in
set_option maxHeartbeats 2000000 in
theorem slotReadHead_any (s : ByteArray) (w : World) (hs : s.size ≤ 2000) :
    Calls Tryd.prog 20 #[.string s] w fun e w' => ∃ v', e = .returned (.tuple #[v', .int .i64 (headE s)]) ∧ IsHd w' v' (headV s) ∧ Below w.heap.size w w' := by
  obtain ⟨i0, hi, hz0, hz1, hz2⟩ := info_parts infoI
  have hA := heap_alloc_new w (.cells #[.int .i64 0, .int .i64 0, .slice none 0 0] 24)
  have hw := (Below.refl w.heap.size w).alloc (Nat.le_refl _) (.cells #[.int .i64 0, .int .i64 0, .slice none 0 0] 24)
  have hn8 := partN_lt s 8 1
  have HN := Lib.hid (fun R u hR => slotNumber_any R 1 6 s u hR (by omega) (by omega) (by omega) hs)
  have HN2 := Lib.hid (fun R u hR => slotNumber_any R 7 1 s u hR (by omega) (by omega) (by omega) hs)
  have HN3 := Lib.hid (fun R u hR => slotNumber_any R 8 1 s u hR (by omega) (by omega) (by omega) hs)
  have HNT := Lib.hid (fun (i : Nat) (hi : i ≤ 300) R u hR => slotNumber_any R (9 + 2 * i) 2 s u hR (by omega) (by omega) (by omega) hs)
  have hV : headV s = if headIs s then headOf s else ⟨0, 0, []⟩ := rfl
  have hE : headE s = if headIs s then 0 else 4 := rfl
  have hS : headIs s ↔ (headOk (partN s 1 6 : Nat) (partN s 7 1 : Nat) (tgtL s (partN s 8 1)) = true ∧ layS (headL (partN s 1 6 : Nat) (partN s 7 1 : Nat) (tgtL s (partN s 8 1))) = s) := Iff.rfl
  have hO : headOf s = ⟨(partN s 1 6 : Nat), (partN s 7 1 : Nat), tgtL s (partN s 8 1)⟩ := rfl
  go_enter Tryd.func20, Tryd.ntmps20
  go_wp2_with fail
  refine (slotNumbers_any s _).mono ?_
  rintro e w2 ⟨rfl, rfl⟩
  have hA2 := (heap_alloc_old _ (.cells #[.string s, .int .i64 1] 73) (Array.getElem?_eq_some_iff.1 hA).1).trans hA
  have hR2 := heap_alloc_new (w.alloc (.cells #[.int .i64 0, .int .i64 0, .slice none 0 0] 24)) (.cells #[.string s, .int .i64 1] 73)
  have hw2 := hw.alloc hw.size (.cells #[.string s, .int .i64 1] 73)
  rw [World.size_alloc] at hR2 ⊢
  obtain ⟨w2, hW2⟩ : ∃ w2, (w.alloc (.cells #[.int .i64 0, .int .i64 0, .slice none 0 0] 24)).alloc (.cells #[.string s, .int .i64 1] 73) = w2 := ⟨_, rfl⟩
  rw [hW2] at hA2 hR2 hw2 ⊢
  clear hW2 hA hw
  have hne : w.heap.size ≠ w.heap.size + 1 := by omega
  go_wp2_with fail
  refine (HN.out _ w2 hR2).mono ?_
  rintro e w3 ⟨rfl, hb3⟩
  have hA3 := ((hb3.block _ (Array.getElem?_eq_some_iff.1 hA2).1).trans (Below.heap_setCell w2 ⟨w.heap.size + 1, 1, none⟩ (.int .i64 (1 + 6)) w.heap.size hne)).trans hA2
  have hR3 := (hb3.block _ (Array.getElem?_eq_some_iff.1 hR2).1).trans (block_set hR2 1 (.int .i64 (1 + 6)))
  have hw3 := (hw2.setCell (p := ⟨w.heap.size + 1, 1, none⟩) (by simp) (.int .i64 (1 + 6))).trans (hb3.mono (by have := hw2.size; simpa using this))
  clear hA2 hR2 hw2 hb3 HN
  go_wp2_with fail
  refine (HN2.out _ w3 hR3).mono ?_
  rintro e w4 ⟨rfl, hb4⟩
  have hA4 := ((hb4.block _ (Array.getElem?_eq_some_iff.1 hA3).1).trans (Below.heap_setCell w3 ⟨w.heap.size + 1, 1, none⟩ (.int .i64 (7 + 1)) w.heap.size hne)).trans hA3
  have hR4 := (hb4.block _ (Array.getElem?_eq_some_iff.1 hR3).1).trans (block_set hR3 1 (.int .i64 (7 + 1)))
  have hw4 := (hw3.setCell (p := ⟨w.heap.size + 1, 1, none⟩) (by simp) (.int .i64 (7 + 1))).trans (hb4.mono (by have := hw3.size; simpa using this))
  clear hA3 hR3 hw3 hb4 HN2
  generalize partN s 1 6 = E at *
  generalize partN s 7 1 = S at *
  go_upto_region 3 with fail
  have hT5 := heap_alloc_new w4 (.cells #[.int .i64 (E : Nat), .int .i64 (S : Nat), .slice none 0 0] 24)
  have hA5 := (heap_alloc_old w4 (.cells #[.int .i64 (E : Nat), .int .i64 (S : Nat), .slice none 0 0] 24) (Array.getElem?_eq_some_iff.1 hA4).1).trans hA4
  have hR5 := (heap_alloc_old w4 (.cells #[.int .i64 (E : Nat), .int .i64 (S : Nat), .slice none 0 0] 24) (Array.getElem?_eq_some_iff.1 hR4).1).trans hR4
  have hw5 : Below w.heap.size w (w4.alloc (.cells #[.int .i64 (E : Nat), .int .i64 (S : Nat), .slice none 0 0] 24)) := hw4.alloc hw4.size _
  have hRT : w.heap.size + 1 < w4.heap.size := (Array.getElem?_eq_some_iff.1 hR4).1
  obtain ⟨w5, hW5⟩ : ∃ w5, w4.alloc (.cells #[.int .i64 (E : Nat), .int .i64 (S : Nat), .slice none 0 0] 24) = w5 := ⟨_, rfl⟩
  obtain ⟨T, hTT⟩ : ∃ T, w4.heap.size = T := ⟨_, rfl⟩
  rw [hW5] at hA5 hR5 hw5 hT5 ⊢
  rw [hTT] at hT5 hRT ⊢
  clear hW5 hTT hA4 hR4 hw4
  go_wp2_with fail
  refine (HN3.out _ w5 hR5).mono ?_
  rintro e w6 ⟨rfl, hb6⟩
  have hneT : T ≠ w.heap.size + 1 := by omega
  have hA6 := ((hb6.block _ (Array.getElem?_eq_some_iff.1 hA5).1).trans (Below.heap_setCell w5 ⟨w.heap.size + 1, 1, none⟩ (.int .i64 (8 + 1)) w.heap.size hne)).trans hA5
  have hT6 := ((hb6.block _ (Array.getElem?_eq_some_iff.1 hT5).1).trans (Below.heap_setCell w5 ⟨w.heap.size + 1, 1, none⟩ (.int .i64 (8 + 1)) T hneT)).trans hT5
  have hR6 := (hb6.block _ (Array.getElem?_eq_some_iff.1 hR5).1).trans (block_set hR5 1 (.int .i64 (8 + 1)))
  have hw6 := (hw5.setCell (p := ⟨w.heap.size + 1, 1, none⟩) (by simp) (.int .i64 (8 + 1))).trans (hb6.mono (by have := hw5.size; simpa using this))
  clear hA5 hR5 hw5 hT5 hb6 HN3
  rw [show (256 : Nat) ^ 1 = 256 by decide] at hn8
  generalize partN s 8 1 = n at *
  have hnI : (n : Int) ≤ 255 := by omega
  have hown6 := World.ownsRow_nil w6 w6.heap.size 3 1
  have hTb : T < w6.heap.size := (Array.getElem?_eq_some_iff.1 hT6).1
  have hRb : w.heap.size + 1 < w6.heap.size := by omega
  obtain ⟨B, hB⟩ : ∃ B, w6.heap.size = B := ⟨_, rfl⟩
  rw [hB] at hown6 hTb hRb
  have hBs : B ≤ w6.heap.size := by omega
  clear hB
  go_wp2_with fail
  have HA6 := Lib.hid hA6; have HT6 := Lib.hid hT6; have HR6 := Lib.hid hR6; have HO6 := Lib.hid hown6
  clear hA6 hT6 hR6 hown6
  go_loopw [17] (fun z wr => ∃ (i : Nat) (tv : Value), i ≤ n ∧ z = .int .i64 i ∧ wr.heap[T]? = some (.cells #[.int .i64 (E : Nat), .int .i64 (S : Nat), tv] 24 (0, 0)) ∧ wr.ownsRow B 3 1 tv i ((tgtL s i).map encI) ∧ wr.heap[w.heap.size + 1]? = some (.cells #[.string s, .int .i64 ((9 + 2 * i : Nat) : Int)] 73 (0, 0)) ∧ wr.heap[w.heap.size]? = some (.cells #[.int .i64 0, .int .i64 0, .slice none 0 0] 24 (0, 0)) ∧ B ≤ wr.heap.size ∧ Below w.heap.size w wr) (fun z _ => n - (intOf z).toNat)
  case atStart => exact ⟨0, _, by omega, rfl, HT6.out, HO6.out, HR6.out, HA6.out, hBs, hw6⟩
  case round =>
    clear HA6 HT6 HR6 HO6 hw6 hBs
    obtain ⟨i, tv, hin, rfl, hT, hown, hR, hA, hBr, hwr⟩ := hrel
    by_cases hlt : i < n
    · have hltI : (i : Int) < n := by omega
      have HT := Lib.hid hT; have HO := Lib.hid hown; have HR := Lib.hid hR; have HA := Lib.hid hA
      have HC := Lib.hid (HNT.out i (by omega) (w.heap.size + 1) wr.drew hR)
      have hsn := tgtL_snoc s i
      generalize partN s (9 + 2 * i) 2 = X at *
      have HSN := Lib.hid hsn
      obtain ⟨ta, tc, rfl⟩ := own_form1' hown
      have hc2 := below_cell (Below.refl _ wr) hT 2 rfl
      clear hsn hT hown hR hA
      have hstep := HNF wr (9 + 2 * i) 2 B T (w.heap.size + 1) w.heap.size hneT (by omega) HT.out HR.out HA.out HO.out hRb hBr
      have HST := Lib.hid hstep
      clear hstep
      go_upto_region 5 with fail
      go_region_law (first
        | (go_simp; go_at_call 42; refine HC.out.mono ?_; rintro e w7 ⟨rfl, hb7⟩; obtain ⟨hT7, hR7, hA7, hown7, hsz7, hTl⟩ := HST.out w7 hb7; have ht7 := below_cell (Below.refl _ w7) hT7 2 rfl; go_simp)
        | (refine step_push (m := 1) (c := 1) (Operand.tmp 20) (Operand.tmp 23) 22 3 [encI (X : Nat)] (own_keepB hown7 ((Below.refl _ w7).alloc (Nat.le_refl _) (.cells #[.int .i64 (X : Nat)] 3)) hsz7) (Below.refl B _) (by simp; omega) Tryd.underlying22 hi hz0 hz1 hz2 rfl (by decide) (by rfl) (by rfl) (by rfl) (by rfl) (cells_new w7 [encI (X : Nat)] 3) (by rfl) (by intro u hu; rw [List.mem_singleton.1 hu]; rfl) ⟨by omega, by omega⟩ ?_; intro v8 w8 hown8 hb8; obtain ⟨ta8, tc8, rfl⟩ := own_form1' hown8; have hT8 := (hb8.block _ hTb).trans ((heap_alloc_old w7 (.cells #[.int .i64 (X : Nat)] 3) hTl).trans hT7); have ht8 := below_cell (Below.refl _ w8) hT8 2 rfl; have hf8 := block_frozen hT8 2)
        | fail)
      all_goals
        have hT9 := block_set hT8 2 (.slice ta8 (i + 1) tc8)
        have hb78 := ((Below.refl B w7).alloc hsz7 (.cells #[.int .i64 (X : Nat)] 3)).trans hb8
        have hw8 : Below w.heap.size w w8 := ((hwr.drew.setCell (p := ⟨w.heap.size + 1, 1, none⟩) (by simp) (.int .i64 (((9 + 2 * i : Nat) : Int) + ((2 : Nat) : Int)))).trans (hb7.mono hwr.size)).trans (hb78.mono (by omega))
        have hA9 := (Below.heap_setCell w8 ⟨T, 2, none⟩ (.slice ta8 (i + 1) tc8) w.heap.size (by show w.heap.size ≠ T; omega)).trans ((hb78.block _ (by omega)).trans hA7)
        have hR9 := (Below.heap_setCell w8 ⟨T, 2, none⟩ (.slice ta8 (i + 1) tc8) (w.heap.size + 1) (by show w.heap.size + 1 ≠ T; omega)).trans ((hb78.block _ hRb).trans hR7)
        have hown9 := ownsRow_setCell_below (a := ⟨T, 2, none⟩) hown8 hTb (.slice ta8 (i + 1) tc8)
        have hw9 := hw8.setCell (p := ⟨T, 2, none⟩) (show w.heap.size ≤ T by omega) (.slice ta8 (i + 1) tc8)
        have hsz9 : B ≤ (w8.setCell ⟨T, 2, none⟩ (.slice ta8 (i + 1) tc8)).heap.size := by rw [World.size_setCell]; exact Nat.le_trans hsz7 hb78.size
        have H9 := Lib.hid (And.intro hT9 (And.intro hA9 (And.intro hR9 hown9)))
        clear hT9 hA9 hR9 hown9 hb78 hw8 ht8 hf8 hT8 hown8 hb8 hT7 hR7 hA7 hown7 ht7 hb7
        go_wp2_with fail
        go_roundw
        case rel =>
          obtain ⟨r1, r2, r3, r4⟩ := H9.out
          refine ⟨i + 1, _, by omega, by go_num, r1, ?_, ?_, r2, hsz9, hw9⟩
          · rw [HSN.out, List.map_append]; exact r4
          · rw [show 9 + 2 * (i + 1) = 9 + 2 * i + 2 by omega]; exact r3
        case measure => simp [intOf]; omega
    · obtain rfl : i = n := by omega
      obtain ⟨ta, tc, rfl⟩ := own_form1' hown
      have hrd : Reads1 encI wr (.slice ta i tc) (tgtL s i) := own_reads1 hown (tgtL_len s i)
      have htl := tgtL_len s i
      have HV := Lib.hid hV; have HE := Lib.hid hE; have HS := Lib.hid hS; have HO := Lib.hid hO
      have HRD := Lib.hid hrd
      generalize tgtL s i = L at *
      have hown' := hown
      clear hV hE hS hO hown hrd hlt hR
      have t0 := below_cell (Below.refl _ wr) hT 0 rfl
      have t1 := below_cell (Below.refl _ wr) hT 1 rfl
      have t2 := below_cell (Below.refl _ wr) hT 2 rfl
      by_cases hok : headOk (E : Nat) (S : Nat) L = true
      · go_wp2_with fail
        refine (slotHead_ok (E : Nat) (S : Nat) (.slice ta i tc) L wr HRD.out hok).mono ?_
        rintro e w5 ⟨rfl, hb5⟩
        have hA5 := (hb5.block _ (Array.getElem?_eq_some_iff.1 hA).1).trans hA
        have hT5 := (hb5.block _ (Array.getElem?_eq_some_iff.1 hT).1).trans hT
        have hw5 := hwr.trans (hb5.mono hwr.size)
        have hrd5 := HRD.out.below hb5
        have hown5 := own_keepB hown' hb5 hBr
        clear t0 t1 t2 hA hT hwr hb5
        have t0 := below_cell (Below.refl _ w5) hT5 0 rfl
        have t1 := below_cell (Below.refl _ w5) hT5 1 rfl
        have t2 := below_cell (Below.refl _ w5) hT5 2 rfl
        by_cases heq : layS (headL (E : Nat) (S : Nat) L) = s
        · have his : headIs s := HS.out.2 ⟨hok, heq⟩
          have e1 : headV s = ⟨(E : Nat), (S : Nat), L⟩ := by rw [HV.out, if_pos his, HO.out]
          have e2 : headE s = 0 := by rw [HE.out, if_pos his]
          rw [heq]
          have HE1 := Lib.hid e1; have HE2 := Lib.hid e2
          have a0 := below_cell (Below.refl _ w5) hA5 0 rfl
          have a1 := below_cell (Below.refl _ w5) hA5 1 rfl
          have a2 := below_cell (Below.refl _ w5) hA5 2 rfl
          have f0 := block_frozen hA5 0
          have f1 := block_frozen hA5 1
          have f2 := block_frozen hA5 2
          have hset := block_set (block_set (block_set hA5 0 (.int .i64 (E : Nat))) 1 (.int .i64 (S : Nat))) 2 (.slice ta i tc)
          have HSET := Lib.hid hset
          have hw6 := ((hw5.setCell (p := ⟨w.heap.size, 0, none⟩) (Nat.le_refl _) (.int .i64 (E : Nat))).setCell (p := ⟨w.heap.size, 1, none⟩) (Nat.le_refl _) (.int .i64 (S : Nat))).setCell (p := ⟨w.heap.size, 2, none⟩) (Nat.le_refl _) (.slice ta i tc)
          have hWB : w.heap.size < B := by omega
          have hown6 := ownsRow_setCell_below (a := ⟨w.heap.size, 2, none⟩) (ownsRow_setCell_below (a := ⟨w.heap.size, 1, none⟩) (ownsRow_setCell_below (a := ⟨w.heap.size, 0, none⟩) hown5 hWB (.int .i64 (E : Nat))) hWB (.int .i64 (S : Nat))) hWB (.slice ta i tc)
          have HR6 := Lib.hid (own_reads1 hown6 htl)
          clear e1 e2 his heq hset hok hown6 hown5 hrd5
          go_wp2_with fail
          refine bodyPost_ret (results_row_tmp rfl _ _ w.heap.size _ _ _ _ rfl HSET.out Tryd.underlying24 rfl (by kernel_rfl)) rfl ⟨.agg #[.int .i64 (E : Nat), .int .i64 (S : Nat), .slice ta i tc], ?_, ?_, hw6⟩
          · rw [HE2.out]
            first | rfl | (simp; done)
          · rw [HE1.out]
            exact ⟨_, rfl, HR6.out⟩
        · have his : ¬ headIs s := fun h => heq (HS.out.1 h).2
          have e1 : headV s = ⟨0, 0, []⟩ := by rw [HV.out, if_neg his]
          have e2 : headE s = 4 := by rw [HE.out, if_neg his]
          have hne' := ba_tne heq
          have HE1 := Lib.hid e1; have HE2 := Lib.hid e2
          clear e1 e2 his heq hok
          have a0 := below_cell (Below.refl _ w5) hA5 0 rfl
          have a1 := below_cell (Below.refl _ w5) hA5 1 rfl
          have a2 := below_cell (Below.refl _ w5) hA5 2 rfl
          have f0 := block_frozen hA5 0
          have f1 := block_frozen hA5 1
          have f2 := block_frozen hA5 2
          have hset := block_set (block_set (block_set hA5 0 (.int .i64 0)) 1 (.int .i64 0)) 2 (.slice none 0 0)
          have HSET := Lib.hid hset
          have hw6 := ((hw5.setCell (p := ⟨w.heap.size, 0, none⟩) (Nat.le_refl _) (.int .i64 0)).setCell (p := ⟨w.heap.size, 1, none⟩) (Nat.le_refl _) (.int .i64 0)).setCell (p := ⟨w.heap.size, 2, none⟩) (Nat.le_refl _) (.slice none 0 0)
          clear hset
          go_wp2_with fail
          refine bodyPost_ret (results_row_tmp rfl _ _ w.heap.size _ _ _ _ rfl HSET.out Tryd.underlying24 rfl (by kernel_rfl)) rfl ⟨.agg #[.int .i64 0, .int .i64 0, .slice none 0 0], ?_, ?_, hw6⟩
          · rw [HE2.out]
            first | rfl | (simp; done)
          · rw [HE1.out]
            exact ⟨_, rfl, _, _, _, rfl, rfl, Nat.le_refl _, by omega, .inl rfl⟩
      · have his : ¬ headIs s := fun h => hok (HS.out.1 h).1
        have hok' : headOk (E : Nat) (S : Nat) L = false := by cases h : headOk (E : Nat) (S : Nat) L with | true => exact absurd h hok | false => rfl
        have e1 : headV s = ⟨0, 0, []⟩ := by rw [HV.out, if_neg his]
        have e2 : headE s = 4 := by rw [HE.out, if_neg his]
        have HE1 := Lib.hid e1; have HE2 := Lib.hid e2
        clear e1 e2 his hok
        go_wp2_with fail
        refine (slotHead_bad (E : Nat) (S : Nat) (.slice ta i tc) L wr HRD.out hok').mono ?_
        rintro e w5 ⟨rfl, hb5⟩
        have hA5 := (hb5.block _ (Array.getElem?_eq_some_iff.1 hA).1).trans hA
        have hw5 := hwr.trans (hb5.mono hwr.size)
        clear t0 t1 t2 hA hT hwr hb5 hok'
        have a0 := below_cell (Below.refl _ w5) hA5 0 rfl
        have a1 := below_cell (Below.refl _ w5) hA5 1 rfl
        have a2 := below_cell (Below.refl _ w5) hA5 2 rfl
        have f0 := block_frozen hA5 0
        have f1 := block_frozen hA5 1
        have f2 := block_frozen hA5 2
        have hset := block_set (block_set (block_set hA5 0 (.int .i64 0)) 1 (.int .i64 0)) 2 (.slice none 0 0)
        have HSET := Lib.hid hset
        have hw6 := ((hw5.setCell (p := ⟨w.heap.size, 0, none⟩) (Nat.le_refl _) (.int .i64 0)).setCell (p := ⟨w.heap.size, 1, none⟩) (Nat.le_refl _) (.int .i64 0)).setCell (p := ⟨w.heap.size, 2, none⟩) (Nat.le_refl _) (.slice none 0 0)
        clear hset
        go_wp2_with fail
        refine bodyPost_ret (results_row_tmp rfl _ _ w.heap.size _ _ _ _ rfl HSET.out Tryd.underlying24 rfl (by kernel_rfl)) rfl ⟨.agg #[.int .i64 0, .int .i64 0, .slice none 0 0], ?_, ?_, hw6⟩
        · rw [HE2.out]
          first | rfl | (simp; done)
        · rw [HE1.out]
          exact ⟨_, rfl, _, _, _, rfl, rfl, Nat.le_refl _, by omega, .inl rfl⟩
end Go.Proofs.YtmhondkomcmmoaaDoor
