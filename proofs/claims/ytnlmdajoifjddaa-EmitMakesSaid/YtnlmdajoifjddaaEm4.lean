/- emit.Assemble. -/
import Derived.Test.YtnlmdajoifjddaaEm3
namespace Go.Proofs.Ytnlmdajoifjddaa
open Go.RowKit Go.ChangeShapes
set_option linter.unusedVariables false

theorem asmA_drop (l : List Stp) (j : Nat) (h : j < l.length) : asmA (l.drop j) = (asmA (l.drop (j + 1))).bind fun s => s.step (l.getD j stpZ) := by
  rw [List.drop_eq_getElem_cons h]
  show (asmA (l.drop (j + 1))).bind _ = _
  rw [show l.getD j stpZ = l[j] from by simp [List.getD, h]]
theorem asmA_none (l : List Stp) : ∀ j, asmA (l.drop j) = none → asmA l = none
  | 0, h => h
  | j + 1, h => by
    by_cases hj : j < l.length
    · refine asmA_none l j ?_
      rw [asmA_drop l j hj, h]
      rfl
    · rw [List.drop_of_length_le (by omega)] at h
      cases h
theorem made_ins (n : Nat) : madeCells #[.int .i64 0, .int .i64 0, .int .i64 0, .int .u32 0] (n * 4) = (insCells (List.replicate n insZ)).toArray := by
  apply Array.toList_inj.1
  apply List.ext_getElem?
  intro i
  by_cases hi : i < n * 4
  · have h1 : (insCells (List.replicate n insZ))[i]? = insZ.cells[i % 4]? := by
      have := insCells_at (List.replicate n insZ) (i / 4) (i % 4) (by rw [List.length_replicate]; omega) (by omega)
      rw [show i / 4 * 4 + i % 4 = i by omega] at this
      rw [this]
      simp [List.getD, show i / 4 < n by omega]
    rw [show (insCells (List.replicate n insZ)).toArray.toList = insCells (List.replicate n insZ) from rfl, h1]
    have h4 : i % 4 = 0 ∨ i % 4 = 1 ∨ i % 4 = 2 ∨ i % 4 = 3 := by omega
    simp only [madeCells, Array.toList_map, Array.toList_range, List.getElem?_map]
    rw [List.getElem?_range hi]
    rcases h4 with h | h | h | h <;> simp [h, insZ, Ins.cells]
  · rw [List.getElem?_eq_none (by simp [madeCells]; omega), List.getElem?_eq_none (by simp [insCells_len]; omega)]
def AsmPost (l : List Stp) (e : Ending) (w' : World) : Prop :=
  match asmA l with
  | none => e = .returned (.tuple #[.slice none 0 0, .int .i64 1])
  | some s => if 4096 < s.c.length then e = .returned (.tuple #[.slice none 0 0, .int .i64 64]) else ∃ g, e = .returned (.tuple #[.slice (some ⟨g, 0, none⟩) s.c.length s.c.length, .int .i64 0]) ∧ IsIns w' (.slice (some ⟨g, 0, none⟩) s.c.length s.c.length) s.c
theorem AsmPost.of_none {l : List Stp} {w' : World} (h : asmA l = none) : AsmPost l (.returned (.tuple #[.slice none 0 0, .int .i64 1])) w' := by unfold AsmPost; rw [h]
set_option maxRecDepth 100000 in
set_option maxHeartbeats 2000000 in
theorem emAssemble_any (l : List Stp) (v : Value) (w : World) (hl : IsOps w v l) (hN : l.length ≤ 100000) :
    Calls Try.prog 9 #[v] w fun e w' => AsmPost l e w' ∧ Below w.heap.size w w' := by
  obtain ⟨iI, hiI, hzI0, hzI1, hzI2⟩ := info_parts infoInsn
  have hl0 := hl
  obtain ⟨a, len, cap, rfl, hlen, hcap, hcm, hbd, hnil, hat⟩ := hl
  have hsz := sizeL_le l
  obtain ⟨N, hNs⟩ : ∃ N, sizeL l = N := ⟨_, rfl⟩
  have hN3 : N ≤ 300000 := by omega
  have hNI : (N : Int) ≤ 300000 := by omega
  have hlI : (len : Int) ≤ 100000 := by omega
  have hS := fun u hu => emSize_any l (.slice a len cap) u hu hN
  rw [hNs] at hS
  have hmk : ∀ u : World, (Instr.makeSlice 24 (.int .i64 (N : Int)) (.int .i64 (N : Int))).run Try.prog u = .ok (.slice (some ⟨u.heap.size, 0, none⟩) N N) (u.alloc (.cells (insCells (List.replicate N insZ)).toArray 44)) := fun u => by
    have h := run_make (P := Try.prog) u 24 44 iI (.agg #[.int .i64 0, .int .i64 0, .int .i64 0, .int .u32 0]) Try.underlying24 hiI hzI0 .i64 .i64 N N (by omega) (Int.le_refl _) (by rw [hzI2]; omega) (by omega)
    simpa [hzI1, Value.cells, made_ins] using h
  have hk : ∀ j, j < len → (l.getD j stpZ).k ≤ 4294967295 := fun j hj => by
    have : (l.getD j stpZ).bounded := by
      rw [List.getD_eq_getElem?_getD, List.getElem?_eq_getElem (by omega)]
      exact hbd _ (List.getElem_mem _)
    exact this.2.1
  have hall : ∀ o ∈ l, o.k ≤ 4294967295 := fun o ho => (hbd o ho).2.1
  have HL := Lib.hid hl0; have HS := Lib.hid hS; have HAT := Lib.hid hat; have HLEN := Lib.hid hlen; have HK := Lib.hid hk; have HNS := Lib.hid hNs; have HALL := Lib.hid hall
  clear hl0 hS hat hlen hk hNs hall hbd hnil hiI hzI0 hzI1 hzI2
  have hmm := @run_makeMap Try.prog
  go_enter Try.func9, Try.ntmps9
  go_wp2_with fail
  refine (HS.out _ (HL.out.below ((Below.refl _ w).alloc (Nat.le_refl _) _))).mono ?_
  rintro e w2 ⟨rfl, hb2⟩
  have hm2 : HoldsMap i64Keys w2 w.heap.size (fun _ => none) := (HoldsMap.new i64Keys w).of_block (hb2.block _ (by simp))
  have hw2 := ((Below.refl _ w).alloc (Nat.le_refl _) (.map #[] 0)).trans (hb2.mono (by simp))
  have hlt2 : w.heap.size < w2.heap.size := hm2.lt
  have HM2 := Lib.hid hm2; have HW2 := Lib.hid hw2
  clear hb2 hm2 hw2
  go_upto_region 3 with fail
  have hwr : Wr ((w2.alloc (Obj.cells #[.slice (some ⟨w2.heap.size + 1, 0, none⟩) N N, .int .i64 (N : Int), .map (some w.heap.size)] 50)).alloc (Obj.cells (insCells (List.replicate N insZ)).toArray 44)) w2.heap.size (w2.heap.size + 1) w.heap.size N asm0 := by
    refine ⟨?_, ?_, ?_, Nat.zero_le _, asm0_ok, by omega, by omega, by omega⟩
    · exact (heap_alloc_old _ _ (by simp)).trans (heap_alloc_new w2 _)
    · have := heap_alloc_new (w2.alloc (Obj.cells #[.slice (some ⟨w2.heap.size + 1, 0, none⟩) N N, .int .i64 (N : Int), .map (some w.heap.size)] 50)) (Obj.cells (insCells (List.replicate N insZ)).toArray 44)
      rw [World.size_alloc] at this
      rw [this]
      show some (Obj.cells (insCells (List.replicate N insZ)).toArray _ _) = some (Obj.cells (insCells (List.replicate (N - 0) insZ ++ [])).toArray _ _)
      rw [Nat.sub_zero, List.append_nil]
    · exact ((HM2.out.alloc (Obj.cells #[.slice (some ⟨w2.heap.size + 1, 0, none⟩) N N, .int .i64 (N : Int), .map (some w.heap.size)] 50)).alloc (Obj.cells (insCells (List.replicate N insZ)).toArray 44)).congr fun T => rfl
  have hb3 : Below w.heap.size w ((w2.alloc (Obj.cells #[.slice (some ⟨w2.heap.size + 1, 0, none⟩) N N, .int .i64 (N : Int), .map (some w.heap.size)] 50)).alloc (Obj.cells (insCells (List.replicate N insZ)).toArray 44)) := (HW2.out.alloc (by omega) _).alloc (by simp; omega) _
  generalize (w2.alloc (Obj.cells #[.slice (some ⟨w2.heap.size + 1, 0, none⟩) N N, .int .i64 (N : Int), .map (some w.heap.size)] 50)).alloc (Obj.cells (insCells (List.replicate N insZ)).toArray 44) = w3 at *
  have HWR := Lib.hid hwr; have HB3 := Lib.hid hb3
  have e1 : w.heap.size ≤ w2.heap.size := by omega
  have e2 : w.heap.size ≤ w2.heap.size + 1 := by omega
  generalize w2.heap.size + 1 = gI at *
  generalize w2.heap.size = gW at *
  clear hwr hb3 HM2 HW2 hmm hmk
  go_wp2_with fail
  go_loopw [5] (fun z wr => ∃ (j : Nat) (s : Asm), z = .int .i64 ((j : Int) - 1) ∧ j ≤ len ∧ asmA (l.drop j) = some s ∧ Wr wr gW gI w.heap.size N s ∧ Below w.heap.size w wr) (fun z _ => (intOf z + 1).toNat)
  case atStart => exact ⟨len, asm0, rfl, Nat.le_refl _, by rw [List.drop_of_length_le (by have := HLEN.out; omega)]; rfl, HWR.out, HB3.out⟩
  case round =>
    clear HWR HB3
    obtain ⟨j, s, rfl, hj, hs, hwr, hbr⟩ := hrel
    have hlenS := (asmA_ok (l.drop j) s (fun o ho => HALL.out o (List.mem_of_mem_drop ho)) (by rw [List.length_drop]; omega) hs).2
    by_cases hlt : 0 < j
    · obtain ⟨i, rfl⟩ : ∃ i, j = i + 1 := ⟨j - 1, by omega⟩
      have hil : i < len := by omega
      obtain ⟨b, off, rfl, hb, hat⟩ := HAT.out.resolve_left (by omega)
      have hi := (hat i hil).below hbr hb
      have hk := HK.out i hil
      have hdr := asmA_drop l i (by have := HLEN.out; omega)
      rw [hs] at hdr
      have hdr2 : asmA (l.drop i) = s.step (l.getD i stpZ) := hdr
      have hfit : s.c.length + szI (l.getD i stpZ).kind ≤ N := by
        have h1 := sizeL_drop l i
        have h2 : sizeL (l.drop i) = szI (l.getD i stpZ).kind + sizeL (l.drop (i + 1)) := by
          rw [List.drop_eq_getElem_cons (by have := HLEN.out; omega), sizeL_cons]
          simp [List.getD, show i < l.length by have := HLEN.out; omega]
        have h3 := HNS.out
        omega
      have hst := fun u hu => emStep_any gW gI w.heap.size N s (l.getD i stpZ) u hu hfit (by omega) hk
      generalize l.getD i stpZ = o at *
      obtain ⟨kind, k, t, f⟩ := o
      unfold Stp.value at hst
      obtain ⟨c0, c1, c2, c3⟩ := hi
      dsimp only at hst c0 c1 c2 c3
      have hiI : (i : Int) < len := by omega
      have hci : ((i + 1 : Nat) : Int) - 1 = i := by omega
      rw [hci]
      have HDR := Lib.hid hdr2; have HWR := Lib.hid hwr; have HBR := Lib.hid hbr
      clear hdr hdr2 hfit hk hwr hbr hat hs hlenS hci hlt
      cases ho : s.step ⟨kind, k, t, f⟩ with
      | none =>
        rw [ho] at hst HDR
        have HST := Lib.hid hst
        have HN := Lib.hid (asmA_none l i HDR.out)
        clear hst ho
        go_wp2_with fail
        refine (HST.out _ HWR.out).mono ?_
        rintro e w4 ⟨rfl, hk4⟩
        have HK4 := Lib.hid (hk4.2.1 w.heap.size w e1 e2 (Nat.le_refl _) HBR.out)
        clear hk4
        go_wp2_with fail
        go_ret2
        exact ⟨AsmPost.of_none HN.out, HK4.out⟩
      | some s' =>
        rw [ho] at hst HDR
        have HST := Lib.hid hst
        clear hst ho
        go_wp2_with fail
        refine (HST.out _ HWR.out).mono ?_
        rintro e w4 ⟨rfl, hwr4, hk4⟩
        have HWR4 := Lib.hid hwr4
        have HK4 := Lib.hid (hk4.2.1 w.heap.size w e1 e2 (Nat.le_refl _) HBR.out)
        clear hk4 hwr4
        go_wp2_with fail
        go_roundw
        case rel => exact ⟨i, s', rfl, by omega, HDR.out, HWR4.out, HK4.out⟩
        case measure => simp [intOf]
    · obtain rfl : j = 0 := by omega
      have hs0 : asmA l = some s := hs
      have hlN : s.c.length = N := by rw [hlenS]; exact HNS.out
      have q0 := below_cell (v := .slice (some ⟨gI, 0, none⟩) N N) (Below.refl _ wr) hwr.wr 0 rfl
      have hins := hwr.ins
      rw [hlN, Nat.sub_self] at hins
      have hins2 : wr.heap[gI]? = some (.cells (insCells s.c).toArray 44 (0, 0)) := hins
      have hbd := hwr.ok.2
      have hI : IsIns wr (.slice (some ⟨gI, 0, none⟩) N N) s.c := by
        refine ⟨⟨_, N, N, rfl, hlN, Nat.le_refl _, by omega, hbd, ?_⟩, fun len cap h => by injection h with h; cases h⟩
        by_cases hn0 : N = 0
        · exact .inl hn0
        · refine .inr ⟨gI, 0, rfl, lt_of_block hins2, fun i hi => ?_⟩
          have hat : ∀ q u, q < 4 → (s.c.getD i insZ).cells[q]? = some u → wr.cell? ⟨gI, 0 + i * 4 + q, none⟩ = some u := fun q u hq hu => by
            refine below_cell (Below.refl _ wr) hins2 _ ?_
            rw [List.getElem?_toArray, Nat.zero_add, insCells_at s.c i q (by omega) hq]
            exact hu
          exact ⟨hat 0 _ (by omega) rfl, hat 1 _ (by omega) rfl, hat 2 _ (by omega) rfl, hat 3 _ (by omega) rfl⟩
      have HI := Lib.hid hI; have HS0 := Lib.hid hs0; have HLN := Lib.hid hlN; have HBR := Lib.hid hbr
      clear hs hs0 hlenS hins hins2 hI hbd hwr hlN hbr
      by_cases hbig : 4096 < N
      · have hbI : (4096 : Int) < N := by omega
        go_wp2_with fail
        go_ret2
        refine ⟨?_, HBR.out⟩
        unfold AsmPost
        rw [HS0.out]
        show (if 4096 < s.c.length then _ else _)
        rw [if_pos (by rw [HLN.out]; exact hbig)]
        rfl
      · have hbI : (N : Int) ≤ 4096 := by omega
        go_wp2_with fail
        go_ret2
        refine ⟨?_, HBR.out⟩
        unfold AsmPost
        rw [HS0.out]
        show (if 4096 < s.c.length then _ else _)
        rw [HLN.out, if_neg hbig]
        exact ⟨gI, rfl, HI.out⟩
end Go.Proofs.Ytnlmdajoifjddaa
