/- The reference's step of any machine. -/
import Derived.Test.YtpdaenpcgcjmjaaRef11D
import Derived.Test.YtpdaenpcgcjmjaaRef11E
import Derived.Test.YtpdaenpcgcjmjaaRef11F
import Derived.Test.YtpdaenpcgcjmjaaRef11H
namespace Go.Proofs.Ytpdaenpcgcjmjaa
open Go.RowKit
set_option linter.unusedVariables false

theorem ref_step (c : Nat) (hc : c ∈ codeList) (r : RM) (A : Option Addr) (len cap : Nat) (b off i k : Nat) (jt jf : Int) (rec : ByteArray) (w : World) (hr : r.cells.length = 16) (hrs : r.mach.small) (hs : rec.size = 64) (hat : r.at' = (i : Int)) (hlt : i < len) (hlen : len ≤ 1000000)
    (hb : b < w.heap.size) (hi : InsAt w b (off + i * 4) ⟨c, jt, jf, k⟩) (hk : k ≤ 4294967295) (ht : -9223372036854775808 ≤ jt ∧ jt ≤ 9223372036854775807) (hf : -9223372036854775808 ≤ jf ∧ jf ≤ 9223372036854775807) :
    Calls Try.prog 17 #[.agg r.arr, .slice (some ⟨b, off, none⟩) len cap, .string rec] w fun e w' => e = .returned (.agg ((deedD r.mach c k jt jf).runR rec { r with at' := r.at' + 1 }).arr) ∧ Below w.heap.size w w' := by
  unfold codeList at hc
  simp only [List.mem_cons, List.not_mem_nil, or_false] at hc
  rcases hc with rfl | rfl | rfl | rfl | rfl | rfl | rfl | rfl | rfl | rfl | rfl | rfl | rfl | rfl | rfl | rfl | rfl | rfl | rfl | rfl | rfl | rfl | rfl | rfl | rfl | rfl | rfl | rfl | rfl | rfl | rfl | rfl | rfl | rfl | rfl | rfl | rfl | rfl | rfl | rfl | rfl
  · exact ref_step32 r A len cap b off i k jt jf rec w hr hrs hs hat hlt hlen hb hi hk ht hf
  · exact ref_step128 r A len cap b off i k jt jf rec w hr hrs hs hat hlt hlen hb hi hk ht hf
  · exact ref_step0 r A len cap b off i k jt jf rec w hr hrs hs hat hlt hlen hb hi hk ht hf
  · exact ref_step96 r A len cap b off i k jt jf rec w hr hrs hs hat hlt hlen hb hi hk ht hf
  · exact ref_step1 r A len cap b off i k jt jf rec w hr hrs hs hat hlt hlen hb hi hk ht hf
  · exact ref_step97 r A len cap b off i k jt jf rec w hr hrs hs hat hlt hlen hb hi hk ht hf
  · exact ref_step129 r A len cap b off i k jt jf rec w hr hrs hs hat hlt hlen hb hi hk ht hf
  · exact ref_step2 r A len cap b off i k jt jf rec w hr hrs hs hat hlt hlen hb hi hk ht hf
  · exact ref_step3 r A len cap b off i k jt jf rec w hr hrs hs hat hlt hlen hb hi hk ht hf
  · exact ref_step4 r A len cap b off i k jt jf rec w hr hrs hs hat hlt hlen hb hi hk ht hf
  · exact ref_step20 r A len cap b off i k jt jf rec w hr hrs hs hat hlt hlen hb hi hk ht hf
  · exact ref_step36 r A len cap b off i k jt jf rec w hr hrs hs hat hlt hlen hb hi hk ht hf
  · by_cases h0 : k = 0
    · exact ref_step52z r A len cap b off i k jt jf rec w hr hrs hs hat hlt hlen hb hi hk ht hf h0
    · exact ref_step52n r A len cap b off i k jt jf rec w hr hrs hs hat hlt hlen hb hi hk ht hf h0 _ rfl
  · exact ref_step68 r A len cap b off i k jt jf rec w hr hrs hs hat hlt hlen hb hi hk ht hf
  · exact ref_step84 r A len cap b off i k jt jf rec w hr hrs hs hat hlt hlen hb hi hk ht hf
  · exact ref_step100 r A len cap b off i k jt jf rec w hr hrs hs hat hlt hlen hb hi hk ht hf
  · exact ref_step116 r A len cap b off i k jt jf rec w hr hrs hs hat hlt hlen hb hi hk ht hf
  · exact ref_step132 r A len cap b off i k jt jf rec w hr hrs hs hat hlt hlen hb hi hk ht hf
  · exact ref_step164 r A len cap b off i k jt jf rec w hr hrs hs hat hlt hlen hb hi hk ht hf
  · exact ref_step12 r A len cap b off i k jt jf rec w hr hrs hs hat hlt hlen hb hi hk ht hf
  · exact ref_step28 r A len cap b off i k jt jf rec w hr hrs hs hat hlt hlen hb hi hk ht hf
  · exact ref_step44 r A len cap b off i k jt jf rec w hr hrs hs hat hlt hlen hb hi hk ht hf
  · by_cases h0 : r.x = 0
    · exact ref_step60z r A len cap b off i k jt jf rec w hr hrs hs hat hlt hlen hb hi hk ht hf h0
    · exact ref_step60n r A len cap b off i k jt jf rec w hr hrs hs hat hlt hlen hb hi hk ht hf h0 _ rfl
  · exact ref_step76 r A len cap b off i k jt jf rec w hr hrs hs hat hlt hlen hb hi hk ht hf
  · exact ref_step92 r A len cap b off i k jt jf rec w hr hrs hs hat hlt hlen hb hi hk ht hf
  · exact ref_step108 r A len cap b off i k jt jf rec w hr hrs hs hat hlt hlen hb hi hk ht hf
  · exact ref_step124 r A len cap b off i k jt jf rec w hr hrs hs hat hlt hlen hb hi hk ht hf
  · exact ref_step172 r A len cap b off i k jt jf rec w hr hrs hs hat hlt hlen hb hi hk ht hf
  · exact ref_step5 r A len cap b off i k jt jf rec w hr hrs hs hat hlt hlen hb hi hk ht hf
  · by_cases hB : jumpB 21 r.a k = true
    · exact ref_step21t r A len cap b off i k jt jf rec w hr hrs hs hat hlt hlen hb hi hk ht hf hB _ rfl
    · exact ref_step21f r A len cap b off i k jt jf rec w hr hrs hs hat hlt hlen hb hi hk ht hf (Bool.eq_false_iff.2 hB) _ rfl
  · by_cases hB : jumpB 37 r.a k = true
    · exact ref_step37t r A len cap b off i k jt jf rec w hr hrs hs hat hlt hlen hb hi hk ht hf hB _ rfl
    · exact ref_step37f r A len cap b off i k jt jf rec w hr hrs hs hat hlt hlen hb hi hk ht hf (Bool.eq_false_iff.2 hB) _ rfl
  · by_cases hB : jumpB 53 r.a k = true
    · exact ref_step53t r A len cap b off i k jt jf rec w hr hrs hs hat hlt hlen hb hi hk ht hf hB _ rfl
    · exact ref_step53f r A len cap b off i k jt jf rec w hr hrs hs hat hlt hlen hb hi hk ht hf (Bool.eq_false_iff.2 hB) _ rfl
  · by_cases hB : jumpB 69 r.a k = true
    · exact ref_step69t r A len cap b off i k jt jf rec w hr hrs hs hat hlt hlen hb hi hk ht hf hB _ rfl
    · exact ref_step69f r A len cap b off i k jt jf rec w hr hrs hs hat hlt hlen hb hi hk ht hf (Bool.eq_false_iff.2 hB) _ rfl
  · by_cases hB : jumpB 21 r.a r.x = true
    · exact ref_step29t r A len cap b off i k jt jf rec w hr hrs hs hat hlt hlen hb hi hk ht hf hB _ rfl
    · exact ref_step29f r A len cap b off i k jt jf rec w hr hrs hs hat hlt hlen hb hi hk ht hf (Bool.eq_false_iff.2 hB) _ rfl
  · by_cases hB : jumpB 37 r.a r.x = true
    · exact ref_step45t r A len cap b off i k jt jf rec w hr hrs hs hat hlt hlen hb hi hk ht hf hB _ rfl
    · exact ref_step45f r A len cap b off i k jt jf rec w hr hrs hs hat hlt hlen hb hi hk ht hf (Bool.eq_false_iff.2 hB) _ rfl
  · by_cases hB : jumpB 53 r.a r.x = true
    · exact ref_step61t r A len cap b off i k jt jf rec w hr hrs hs hat hlt hlen hb hi hk ht hf hB _ rfl
    · exact ref_step61f r A len cap b off i k jt jf rec w hr hrs hs hat hlt hlen hb hi hk ht hf (Bool.eq_false_iff.2 hB) _ rfl
  · by_cases hB : jumpB 69 r.a r.x = true
    · exact ref_step77t r A len cap b off i k jt jf rec w hr hrs hs hat hlt hlen hb hi hk ht hf hB _ rfl
    · exact ref_step77f r A len cap b off i k jt jf rec w hr hrs hs hat hlt hlen hb hi hk ht hf (Bool.eq_false_iff.2 hB) _ rfl
  · exact ref_step6 r A len cap b off i k jt jf rec w hr hrs hs hat hlt hlen hb hi hk ht hf
  · exact ref_step22 r A len cap b off i k jt jf rec w hr hrs hs hat hlt hlen hb hi hk ht hf
  · exact ref_step7 r A len cap b off i k jt jf rec w hr hrs hs hat hlt hlen hb hi hk ht hf
  · exact ref_step135 r A len cap b off i k jt jf rec w hr hrs hs hat hlt hlen hb hi hk ht hf
set_option maxRecDepth 100000 in
set_option maxHeartbeats 1000000 in
theorem ref_step_bad (r : RM) (a : Option Addr) (len cap : Nat) (rec : ByteArray) (w : World) (hr : r.cells.length = 16) (hlen : len ≤ 1000000)
    (h : r.at' < 0 ∨ (len : Int) ≤ r.at' ∨ ∃ b off i ins, a = some ⟨b, off, none⟩ ∧ b < w.heap.size ∧ r.at' = ((i : Nat) : Int) ∧ i < len ∧ InsAt w b (off + i * 4) ins ∧ insKnown ins.code = false) :
    Calls Try.prog 17 #[.agg r.arr, .slice a len cap, .string rec] w fun e w' => e = .returned (.agg ({ r with wrong := true } : RM).arr) ∧ Below w.heap.size w w' := by
  have hm : StepsE w ((w.alloc (Obj.cells r.arr 45)).alloc (Obj.cells #[.int .u32 0, .int .u32 0, .int .u32 0, .int .u32 0, .int .u32 0, .int .u32 0, .int .u32 0, .int .u32 0, .int .u32 0, .int .u32 0, .int .u32 0, .int .u32 0, .int .u32 0, .int .u32 0, .int .u32 0, .int .u32 0, .int .u32 0, .int .u32 0, .int .i64 0, .int .u32 0, .bool false, .bool false] 45)) r := by
    refine ⟨⟨(heap_alloc_old _ _ (by simp)).trans (heap_alloc_new w _), hr⟩, ?_, alloc2 w _ _⟩
    have := heap_alloc_new (w.alloc (Obj.cells r.arr 45)) (Obj.cells rm0.arr 45)
    rwa [World.size_alloc] at this
  obtain ⟨r0, r1, q18, r19, r20, r21⟩ := hm.m.facts
  have HM := Lib.hid hm
  have hlenI : (len : Int) ≤ 1000000 := by omega
  have fz := block_frozen hm.m.blk 21
  have hE : StepsE w (((w.alloc (Obj.cells r.arr 45)).alloc (Obj.cells #[.int .u32 0, .int .u32 0, .int .u32 0, .int .u32 0, .int .u32 0, .int .u32 0, .int .u32 0, .int .u32 0, .int .u32 0, .int .u32 0, .int .u32 0, .int .u32 0, .int .u32 0, .int .u32 0, .int .u32 0, .int .u32 0, .int .u32 0, .int .u32 0, .int .i64 0, .int .u32 0, .bool false, .bool false] 45)).setCell ⟨w.heap.size, 21, none⟩ (.bool true)) { r with wrong := true } := hm.set 21 _ (hm.m.setWrong true)
  have HE0 := Lib.hid hE
  have hsz := rarr_size { r with wrong := true } hm.m.len
  have hI : (Try.prog.info? 45).map (fun i => i.size) = some (RM.arr { r with wrong := true }).size := by rw [hsz]; exact infoRM
  have H1 := Lib.hid hI
  have H2 := Lib.hid (rarr_one { r with wrong := true })
  have hso : rm0.arr.size = (RM.arr { r with wrong := true }).size := by rw [hsz]; rfl
  have H3 := Lib.hid hso
  have HBL := Lib.hid hE.m.blk
  clear hE hsz hI hso hm
  generalize hRR : RM.arr { r with wrong := true } = R at *
  have HRR := Lib.hid hRR
  clear hRR
  rcases h with h | h | ⟨b, off, i, ins, rfl, hb, hat, hlt, hi, hkn⟩
  case' inl =>
    go_enter Try.func17, Try.ntmps17
    go_upto_region 2 with fail
  case' inr.inl =>
    have h0 : ¬ r.at' < 0 := by omega
    have h0' : (0 : Int) ≤ r.at' := by omega
    go_enter Try.func17, Try.ntmps17
    go_upto_region 2 with fail
  case' inr.inr =>
    have a1 : Below w.heap.size w ((w.alloc (Obj.cells r.arr 45)).alloc (Obj.cells #[.int .u32 0, .int .u32 0, .int .u32 0, .int .u32 0, .int .u32 0, .int .u32 0, .int .u32 0, .int .u32 0, .int .u32 0, .int .u32 0, .int .u32 0, .int .u32 0, .int .u32 0, .int .u32 0, .int .u32 0, .int .u32 0, .int .u32 0, .int .u32 0, .int .i64 0, .int .u32 0, .bool false, .bool false] 45)) := alloc2 w _ _
    obtain ⟨c0, c1, c2, c3⟩ := hi.below a1 hb
    rw [hat] at q18
    have hiI : (i : Int) ≤ 1000000 := by omega
    have hltI : (i : Int) < len := by omega
    have HK := Lib.hid (fun u => refKnown_any ins.code u)
    rw [hkn] at HK
    clear hkn hi hat a1
    go_enter Try.func17, Try.ntmps17
    go_wp2_with fail
    refine (HK.out _).mono ?_
    rintro e w5 ⟨rfl, rfl⟩
    go_upto_region 2 with fail
  all_goals
    generalize ((w.alloc (Obj.cells r.arr 45)).alloc (Obj.cells #[.int .u32 0, .int .u32 0, .int .u32 0, .int .u32 0, .int .u32 0, .int .u32 0, .int .u32 0, .int .u32 0, .int .u32 0, .int .u32 0, .int .u32 0, .int .u32 0, .int .u32 0, .int .u32 0, .int .u32 0, .int .u32 0, .int .u32 0, .int .u32 0, .int .i64 0, .int .u32 0, .bool false, .bool false] 45)) = wA at *
    go_upto_region 3 with fail
    generalize wA.setCell ⟨w.heap.size, 21, none⟩ (.bool true) = wB at *
    clear fz r0 r1 q18 r19 r20 r21
    go_wp2_with (first | (refine wpList_load_row rfl 45 _ rfl w.heap.size rfl 45 R (0, 0) _ HBL.out Try.underlying45 rfl H1.out ?_) | (refine wpList_store_row rfl 45 _ _ rfl (w.heap.size + 1) R rfl rfl 45 rm0.arr HE0.out.o H1.out H3.out H2.out ?_))
    refine bodyPost_ret (v := .agg R) (results_cell_row rfl _ _ (w.heap.size + 1) 45 R (0, 0) _ rfl (setRow_heap _ _ _ _ _ _ HE0.out.o) Try.underlying45 rfl H1.out) rfl ⟨rfl, ?_⟩
    exact below_setRow HE0.out.b (by omega) _
theorem ref_step_any (l : List Ins) (v : Value) (r : RM) (rec : ByteArray) (w : World) (hl : IsInsns w v l) (hN : l.length ≤ 1000000) (hr : r.cells.length = 16) (hrs : r.mach.small) (hs : rec.size = 64) :
    Calls Try.prog 17 #[.agg r.arr, v, .string rec] w fun e w' => e = .returned (.agg (stepR l rec r).arr) ∧ Below w.heap.size w w' := by
  obtain ⟨a, len, cap, rfl, hlen, hcap, hcm, hbd, hat⟩ := hl
  unfold stepR
  by_cases hin : 0 ≤ r.at' ∧ r.at' < l.length
  · obtain ⟨i, hi⟩ := Int.eq_ofNat_of_zero_le hin.1
    have hlt : i < len := by omega
    obtain ⟨b, off, rfl, hb, hat⟩ := hat.resolve_left (by omega)
    have hi2 := hat i hlt
    have hbi : (l.getD i insZ).bounded := by
      rw [List.getD_eq_getElem?_getD, List.getElem?_eq_getElem (by omega)]
      exact hbd _ (List.getElem_mem _)
    have hti : r.at'.toNat = i := by omega
    rw [hti]
    generalize l.getD i insZ = ins at *
    by_cases hk : insKnown ins.code = true
    · rw [if_pos ⟨hin.1, hin.2, hk⟩]
      obtain ⟨c, jt, jf, k⟩ := ins
      obtain ⟨bc, bt, bf, bk, bk1⟩ := hbi
      obtain ⟨cn, rfl, hcn⟩ := known_code c hk
      obtain ⟨k, rfl⟩ := Int.eq_ofNat_of_zero_le bk
      exact ref_step cn hcn r none len cap b off i k jt jf rec w hr hrs hs hi hlt (by omega) hb hi2 (by simp only at bk1; omega) bt bf
    · rw [if_neg (fun h => hk h.2.2)]
      exact ref_step_bad r _ len cap rec w hr (by omega) (.inr (.inr ⟨b, off, i, ins, rfl, hb, hi, hlt, hi2, Bool.eq_false_iff.2 hk⟩))
  · rw [if_neg (fun h => hin ⟨h.1, h.2.1⟩)]
    exact ref_step_bad r a len cap rec w hr (by omega) (by omega)
end Go.Proofs.Ytpdaenpcgcjmjaa
