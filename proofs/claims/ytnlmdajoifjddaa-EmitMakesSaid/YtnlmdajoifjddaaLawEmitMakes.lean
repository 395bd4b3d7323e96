/- The walk of EmitMakes. -/
import Derived.Test.YtnlmdajoifjddaaRef21B
namespace Go.Proofs.Ytnlmdajoifjddaa.lawEmitMakes
open Go.ChangeShapes Go.WideShapes Go.ChangeAt Go.RowKit Go.Joins Go.Deep
set_option linter.unusedVariables false

def fV (l : List Stp) : List Ins := match asmA l with | none => [] | some s => if 4096 < s.c.length then [] else s.c
def fE (l : List Stp) : Int := match asmA l with | none => 1 | some s => if 4096 < s.c.length then 64 else 0
theorem nil_ins (w : World) : IsInsns w (.slice none 0 0) [] := ⟨none, 0, 0, rfl, rfl, by omega, by omega, by simp, .inl rfl⟩
theorem fE_len (l : List Stp) (hk : ∀ o ∈ l, o.k ≤ 4294967295) (hN : l.length ≤ 100000) (h : fE l = 0) : (fV l).length = sizeL l := by
  unfold fE at h
  unfold fV
  cases hs : asmA l with
  | none => rw [hs] at h; cases h
  | some s =>
    rw [hs] at h
    have h : (if 4096 < s.c.length then (64 : Int) else 0) = 0 := h
    show (if 4096 < s.c.length then [] else s.c).length = _
    split at h
    · cases h
    · rename_i hb
      rw [if_neg hb]
      exact (asmA_ok l s hk hN hs).2
theorem one {l : List Stp} {e : Ending} {w' : World} (h : AsmPost l e w') : ∃ v, e = .returned (.tuple #[v, .int .i64 (fE l)]) ∧ IsInsns w' v (fV l) := by
  unfold AsmPost at h
  unfold fE fV
  cases hs : asmA l with
  | none => rw [hs] at h; exact ⟨_, h, nil_ins _⟩
  | some s =>
    rw [hs] at h
    have h : if 4096 < s.c.length then e = .returned (.tuple #[.slice none 0 0, .int .i64 64]) else ∃ g, e = .returned (.tuple #[.slice (some ⟨g, 0, none⟩) s.c.length s.c.length, .int .i64 0]) ∧ IsIns w' (.slice (some ⟨g, 0, none⟩) s.c.length s.c.length) s.c := h
    show ∃ v, e = .returned (.tuple #[v, .int .i64 (if 4096 < s.c.length then 64 else 0)]) ∧ IsInsns w' v (if 4096 < s.c.length then [] else s.c)
    by_cases hb : 4096 < s.c.length
    · rw [if_pos hb] at h ⊢
      rw [if_pos hb]
      exact ⟨_, h, nil_ins _⟩
    · rw [if_neg hb] at h ⊢
      rw [if_neg hb]
      obtain ⟨g, h1, h2⟩ := h
      exact ⟨_, h1, h2.1⟩
theorem two {l : List Stp} {e : Ending} {w' : World} (h : RefAsmPost l e w') : ∃ v, e = .returned (.tuple #[v, .int .i64 (fE l)]) ∧ IsInsns w' v (fV l) := by
  unfold RefAsmPost at h
  unfold fE fV
  cases hs : asmA l with
  | none => rw [hs] at h; exact ⟨_, h, nil_ins _⟩
  | some s =>
    rw [hs] at h
    have h : if 4096 < s.c.length then e = .returned (.tuple #[.slice none 0 0, .int .i64 64]) else ∃ u, e = .returned (.tuple #[u, .int .i64 0]) ∧ IsInsns w' u s.c := h
    show ∃ v, e = .returned (.tuple #[v, .int .i64 (if 4096 < s.c.length then 64 else 0)]) ∧ IsInsns w' v (if 4096 < s.c.length then [] else s.c)
    by_cases hb : 4096 < s.c.length
    · rw [if_pos hb] at h ⊢
      rw [if_pos hb]
      exact ⟨_, h, nil_ins _⟩
    · rw [if_neg hb] at h ⊢
      rw [if_neg hb]
      exact h
def fewN (n : Nat) : Nat := if 200 < n ∧ n < 4096 then 200 else min n 4100
theorem fewN_le (n : Nat) : fewN n ≤ n ∧ fewN n ≤ 4100 := by unfold fewN; split <;> omega
set_option maxRecDepth 100000 in
theorem few_at (a : Option Addr) (len cap : Nat) (w : World) (h1 : len ≤ cap) (h2 : cap ≤ 9223372036854775807) :
    Calls Try.prog 8 #[.slice a len cap] w fun e w' => e = .returned (.slice a (fewN len) cap) ∧ w = w' := by
  have hncI : (len : Int) ≤ cap := by omega
  have hcI : (cap : Int) ≤ 9223372036854775807 := by omega
  by_cases hb : 200 < len ∧ len < 4096
  · have e1 : fewN len = 200 := by unfold fewN; rw [if_pos hb]
    rw [e1]
    obtain ⟨b1, b2⟩ := hb
    have b1I : (200 : Int) < len := by omega
    have b2I : (len : Int) < 4096 := by omega
    have hc0 : (200 : Int) ≤ cap := by omega
    go_enter Try.func8, Try.ntmps8
    go_wp2_with fail
    go_ret
    exact ⟨rfl, rfl⟩
  · obtain ⟨n, hn, hn1, hn2, hn3⟩ := min_if len 4100 (by omega)
    have hmi : min (len : Int) 4100 = n := by omega
    have e1 : fewN len = n := by unfold fewN; rw [if_neg hb]; omega
    have hncI2 : (n : Int) ≤ cap := by omega
    rw [e1]
    by_cases b1 : 200 < len
    · have b2 : ¬ (len : Int) < 4096 := by omega
      have b1I : (200 : Int) < len := by omega
      clear hb e1 hn3
      go_enter Try.func8, Try.ntmps8
      go_wp2_with fail
      go_ret
      exact ⟨rfl, rfl⟩
    · have b1I : ¬ (200 : Int) < len := by omega
      obtain rfl : n = len := by omega
      clear hb e1 hn3
      go_enter Try.func8, Try.ntmps8
      go_wp2_with fail
      go_ret
      exact ⟨rfl, rfl⟩
set_option maxRecDepth 100000 in
set_option maxHeartbeats 4000000 in
theorem walk (v0 : Value) (l0 : List Stp) (w : World) (w0 : IsOps w v0 l0) :
    Calls Try.prog 3 #[v0] w fun e w' => e = .returned (.bool true) ∧ Below w.heap.size w w' := by
  obtain ⟨a, len, cap, rfl, hlen, hc1, hc2, htk⟩ := w0.take
  have hF := fun u => few_at a len cap u hc1 hc2
  obtain ⟨f1, f2⟩ := fewN_le len
  obtain ⟨n, hn⟩ : ∃ n, fewN len = n := ⟨_, rfl⟩
  rw [hn] at hF f1 f2
  have hl := htk n f1
  have hll : (l0.take n).length = n := by rw [List.length_take]; omega
  generalize l0.take n = l at *
  have hncI : (n : Int) ≤ 4100 := by omega
  have hA := fun u hu => emAssemble_any l (.slice a n cap) u hu (by omega)
  have hB := fun u hu => refAssemble_any (.slice a n cap) l u hu (by omega)
  have hS1 := fun u hu => emSize_any l (.slice a n cap) u hu (by omega)
  have hS2 := fun u hu => refSize_any l (.slice a n cap) u hu (by omega)
  have hlenE := fun h => fE_len l (fun o ho => (hl.bnd o ho).2.1) (by omega) h
  have HF := Lib.hid hF; have HL := Lib.hid hl; have HLL := Lib.hid hll; have HA := Lib.hid hA; have HB := Lib.hid hB; have HS1 := Lib.hid hS1; have HS2 := Lib.hid hS2; have HLE := Lib.hid hlenE
  clear hF hl hll hA hB hS1 hS2 hlenE htk w0 hlen hn
  go_enter Try.func3, Try.ntmps3
  go_wp2_with fail
  refine (HF.out _).mono ?_
  rintro e w' ⟨rfl, rfl⟩
  go_wp2_with fail
  refine (HA.out _ HL.out).mono ?_
  rintro e w2 ⟨hp, hb2⟩
  obtain ⟨v1, rfl, hi1⟩ := one hp
  have HI1 := Lib.hid hi1; have HW2 := Lib.hid hb2
  clear hp hi1 hb2
  go_wp2_with fail
  refine (HS1.out _ (HL.out.below HW2.out)).mono ?_
  rintro e w3 ⟨rfl, hb3⟩
  have HX3 := Lib.hid hb3
  have HW3 := Lib.hid (HW2.out.trans (hb3.mono HW2.out.size))
  clear hb3
  go_wp2_with fail
  refine (HS2.out _ (HL.out.below HW3.out)).mono ?_
  rintro e w4 ⟨rfl, hb4⟩
  have HX4 := Lib.hid (HX3.out.trans (hb4.mono HX3.out.size))
  have HW4 := Lib.hid (HW3.out.trans (hb4.mono HW3.out.size))
  clear hb4 HX3
  obtain ⟨S, hS⟩ : ∃ S, sizeL l = S := ⟨_, rfl⟩
  rw [hS] at HLE HS1 ⊢
  obtain ⟨E, hEE⟩ : ∃ E, fE l = E := ⟨_, rfl⟩
  obtain ⟨V, hVV⟩ : ∃ V, fV l = V := ⟨_, rfl⟩
  rw [hEE] at HLE ⊢
  rw [hVV] at HLE HI1
  have HEE := Lib.hid hEE; have HVV := Lib.hid hVV
  clear hEE hVV
  go_wp2_with fail
  refine (emAlive _).mono ?_
  rintro e w5 ⟨rfl, hb5⟩
  have HX5 := Lib.hid (HX4.out.trans (hb5.mono HX4.out.size))
  have HW5 := Lib.hid (HW4.out.trans (hb5.mono HW4.out.size))
  clear hb5 HX4 HW3 HW4
  go_upto_region 5 with fail
  have hS1b := HS1
  clear hS1b hS HF
  by_cases hbig : 200 < n
  · have hbI : (200 : Int) < n := by omega
    go_upto_region 6 with fail
    have HA2 := Lib.hid HL.out
    go_wp2_with fail
    go_loopw [30] (fun z wr => ∃ i : Nat, z = .int .i64 i ∧ i ≤ n ∧ Below w5.heap.size w5 wr) (fun z _ => n - (intOf z).toNat)
    case atStart => exact ⟨0, rfl, by omega, Below.refl _ _⟩
    case round =>
      obtain ⟨i, rfl, hi, hwr⟩ := hrel
      by_cases hlt : i < n
      · have hlw := HL.out.below (HW5.out.trans (hwr.mono HW5.out.size))
        obtain ⟨_, _, _, hv, _, _, _, _, _, hat⟩ := hlw
        injection hv with e1 e2 e3
        subst e1 e2 e3
        obtain ⟨b, off, rfl, hb, hat⟩ := hat.resolve_left (by omega)
        obtain ⟨c0, c1, c2, c3⟩ := hat i hlt
        have hiI : (i : Int) < n := by omega
        clear hat
        generalize l.getD i stpZ = o at *
        obtain ⟨kind, k, t, f⟩ := o
        dsimp only at c0 c1 c2 c3
        have hnw := heap_alloc_new wr (.cells #[.int .i64 kind, .int .u32 (k : Nat), .int .i64 t, .int .i64 f] 32)
        have hwa := hwr.alloc hwr.size (.cells #[.int .i64 kind, .int .u32 (k : Nat), .int .i64 t, .int .i64 f] 32)
        have q0 := below_cell (Below.refl _ _) hnw 0 rfl
        have HWA := Lib.hid hwa
        clear hwa hnw
        by_cases k1 : kind = 1
        · subst k1
          go_wp2_with fail
          go_roundw
          case rel => exact ⟨i + 1, by go_num, by omega, HWA.out⟩
          case measure => simp [intOf]; omega
        · have n1 : (kind != 1) = true := by rw [bne_iff_ne]; exact k1
          clear k1
          go_wp2_with fail
          go_ret
          exact ⟨rfl, HW5.out.trans (HWA.out.mono HW5.out.size)⟩
      · obtain rfl : i = n := by omega
        have HXR := Lib.hid (HX5.out.trans (hwr.mono HX5.out.size))
        have HWR := Lib.hid (HW5.out.trans (hwr.mono HW5.out.size))
        clear hwr
        go_upto_region 12 with fail
        go_wp2_with fail
        refine (HB.out _ (HL.out.below HWR.out)).mono ?_
        rintro e w6 ⟨hp, hb6⟩
        obtain ⟨v2, he2, hi2⟩ := two hp
        rw [HEE.out] at he2
        rw [HVV.out] at hi2
        subst he2
        have HI2 := Lib.hid hi2
        have HX6 := Lib.hid (HXR.out.trans (hb6.mono HXR.out.size))
        have HW6 := Lib.hid (HWR.out.trans (hb6.mono HWR.out.size))
        clear hp hi2 hb6
        have hlk := refLike_any v1 v2 _ _ w6 (HI1.out.below HX6.out) HI2.out
        rw [decide_eq_true rfl] at hlk
        have HLK := Lib.hid hlk
        clear hlk
        go_wp2_with fail
        refine HLK.out.mono ?_
        rintro e w7 ⟨rfl, hb7⟩
        have HX7 := Lib.hid (HX6.out.trans (hb7.mono HX6.out.size))
        have HW7 := Lib.hid (HW6.out.trans (hb7.mono HW6.out.size))
        clear hb7
        by_cases hE0 : E = 0
        · have hvl := HLE.out hE0
          obtain ⟨a1, c1, rfl⟩ : ∃ a1 c1, v1 = .slice a1 S c1 := by
            obtain ⟨a1, len1, cap1, h1, h2, _⟩ := HI1.out
            exact ⟨a1, cap1, by rw [h1, ← h2, hvl]⟩
          subst hE0
          clear hvl
          go_wp2_with fail
          refine (HS1.out _ (HL.out.below HW7.out)).mono ?_
          rintro e w8 ⟨rfl, hb8⟩
          have HW8 := Lib.hid (HW7.out.trans (hb8.mono HW7.out.size))
          clear hb8
          go_wp2_with fail
          go_ret
          exact ⟨rfl, HW8.out⟩
        · have hEb : (E == 0) = false := by rw [beq_eq_false_iff_ne]; exact hE0
          have hEb2 : (E != 0) = true := by rw [bne_iff_ne]; exact hE0
          clear hE0
          go_wp2_with fail
          go_ret
          exact ⟨rfl, HW7.out⟩
  · have hbI : ¬ (200 : Int) < n := by omega
    have HXR := HX5
    have HWR := HW5
    go_upto_region 12 with fail
    go_wp2_with fail
    refine (HB.out _ (HL.out.below HWR.out)).mono ?_
    rintro e w6 ⟨hp, hb6⟩
    obtain ⟨v2, he2, hi2⟩ := two hp
    rw [HEE.out] at he2
    rw [HVV.out] at hi2
    subst he2
    have HI2 := Lib.hid hi2
    have HX6 := Lib.hid (HXR.out.trans (hb6.mono HXR.out.size))
    have HW6 := Lib.hid (HWR.out.trans (hb6.mono HWR.out.size))
    clear hp hi2 hb6
    have hlk := refLike_any v1 v2 _ _ w6 (HI1.out.below HX6.out) HI2.out
    rw [decide_eq_true rfl] at hlk
    have HLK := Lib.hid hlk
    clear hlk
    go_wp2_with fail
    refine HLK.out.mono ?_
    rintro e w7 ⟨rfl, hb7⟩
    have HX7 := Lib.hid (HX6.out.trans (hb7.mono HX6.out.size))
    have HW7 := Lib.hid (HW6.out.trans (hb7.mono HW6.out.size))
    clear hb7
    by_cases hE0 : E = 0
    · have hvl := HLE.out hE0
      obtain ⟨a1, c1, rfl⟩ : ∃ a1 c1, v1 = .slice a1 S c1 := by
        obtain ⟨a1, len1, cap1, h1, h2, _⟩ := HI1.out
        exact ⟨a1, cap1, by rw [h1, ← h2, hvl]⟩
      subst hE0
      clear hvl
      go_wp2_with fail
      refine (HS1.out _ (HL.out.below HW7.out)).mono ?_
      rintro e w8 ⟨rfl, hb8⟩
      have HW8 := Lib.hid (HW7.out.trans (hb8.mono HW7.out.size))
      clear hb8
      go_wp2_with fail
      go_ret
      exact ⟨rfl, HW8.out⟩
    · have hEb : (E == 0) = false := by rw [beq_eq_false_iff_ne]; exact hE0
      have hEb2 : (E != 0) = true := by rw [bne_iff_ne]; exact hE0
      clear hE0
      go_wp2_with fail
      go_ret
      exact ⟨rfl, HW7.out⟩
end Go.Proofs.Ytnlmdajoifjddaa.lawEmitMakes
