/- The walk of CheckParts. -/
import Derived.Test.YtpdfahlglalebaaChkL
import Derived.Test.YtpdfahlglalebaaChkP
namespace Go.Proofs.Ytpdfahlglalebaa.lawCheckParts
open Go.ChangeShapes Go.WideShapes Go.ChangeAt Go.RowKit Go.Joins Go.Deep
set_option linter.unusedVariables false

theorem openInsns {H : Type} {enc : TypeId × Value → H} {W : World} {base : Nat} {v : Value} {d : DataW H} {p : List MemPlace}
    (hok : Value.okWide Try.prog W .any base 22 v) (h : DataW.Trod enc Try.prog W 0 (fun _ => true) true 22 v d p) : ∃ l, IsIns W v l := openIns hok h
set_option maxRecDepth 100000 in
set_option maxHeartbeats 2000000 in
theorem walk (v0 : Value) (l0 : List Ins) (w : World) (w0 : IsIns w v0 l0) :
    Calls Try.prog 5 #[v0] w fun e w' => e = .returned (.bool true) ∧ Below w.heap.size w w' := by
  obtain ⟨i0, hinf, hz0, hz1, hz2⟩ := info_parts infoInsn
  obtain ⟨a, len, cap, rfl, hlen, hc1, hc2, htk⟩ := w0.1.take
  obtain ⟨n, hn, hn1, hn2, hn3⟩ := min_if len 60 (by omega)
  have hmi : min (len : Int) 60 = n := by omega
  have hl := htk n hn1
  have hll : (l0.take n).length = n := by rw [List.length_take]; omega
  have hcl := fun u (hu : Below w.heap.size w u) => cells_of (w0.below hu) n hn1
  generalize l0.take n = l at *
  have hb : ∀ i ∈ l, i.bounded := by obtain ⟨_, _, _, _, _, _, _, hb, _⟩ := hl; exact hb
  have hnI : (n : Int) ≤ 60 := by omega
  have hncI : (n : Int) ≤ cap := by omega
  have hcI : (cap : Int) ≤ 9223372036854775807 := by omega
  have hC := fun l' v' u hu => chkCheck_any l' v' u hu
  have htl := fun u (hu : Below w.heap.size w u) => (insns_below hl hu)
  have HL := Lib.hid hl; have HC := Lib.hid hC; have HB := Lib.hid hb; have HLL := Lib.hid hll; have HCL := Lib.hid hcl
  clear htk w0 hlen hl hC hb hll hcl hn3 htl
  go_enter Try.func5, Try.ntmps5
  go_wp2_with fail
  refine (HC.out l (.slice a n cap) _ HL.out).mono ?_
  rintro e w2 ⟨rfl, hb2⟩
  have HW2 := Lib.hid hb2
  clear hb2
  rcases checkV_cases l with ⟨hok, hv⟩ | ⟨hok, x, y, hv, hy⟩
  · rw [hv]
    clear hv
    have hn0 : 1 ≤ n := by have := hok.1.1; have := HLL.out; omega
    have hn0I : (1 : Int) ≤ n := by omega
    have hn0b : ((n : Int) == 0) = false := by rw [beq_eq_false_iff_ne]; omega
    have hret := okC_ret HB.out (by have := HLL.out; omega) hok
    have hless := fun h => okC_less HB.out (h : okC (l.take (l.length - 1)))
    have HRET := Lib.hid hret; have HLESS := Lib.hid hless; have HOK := Lib.hid hok
    clear hret hless hok
    have hw3 := HW2.out
    have hown0 : (w2.alloc (.cells #[] 38)).ownsRow w.heap.size 38 4 (.slice (some ⟨w2.heap.size, 0, none⟩) 0 0) 0 [] := World.ownsRow_made w2 #[] 0 hw3.size (by unfold maxLen; omega) rfl
    have hw4 := hw3.alloc hw3.size (.cells #[] 38)
    have hcA := HCL.out _ hw4
    have hlen1 : (insCells l).length = n * 4 := by rw [insCells_len, HLL.out]
    have HLN := Lib.hid hlen1; have HOW := Lib.hid hown0; have HCA := Lib.hid hcA
    clear hlen1 hown0 hcA
    go_wp2_with (first | (at_builtin; go_must (refine wpList_extend _ _ 22 38 (insCells l) HOW.out hw4 (Nat.le_refl _) Try.underlying22 hinf hz0 hz1 hz2 rfl (by decide) rfl rfl rfl rfl HCA.out HLN.out (insCells_one l) ?c2 ?_)))
    case c2 => omega
    intro v4 w4 hown4 hb4
    have HOW4 := Lib.hid hown4; have HB4 := Lib.hid hb4
    clear hw4 HOW HCA hown4 hb4
    go_wp2_with (first | (at_builtin; go_must (refine wpList_push _ _ 22 38 (news := [.int .i64 22, .int .i64 0, .int .i64 0, .int .u32 0]) HOW4.out HB4.out (Nat.le_refl _) Try.underlying22 hinf hz0 hz1 hz2 rfl (by decide) rfl rfl rfl rfl rfl (by decide) ?c3 ?_)))
    case c3 => omega
    intro v5 w5 hown5 hb5
    have hO5 : OwnIns w5 w.heap.size v5 (l ++ [⟨22, 0, 0, 0⟩]) := by
      unfold OwnIns
      rw [List.length_append, HLL.out, insCells, List.flatMap_append]
      exact hown5
    have hbd5 : ∀ i ∈ l ++ [(⟨22, 0, 0, 0⟩ : Ins)], i.bounded := by
      intro i hi
      rcases List.mem_append.1 hi with hi | hi
      · exact HB.out i hi
      · obtain rfl : i = ⟨22, 0, 0, 0⟩ := by simpa using hi
        unfold Ins.bounded; simp only; omega
    have hC5 := HC.out _ v5 w5 (hO5.reads hbd5)
    have hv5 : checkV (l ++ [⟨22, 0, 0, 0⟩]) = .tuple #[.int .i64 0, .int .i64 0] := by
      rcases checkV_cases (l ++ [⟨22, 0, 0, 0⟩]) with ⟨_, h⟩ | ⟨h, _⟩
      · exact h
      · exact absurd HRET.out h
    rw [hv5] at hC5
    have HC5 := Lib.hid hC5; have HW5 := Lib.hid hb5
    clear hown5 hO5 hbd5 hC5 hv5 hb5 HOW4 HB4
    go_wp2_with fail
    refine HC5.out.mono ?_
    rintro e w6 ⟨rfl, hb6⟩
    have HW6 := Lib.hid (HW5.out.trans (hb6.mono HW5.out.size))
    clear hb6
    obtain ⟨q, hq⟩ : ∃ q, n = q + 1 := ⟨n - 1, by omega⟩
    have hl6 := insns_below HL.out HW6.out
    have hlt : IsInsns w6 (.slice a q cap) (l.take q) := by
      obtain ⟨a', len', cap', hv', hlen', h1, h2, h3, h4⟩ := hl6
      injection hv' with e1 e2 e3
      subst e1 e2 e3
      refine ⟨a, q, cap, rfl, by rw [List.length_take]; omega, by omega, h2, fun i hi => h3 i (List.mem_of_mem_take hi), ?_⟩
      rcases h4 with h4 | ⟨b, off, hab, hbb, h4⟩
      · omega
      · refine .inr ⟨b, off, hab, hbb, fun i hi => ?_⟩
        rw [show (l.take q).getD i insZ = l.getD i insZ from by simp [List.getD, hi]]
        exact h4 i (by omega)
    have hC7 := HC.out _ (.slice a q cap) w6 hlt
    have hqI : (n : Int) - 1 = q := by omega
    have hqc : (q : Int) ≤ cap := by omega
    have hless := HLESS.out
    rw [show l.length - 1 = q from by rw [HLL.out]; omega] at hless
    have HC7 := Lib.hid hC7; have HLE := Lib.hid hless; have HL6 := Lib.hid hl6
    have HN := Lib.hid hq
    clear hlt hC7 hless hl6 hq
    go_wp2_with fail
    refine HC7.out.mono ?_
    rintro e w7 ⟨rfl, hb7⟩
    have HW7 := Lib.hid (HW6.out.trans (hb7.mono HW6.out.size))
    have HL7 := Lib.hid (insns_below HL6.out hb7)
    clear hb7
    rcases checkV_cases (l.take q) with ⟨hok, hv⟩ | ⟨hok, x, y, hv, hy⟩
    · rw [hv]
      obtain ⟨h2, h22⟩ := HLE.out hok
      have hn1 : 1 < n := by have := HLL.out; omega
      have hn1I : (1 : Int) < n := by omega
      obtain ⟨_, _, _, hvv, hlen', _, _, hbd, hat⟩ := HL7.out
      injection hvv with e1 e2 e3
      subst e1 e2 e3
      obtain ⟨b, off, rfl, hbb, hat⟩ := hat.resolve_left (by omega)
      have hi := hat (n - 2) (by omega)
      rw [hlen'] at h22
      obtain ⟨c0, _, _, _⟩ := hi
      generalize l.getD (n - 2) insZ = i at *
      have hn2 : ((n : Int) - 2).toNat = n - 2 := by omega
      have hn2' : (0 : Int) ≤ (n : Int) - 2 := by omega
      have hn2'' : (2 : Int) ≤ (n : Int) := by omega
      clear hat hbd hv hok hlen' h2
      rcases h22 with h22 | h22
      all_goals
        rw [h22] at c0
        clear h22
        go_wp2_with fail
        refine (chkAlive _).mono ?_
        rintro e w8 ⟨rfl, hb8⟩
        have HW8 := Lib.hid (HW7.out.trans (hb8.mono HW7.out.size))
        clear hb8
        go_wp2_with fail
        go_ret
        exact ⟨rfl, HW8.out⟩
    · rw [hv]
      have hyb : (y != 0) = true := by rw [bne_iff_ne]; exact hy
      clear hv hok
      by_cases hn1 : n = 1
      · subst hn1
        go_wp2_with fail
        refine (chkAlive _).mono ?_
        rintro e w8 ⟨rfl, hb8⟩
        have HW8 := Lib.hid (HW7.out.trans (hb8.mono HW7.out.size))
        clear hb8
        go_wp2_with fail
        go_ret
        exact ⟨rfl, HW8.out⟩
      · have hn1I : (1 : Int) < n := by omega
        obtain ⟨_, _, _, hvv, hlen', _, _, hbd, hat⟩ := HL7.out
        injection hvv with e1 e2 e3
        subst e1 e2 e3
        obtain ⟨b, off, rfl, hbb, hat⟩ := hat.resolve_left (by omega)
        have hi := hat (n - 2) (by omega)
        obtain ⟨c0, _, _, _⟩ := hi
        generalize l.getD (n - 2) insZ = i at *
        have hn2 : ((n : Int) - 2).toNat = n - 2 := by omega
        have hn2' : (0 : Int) ≤ (n : Int) - 2 := by omega
        have hn2'' : (2 : Int) ≤ (n : Int) := by omega
        clear hat hbd hlen' hn1
        obtain ⟨c, _, _, _⟩ := i
        dsimp only at c0
        by_cases h6 : c = 6
        · subst h6
          go_wp2_with fail
          refine (chkAlive _).mono ?_
          rintro e w8 ⟨rfl, hb8⟩
          have HW8 := Lib.hid (HW7.out.trans (hb8.mono HW7.out.size))
          clear hb8
          go_wp2_with fail
          go_ret
          exact ⟨rfl, HW8.out⟩
        have n6 : (c == 6) = false := by rw [beq_eq_false_iff_ne]; exact h6
        by_cases h22 : c = 22
        · subst h22
          go_wp2_with fail
          refine (chkAlive _).mono ?_
          rintro e w8 ⟨rfl, hb8⟩
          have HW8 := Lib.hid (HW7.out.trans (hb8.mono HW7.out.size))
          clear hb8
          go_wp2_with fail
          go_ret
          exact ⟨rfl, HW8.out⟩
        have n22 : (c == 22) = false := by rw [beq_eq_false_iff_ne]; exact h22
        go_wp2_with fail
        refine (chkAlive _).mono ?_
        rintro e w8 ⟨rfl, hb8⟩
        have HW8 := Lib.hid (HW7.out.trans (hb8.mono HW7.out.size))
        clear hb8
        go_wp2_with fail
        go_ret
        exact ⟨rfl, HW8.out⟩
  · rw [hv]
    have hyb : (y != 0) = true := by rw [bne_iff_ne]; exact hy
    clear hv hok
    go_wp2_with fail
    refine (chkAlive _).mono ?_
    rintro e w4 ⟨rfl, hb4⟩
    have HW4 := Lib.hid (HW2.out.trans (hb4.mono HW2.out.size))
    clear hb4
    go_wp2_with fail
    go_ret
    exact ⟨rfl, HW4.out⟩
end Go.Proofs.Ytpdfahlglalebaa.lawCheckParts
