/- The walk of VmPasses. -/
import Derived.Test.YtpdaenpcgcjmjaaVmC
namespace Go.Proofs.Ytpdaenpcgcjmjaa.lawVmPasses
open Go.ChangeShapes Go.WideShapes Go.ChangeAt Go.RowKit Go.Joins Go.Deep
set_option linter.unusedVariables false

/-- 's = append(s, x, y ..)': the new ones lie in the block that was laid last; s is the call's own. -/
theorem wpList_pushes {P : Program} {ops : Array Oper} {rest : List Oper} {o : Oper} {a : Act} {Q : Exit → Act → World → Prop} {w w0 : World}
    (s x : Operand) (t : TypeId) (e : TypeId) {i : TypeInfo} {z : Value} {size bytes m : Nat} {base : Nat} {v : Value} {n : Nat} {xs news : List Value}
    (hown : w.ownsRow base e size v n xs) (hbel : Below base w0 w) (hbase : base ≤ w0.heap.size)
    (ht : P.underlying t = some (.slice e)) (hi : P.info? e = some i) (hz : i.zero = some z)
    (hsize : i.size = size) (hby : i.bytes = bytes) (hzs : z.cells.size = size) (hsz : 0 < size)
    (hgd : o.guard = none) (ho : o.op = .call { callee := .builtin .append, args := #[s, x], argTypes := #[t, t] })
    (hs : a.eval s = v) (hx : a.eval x = .slice (some ⟨w.heap.size, 0, none⟩) m m)
    (hl : news.length = m * size) (h1 : ∀ u ∈ news, u.oneCell' = true)
    (hroom : n + m ≤ 17592186044416 ∧ (n + m) * bytes ≤ 140737488355328)
    (h : ∀ v' w', w'.ownsRow base e size v' (n + m) (xs ++ news) → Below base w0 w' → wpList P ops Q rest (a.put o.dst v') w') :
    wpList P ops Q (o :: rest) a (w.alloc (.cells news.toArray e)) := by
  refine wpList_append_own (w := w.alloc (.cells news.toArray e)) hgd s x t ho base e i z size bytes ht hi hz hsize hby hzs hsz v n xs hs (hown.alloc _) ⟨w.heap.size, 0, none⟩ m m news hx hl (cells_new w news e) h1
    (by unfold maxLen; omega) hroom.2 (by have := hbel.size; simp; omega) ?_
  intro v' w' h2 h3 h4
  refine h v' w' h2 ?_
  have hb1 : Below base w0 (w.alloc (.cells news.toArray e)) := hbel.alloc (by have := hbel.size; omega) _
  refine hb1.grown h3 (by have := hbel.size; simp; omega) ?_
  intro k hk
  exact (hown.lt k hk).1

def rets (i : Nat) : List Ins := (List.range i).map fun (j : Nat) => (⟨6, 0, 0, (j : Int)⟩ : Ins)
theorem rets_len (i : Nat) : (rets i).length = i := by simp [rets]
theorem rets_succ (i : Nat) : rets (i + 1) = rets i ++ [⟨6, 0, 0, (i : Int)⟩] := by simp [rets, List.range_succ]
def prog (a k : Nat) (jt jf : Nat) (i : Nat) : List Ins := [⟨0, 0, 0, (a : Int)⟩, ⟨37, (jt : Int), (jf : Int), (k : Int)⟩] ++ rets i
def prog2 (jt : Nat) : List Ins := [⟨5, 0, 0, (jt : Int)⟩] ++ rets 10
theorem d37 (m : Mach) (k : Nat) (jt jf : Int) : deedD m 37 k jt jf = .over (if decide (k < m.a) then jt else jf) := by simp [deedD, jumpD, jumpB]
theorem d5 (m : Mach) (k : Nat) (jt jf : Int) : deedD m 5 k jt jf = .over k := by simp [deedD, jumpD]
theorem d6 (m : Mach) (k : Nat) (jt jf : Int) : deedD m 6 k jt jf = .answer k := by simp [deedD]
theorem rets_get (q : Nat) (hq : q ≤ 9) : (rets 10).getD q insZ = ⟨6, 0, 0, (q : Int)⟩ := by
  match q, hq with
  | 0, _ | 1, _ | 2, _ | 3, _ | 4, _ | 5, _ | 6, _ | 7, _ | 8, _ | 9, _ => rfl
  | q + 10, hh => exact absurd hh (by omega)
def C0 : List Nat := List.replicate 16 0
theorem run1 (a k jt jf q : Nat) (s : ByteArray) (hs : s.size = 64) (hq : (if decide (k < a) then (jt : Int) else jf) = q) (hq9 : q ≤ 9) : runR (prog a k jt jf 10) s = (q, 3, 0) := by
  have e : runR (prog a k jt jf 10) s = runF (prog a k jt jf 10) s 12 ⟨0, 0, C0, 0, 0, false⟩ 1 := by unfold runR; rw [if_pos hs]; rfl
  have e0 : runF (prog a k jt jf 10) s 12 ⟨0, 0, C0, 0, 0, false⟩ 1 = runF (prog a k jt jf 10) s 11 ⟨a, 0, C0, 1, 0, false⟩ 2 := runF_go (m' := ⟨a, 0, C0, 1, 0, false⟩) (show 0 < 12 by omega) (known0 0 (by decide)) (stepM_at rfl rfl rfl rfl (d0 _ _ _ _) rfl) rfl
  have e1 : runF (prog a k jt jf 10) s 11 ⟨a, 0, C0, 1, 0, false⟩ 2 = runF (prog a k jt jf 10) s 10 ⟨a, 0, C0, 2 + q, 0, false⟩ 3 := runF_go (m' := ⟨a, 0, C0, 2 + q, 0, false⟩) (show 1 < 12 by omega) (known0 37 (by decide))
    (stepM_at (i := ⟨37, jt, jf, k⟩) rfl rfl rfl rfl ((d37 _ _ _ _).trans (congrArg Deed.over hq)) (by show (true, (⟨a, 0, C0, 2 + (min (max (q : Int) 0) (12 : Nat)).toNat, 0, false⟩ : Mach)) = _; rw [show (min (max (q : Int) 0) ((12 : Nat) : Int)).toNat = q by omega])) rfl
  have hg : (prog a k jt jf 10).getD (2 + q) insZ = ⟨6, 0, 0, (q : Int)⟩ := by rw [Nat.add_comm]; exact rets_get q hq9
  have e2 : runF (prog a k jt jf 10) s 10 ⟨a, 0, C0, 2 + q, 0, false⟩ 3 = (q, 3, 0) := runF_ret (m' := ⟨a, 0, C0, 2 + q + 1, q, true⟩) (show 2 + q < 12 by omega) (by show insKnown ((prog a k jt jf 10).getD (2 + q) insZ).code = true; rw [hg]; exact known0 6 (by decide)) (stepM_at (c := 6) (k := q) hg rfl rfl rfl (d6 _ _ _ _) rfl) rfl
  exact e.trans (e0.trans (e1.trans e2))
theorem run2 (q : Nat) (s : ByteArray) (hs : s.size = 64) (hq9 : q ≤ 9) : runR (prog2 q) s = (q, 2, 0) := by
  have e : runR (prog2 q) s = runF (prog2 q) s 11 ⟨0, 0, C0, 0, 0, false⟩ 1 := by unfold runR; rw [if_pos hs]; rfl
  have e1 : runF (prog2 q) s 11 ⟨0, 0, C0, 0, 0, false⟩ 1 = runF (prog2 q) s 10 ⟨0, 0, C0, 1 + q, 0, false⟩ 2 := runF_go (m' := ⟨0, 0, C0, 1 + q, 0, false⟩) (show 0 < 11 by omega) (known0 5 (by decide))
    (stepM_at (i := ⟨5, 0, 0, q⟩) rfl rfl rfl rfl (d5 _ _ _ _) (by show (true, (⟨0, 0, C0, 1 + (min (max (q : Int) 0) (11 : Nat)).toNat, 0, false⟩ : Mach)) = _; rw [show (min (max (q : Int) 0) ((11 : Nat) : Int)).toNat = q by omega])) rfl
  have hg : (prog2 q).getD (1 + q) insZ = ⟨6, 0, 0, (q : Int)⟩ := by rw [Nat.add_comm]; exact rets_get q hq9
  have e2 : runF (prog2 q) s 10 ⟨0, 0, C0, 1 + q, 0, false⟩ 2 = (q, 2, 0) := runF_ret (m' := ⟨0, 0, C0, 1 + q + 1, q, true⟩) (show 1 + q < 11 by omega) (by show insKnown ((prog2 q).getD (1 + q) insZ).code = true; rw [hg]; exact known0 6 (by decide)) (stepM_at (c := 6) (k := q) hg rfl rfl rfl (d6 _ _ _ _) rfl) rfl
  exact e.trans (e1.trans e2)
set_option maxRecDepth 100000 in
set_option maxHeartbeats 1000000 in
theorem walk (a0 a1 a2 a3 : Int) (s0 : ByteArray) (w : World) (w0 : (Lit.int .u32 a0).wf = true) (w1 : (Lit.int .u32 a1).wf = true) (w2 : (Lit.int .i64 a2).wf = true) (w3 : (Lit.int .i64 a3).wf = true) (w4 : s0.size ≤ maxLen) :
    Calls Try.prog 7 #[.int .u32 a0, .int .u32 a1, .int .i64 a2, .int .i64 a3, .string s0] w fun e w' => e = .returned (.bool true) ∧ Below w.heap.size w w' := by
  obtain ⟨i0, hinf, hz0, hz1, hz2⟩ := info_parts infoInsn
  obtain ⟨p0, q0⟩ := wf_u32 w0
  obtain ⟨p1, q1⟩ := wf_u32 w1
  obtain ⟨p2, q2⟩ := wf_i64 w2
  obtain ⟨p3, q3⟩ := wf_i64 w3
  clear w0 w1 w2 w3 w4
  obtain ⟨a, rfl⟩ := Int.eq_ofNat_of_zero_le p0
  obtain ⟨k, rfl⟩ := Int.eq_ofNat_of_zero_le p1
  obtain ⟨x, hx⟩ : ∃ x, (if a2 < 0 then 0 else a2) = x := ⟨_, rfl⟩
  obtain ⟨y, hy⟩ : ∃ x, (if a3 < 0 then 0 else a3) = x := ⟨_, rfl⟩
  have hx0 : 0 ≤ x := by split at hx <;> omega
  have hy0 : 0 ≤ y := by split at hy <;> omega
  obtain ⟨jt, ht, ht9⟩ : ∃ q : Nat, (if 9 < x then 9 else x) = (q : Int) ∧ q ≤ 9 := by
    split
    · exact ⟨9, rfl, by omega⟩
    · exact ⟨x.toNat, by omega, by omega⟩
  obtain ⟨jf, hf, hf9⟩ : ∃ q : Nat, (if 9 < y then 9 else y) = (q : Int) ∧ q ≤ 9 := by
    split
    · exact ⟨9, rfl, by omega⟩
    · exact ⟨y.toNat, by omega, by omega⟩
  go_enter Try.func7, Try.ntmps7
  go_wp2_with fail
  refine (vmRecord_any s0 w).mono ?_
  rintro e w1 ⟨rfl, rfl⟩
  generalize recOf s0 = s
  have hs5 : s.size = 64 ∨ s.size ≠ 64 := by omega
  rcases hs5 with hs | hs
  · have hsI : (s.size : Int) = 64 := by omega
    have htI : (jt : Int) ≤ 9 := by omega
    have hfI : (jf : Int) ≤ 9 := by omega
    have HS := Lib.hid hs
    obtain ⟨q, hq, hq9⟩ : ∃ q : Nat, (if decide (k < a) then (jt : Int) else jf) = q ∧ q ≤ 9 := by
      split
      · exact ⟨jt, rfl, ht9⟩
      · exact ⟨jf, rfl, hf9⟩
    have HQ := Lib.hid hq
    have hown0 := World.ownsRow_lit (base := w.heap.size) (e := 35) (size := 4) w #[.int .i64 0, .int .i64 0, .int .i64 0, .int .u32 (a : Int), .int .i64 37, .int .i64 (jt : Int), .int .i64 (jf : Int), .int .u32 (k : Int)] 2 (Nat.le_refl _) (by unfold maxLen; omega) rfl
    have hw0 := alloc1 w (.cells #[.int .i64 0, .int .i64 0, .int .i64 0, .int .u32 (a : Int), .int .i64 37, .int .i64 (jt : Int), .int .i64 (jf : Int), .int .u32 (k : Int)] 35)
    have HO0 := Lib.hid hown0
    clear hown0 hs hq p2 q2 p3 q3
    go_upto_region 6 with fail
    go_wp2_with fail
    go_loopw [11, 39] (fun v c wr => ∃ i : Nat, i ≤ 10 ∧ c = .int .i64 i ∧ OwnIns wr w.heap.size v (prog a k jt jf i) ∧ Below w.heap.size w wr) (fun _ c _ => 10 - (intOf c).toNat)
    case atStart => exact ⟨0, by omega, rfl, HO0.out, hw0⟩
    case round =>
      obtain ⟨i, hi, rfl, hown, hwr⟩ := hrel
      have HO := Lib.hid hown
      clear hown
      by_cases hlt : i < 10
      · have hiI : (i : Int) < 10 := by omega
        have hwi : IntKind.u32.wrap (i : Int) = i := IntWalk.u32_in _ (by omega)
        have hone1 : ∀ u ∈ ([.int .i64 6, .int .i64 0, .int .i64 0, .int .u32 (i : Int)] : List Value), u.oneCell' = true := by simp [Value.oneCell']
        have hlen : (prog a k jt jf i).length = i + 2 := by unfold prog; rw [List.length_append, rets_len]; simp; omega
        have HLN := Lib.hid hlen
        clear hlen hlt
        go_wp2_with (first | (at_builtin; go_must (refine wpList_pushes _ _ 22 35 HO.out hwr (Nat.le_refl _) Try.underlying22 hinf hz0 hz1 hz2 rfl (by decide) rfl rfl rfl rfl rfl hone1 ?c2 ?_)))
        case c2 => rw [HLN.out]; omega
        intro v4 w4 hown4 hb4
        have hO5 : OwnIns w4 w.heap.size v4 (prog a k jt jf (i + 1)) := by
          unfold OwnIns
          have e1 : (prog a k jt jf (i + 1)) = prog a k jt jf i ++ [⟨6, 0, 0, (i : Int)⟩] := by unfold prog; rw [rets_succ, List.append_assoc]
          rw [e1, List.length_append, insCells, List.flatMap_append]
          exact hown4
        have HO5 := Lib.hid hO5
        clear hown4 hO5
        go_wp2_with fail
        go_roundw
        case rel => exact ⟨i + 1, by omega, by go_num, HO5.out, hb4⟩
        case measure => simp [intOf]; omega
      · have hiI : (10 : Int) ≤ i := by omega
        have hO10 : OwnIns wr w.heap.size u11 (prog a k jt jf 10) := by
          obtain rfl : i = 10 := by omega
          exact HO.out
        have hlen : (prog a k jt jf 10).length = 12 := rfl
        have hbd : ∀ i ∈ prog a k jt jf 10, i.bounded := by
          intro i hi
          rcases List.mem_append.1 hi with hi | hi
          · simp only [List.mem_cons, List.not_mem_nil, or_false] at hi
            rcases hi with rfl | rfl <;> (unfold Ins.bounded; simp only; omega)
          · obtain ⟨j, hj, rfl⟩ := List.mem_map.1 hi
            have := List.mem_range.1 hj
            unfold Ins.bounded; simp only; omega
        have hbd2 : ∀ i ∈ prog2 jt, i.bounded := by
          intro i hi
          rcases List.mem_append.1 hi with hi | hi
          · simp only [List.mem_cons, List.not_mem_nil, or_false] at hi
            subst hi
            unfold Ins.bounded; simp only; omega
          · obtain ⟨j, hj, rfl⟩ := List.mem_map.1 hi
            have := List.mem_range.1 hj
            unfold Ins.bounded; simp only; omega
        have hI := hO10.reads hbd
        obtain ⟨g, cap, hv, hg, hn, hc, hcells⟩ : ∃ g cap, u11 = .slice (some ⟨g, 0, none⟩) 12 cap ∧ g < wr.heap.size ∧ 12 ≤ cap ∧ cap ≤ maxLen ∧ ∀ j u, (insCells (prog a k jt jf 10))[j]? = some u → wr.cell? ((⟨g, 0, none⟩ : Addr).add j) = some u := by
          have h := hO10
          unfold OwnIns at h
          rcases h.2 with ⟨_, h0⟩ | ⟨g, cap, cur, hv, hg, hh, hn, hc, hcs, htake⟩
          · rw [hlen] at h0; cases h0
          · rw [hlen] at hv hn
            subst hv
            exact ⟨g, cap, rfl, (h.lt g rfl).2, hn, hc, fun j u hj => h.cells (g := g) rfl j u hj⟩
        subst hv
        have HI := Lib.hid hI; have HCE := Lib.hid hcells; have HBD2 := Lib.hid hbd2; have HW := Lib.hid hwr
        unfold maxLen at hc
        have hcI : (cap : Int) ≤ 9223372036854775807 := by omega
        have hnI : (12 : Int) ≤ cap := by omega
        have hwj : IntKind.u32.wrap (jt : Int) = jt := IntWalk.u32_in _ (by omega)
        have hwf : IntKind.u32.wrap (jf : Int) = jf := IntWalk.u32_in _ (by omega)
        have H1 := Lib.hid (run1 a k jt jf q s HS.out HQ.out hq9)
        have H2 := Lib.hid (run2 jt s HS.out ht9)
        have hone1 : ∀ u ∈ insCells (rets 10), u.oneCell' = true := insCells_one _
        have hnews : (insCells (rets 10)).length = 10 * 4 := by rw [insCells_len, rets_len]
        have HON := Lib.hid hone1; have HNW := Lib.hid hnews
        have hqq : (k < a ∧ q = jt) ∨ (¬ k < a ∧ q = jf) := by
          have := HQ.out
          by_cases hka : k < a
          · rw [if_pos (decide_eq_true hka)] at this; exact .inl ⟨hka, by omega⟩
          · rw [if_neg (by simpa using hka)] at this; exact .inr ⟨hka, by omega⟩
        clear hO10 HO hI hcells hbd hbd2 hwr hc hlen hone1 hnews HQ
        rcases hqq with ⟨hka, rfl⟩ | ⟨hka, rfl⟩
        · have hkI : (k : Int) < a := by omega
          go_wp2_with fail
          refine (vmRun_any _ _ s _ HI.out (by show 12 ≤ 1000000; omega)).mono ?_
          rintro e w6 ⟨rfl, hb6⟩
          rw [H1.out]
          unfold resV
          have hw6 := HW.out.trans (hb6.mono HW.out.size)
          have hown7 := World.ownsRow_lit (base := w.heap.size) (e := 35) (size := 4) w6 #[.int .i64 5, .int .i64 0, .int .i64 0, .int .u32 (q : Int)] 1 hw6.size (by unfold maxLen; omega) rfl
          have hw7 := hw6.alloc hw6.size (.cells #[.int .i64 5, .int .i64 0, .int .i64 0, .int .u32 (q : Int)] 35)
          have hsrc : ∀ j u, (insCells (rets 10))[j]? = some u → (w6.alloc (.cells #[.int .i64 5, .int .i64 0, .int .i64 0, .int .u32 (q : Int)] 35)).cell? ((⟨g, 8, none⟩ : Addr).add j) = some u := by
            intro j u hj
            have h1 := HCE.out (8 + j) u (by
              show (insCells ([⟨0, 0, 0, (a : Int)⟩, ⟨37, _, _, (k : Int)⟩] ++ rets 10))[8 + j]? = some u
              rw [insCells, List.flatMap_append, List.getElem?_append_right (by simp [Ins.cells])]
              rw [show 8 + j - (List.flatMap Ins.cells [⟨0, 0, 0, (a : Int)⟩, ⟨37, _, _, (k : Int)⟩]).length = j by simp [Ins.cells]]
              exact hj)
            rw [addr_add] at h1 ⊢
            rw [Nat.zero_add] at h1
            refine v1_old ?_
            exact (hb6.cell (p := ⟨g, 8 + j, none⟩) hg).trans h1
          have HO7 := Lib.hid hown7; have HSRC := Lib.hid hsrc
          clear hown7 hw6 hsrc hb6
          go_wp2_with (first | (at_builtin; go_must (refine wpList_extend _ _ 22 35 (insCells (rets 10)) HO7.out hw7 (Nat.le_refl _) Try.underlying22 hinf hz0 hz1 hz2 rfl (by decide) rfl rfl rfl rfl (.inr ⟨_, rfl, HSRC.out⟩) HNW.out HON.out ?c3 ?_)))
          case c3 => omega
          intro v8 w8 hown8 hw8
          have hO8 : OwnIns w8 w.heap.size v8 (prog2 q) := hown8
          have hI8 := hO8.reads HBD2.out
          have HI8 := Lib.hid hI8; have HW8 := Lib.hid hw8
          clear hown8 hO8 hI8 hw8 hw7 HO7 HSRC
          go_wp2_with fail
          refine (vmRun_any _ _ s _ HI8.out (by show 11 ≤ 1000000; omega)).mono ?_
          rintro e w9 ⟨rfl, hb9⟩
          rw [H2.out]
          unfold resV
          have HW9 := Lib.hid (HW8.out.trans (hb9.mono HW8.out.size))
          clear hb9
          go_wp2_with fail
          refine (vmAlive _).mono ?_
          rintro e w10 ⟨rfl, hb10⟩
          have HW10 := Lib.hid (HW9.out.trans (hb10.mono HW9.out.size))
          clear hb10
          go_wp2_with fail
          go_ret
          exact ⟨rfl, HW10.out⟩
        · have hkI : (a : Int) ≤ k := by omega
          go_wp2_with fail
          refine (vmRun_any _ _ s _ HI.out (by show 12 ≤ 1000000; omega)).mono ?_
          rintro e w6 ⟨rfl, hb6⟩
          rw [H1.out]
          unfold resV
          have hw6 := HW.out.trans (hb6.mono HW.out.size)
          have hown7 := World.ownsRow_lit (base := w.heap.size) (e := 35) (size := 4) w6 #[.int .i64 5, .int .i64 0, .int .i64 0, .int .u32 (jt : Int)] 1 hw6.size (by unfold maxLen; omega) rfl
          have hw7 := hw6.alloc hw6.size (.cells #[.int .i64 5, .int .i64 0, .int .i64 0, .int .u32 (jt : Int)] 35)
          have hsrc : ∀ j u, (insCells (rets 10))[j]? = some u → (w6.alloc (.cells #[.int .i64 5, .int .i64 0, .int .i64 0, .int .u32 (jt : Int)] 35)).cell? ((⟨g, 8, none⟩ : Addr).add j) = some u := by
            intro j u hj
            have h1 := HCE.out (8 + j) u (by
              show (insCells ([⟨0, 0, 0, (a : Int)⟩, ⟨37, _, _, (k : Int)⟩] ++ rets 10))[8 + j]? = some u
              rw [insCells, List.flatMap_append, List.getElem?_append_right (by simp [Ins.cells])]
              rw [show 8 + j - (List.flatMap Ins.cells [⟨0, 0, 0, (a : Int)⟩, ⟨37, _, _, (k : Int)⟩]).length = j by simp [Ins.cells]]
              exact hj)
            rw [addr_add] at h1 ⊢
            rw [Nat.zero_add] at h1
            refine v1_old ?_
            exact (hb6.cell (p := ⟨g, 8 + j, none⟩) hg).trans h1
          have HO7 := Lib.hid hown7; have HSRC := Lib.hid hsrc
          clear hown7 hw6 hsrc hb6
          go_wp2_with (first | (at_builtin; go_must (refine wpList_extend _ _ 22 35 (insCells (rets 10)) HO7.out hw7 (Nat.le_refl _) Try.underlying22 hinf hz0 hz1 hz2 rfl (by decide) rfl rfl rfl rfl (.inr ⟨_, rfl, HSRC.out⟩) HNW.out HON.out ?c3 ?_)))
          case c3 => omega
          intro v8 w8 hown8 hw8
          have hO8 : OwnIns w8 w.heap.size v8 (prog2 jt) := hown8
          have hI8 := hO8.reads HBD2.out
          have HI8 := Lib.hid hI8; have HW8 := Lib.hid hw8
          clear hown8 hO8 hI8 hw8 hw7 HO7 HSRC
          go_wp2_with fail
          refine (vmRun_any _ _ s _ HI8.out (by show 11 ≤ 1000000; omega)).mono ?_
          rintro e w9 ⟨rfl, hb9⟩
          rw [H2.out]
          unfold resV
          have HW9 := Lib.hid (HW8.out.trans (hb9.mono HW8.out.size))
          clear hb9
          go_wp2_with fail
          refine (vmAlive _).mono ?_
          rintro e w10 ⟨rfl, hb10⟩
          have HW10 := Lib.hid (HW9.out.trans (hb10.mono HW9.out.size))
          clear hb10
          go_wp2_with fail
          go_ret
          exact ⟨rfl, HW10.out⟩
  · have hsI : (s.size : Int) ≠ 64 := by omega
    go_wp2_with fail
    refine (vmAlive _).mono ?_
    rintro e w5 ⟨rfl, hb5⟩
    go_wp2_with fail
    go_ret
    exact ⟨rfl, hb5⟩
end Go.Proofs.Ytpdaenpcgcjmjaa.lawVmPasses
