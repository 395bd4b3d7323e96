/- The reference of layer 18: what a checked policy answers a call. -/
import Derived.Test.YtgcngmlndijppaaMnEval
import Derived.Test.YtgcngmlndijppaaRef18H
namespace Go.Proofs.Ytgcngmlndijppaa
open Go.RowKit Go.ChangeShapes
set_option linter.unusedVariables false

set_option maxRecDepth 100000 in
set_option maxHeartbeats 4000000 in
theorem refEval18 (t : Typ) (v : Value) (w : World) (x : Cal) (hx : x.ok) (h : IsTyp w v t) :
    Calls Try.prog 17 #[v, x.value] w fun e w' => e = .returned (.int .u32 (t.eval x : Nat)) ∧ Below w.heap.size w w' := by
  obtain ⟨ht1, ht2, k, rfl, hk⟩ := h
  obtain ⟨A, n, c, rfl, hl, hc1, hc2, _⟩ := id hk
  obtain ⟨nr, arch, ip, a0, a1, a2, a3, a4, a5, rfl⟩ := Cal.list6 hx
  obtain ⟨W, hW, f0, f1, hBW⟩ := two_at w (.cells #[.int .u32 (t.arch : Nat), .int .u32 (t.dflt : Nat), .slice A n c] 35) (callO nr arch ip a0 a1 a2 a3 a4 a5)
  have hD := fun (cn : Cnd) (v : Value) (u : World) (h : IsCnd u v cn) => refDoes18 cn v u _ hx h
  have hcells : ∀ u, Below W.heap.size W u → u.cell? ⟨w.heap.size, 0, none⟩ = some (.int .u32 (t.arch : Nat)) ∧ u.cell? ⟨w.heap.size, 1, none⟩ = some (.int .u32 (t.dflt : Nat)) ∧ u.cell? ⟨w.heap.size, 2, none⟩ = some (.slice A n c) ∧ u.cell? ⟨w.heap.size + 1, 0, none⟩ = some (.int .u32 (nr : Nat)) ∧ u.cell? ⟨w.heap.size + 1, 1, none⟩ = some (.int .u32 (arch : Nat)) ∧ u.cell? ⟨w.heap.size + 1, 2, none⟩ = some (.int .u64 (ip : Nat)) ∧ u.cell? ⟨w.heap.size + 1, 3, none⟩ = some (.int .u64 (a0 : Nat)) ∧ u.cell? ⟨w.heap.size + 1, 4, none⟩ = some (.int .u64 (a1 : Nat)) ∧ u.cell? ⟨w.heap.size + 1, 5, none⟩ = some (.int .u64 (a2 : Nat)) ∧ u.cell? ⟨w.heap.size + 1, 6, none⟩ = some (.int .u64 (a3 : Nat)) ∧ u.cell? ⟨w.heap.size + 1, 7, none⟩ = some (.int .u64 (a4 : Nat)) ∧ u.cell? ⟨w.heap.size + 1, 8, none⟩ = some (.int .u64 (a5 : Nat)) := fun u hu => ⟨below_cell hu f0 0 rfl, below_cell hu f0 1 rfl, below_cell hu f0 2 rfl, below_cell hu f1 0 rfl, below_cell hu f1 1 rfl, below_cell hu f1 2 rfl, below_cell hu f1 3 rfl, below_cell hu f1 4 rfl, below_cell hu f1 5 rfl, below_cell hu f1 6 rfl, below_cell hu f1 7 rfl, below_cell hu f1 8 rfl⟩
  have hmt := fun u (hu : Below W.heap.size W u) j hj => mtcs_at hk (hBW.trans (hu.mono hBW.size)) j hj
  have hnI : (n : Int) ≤ 9223372036854775807 := by omega
  have he : Typ.eval t ⟨nr, arch, ip, [a0, a1, a2, a3, a4, a5]⟩ = if arch = t.arch then evalR t.rules t.dflt nr [a0, a1, a2, a3, a4, a5] else 2147483648 := rfl
  show Calls _ _ #[.agg #[.int .u32 (t.arch : Nat), .int .u32 (t.dflt : Nat), .slice A n c], .agg #[.int .u32 (nr : Nat), .int .u32 (arch : Nat), .int .u64 (ip : Nat), .int .u64 (a0 : Nat), .int .u64 (a1 : Nat), .int .u64 (a2 : Nat), .int .u64 (a3 : Nat), .int .u64 (a4 : Nat), .int .u64 (a5 : Nat)]] _ _
  change ∀ (cn : Cnd) (v : Value) (u : World), IsCnd u v cn → Calls _ _ #[v, .agg #[.int .u32 (nr : Nat), .int .u32 (arch : Nat), .int .u64 (ip : Nat), .int .u64 (a0 : Nat), .int .u64 (a1 : Nat), .int .u64 (a2 : Nat), .int .u64 (a3 : Nat), .int .u64 (a4 : Nat), .int .u64 (a5 : Nat)]] _ (fun e w' => e = .returned (.bool (cn.does [a0, a1, a2, a3, a4, a5])) ∧ _) at hD
  have HHIT := Lib.hid (fun j hj => evalR_hit t.rules t.dflt nr [a0, a1, a2, a3, a4, a5] j hj)
  have HMISS := Lib.hid (fun j hj => evalR_miss t.rules t.dflt nr [a0, a1, a2, a3, a4, a5] j hj)
  have HEND := Lib.hid (evalR_end t.rules t.dflt nr [a0, a1, a2, a3, a4, a5] n hl)
  unfold callO at hW f1
  generalize t.eval _ = E at *
  have HXC := Lib.hid hcells; have HD := Lib.hid hD; have HMT := Lib.hid hmt; have HBW := Lib.hid hBW; have HE := Lib.hid he; have HL := Lib.hid hl
  have hbW := Below.refl W.heap.size W
  obtain ⟨g0, g1, g2, g3, g4, g5, g6, g7, g8, g9, g10, g11⟩ := hcells W hbW
  clear hcells hD hmt hBW he hl hk hx f0 f1 hc1 hc2 ht1 ht2
  by_cases ha : arch = t.arch
  · have hae : ((arch : Int) != ((t.arch : Nat) : Int)) = false := by rw [bne_eq_false_iff_eq, ha]
    have hE2 : evalR (t.rules.drop 0) t.dflt nr [a0, a1, a2, a3, a4, a5] = E := by rw [HE.out, if_pos ha]; rfl
    have HE2 := Lib.hid hE2; have HBW2 := Lib.hid hbW
    clear ha HE hE2 hbW
    obtain ⟨TA, hTA⟩ : ∃ x, t.arch = x := ⟨_, rfl⟩
    rw [hTA] at hae g0 ⊢
    go_enter Try.func17, Try.ntmps17
    go_upto_region 1 with fail
    rw [hTA] at hW
    rw [← hW]
    clear hW
    go_upto_region 4 with fail
    clear g0 g1 g2 g3 g4 g5 g6 g7 g8 g9 g10 g11
    go_loopw [17] (fun z wr => ∃ j : Nat, z = .int .i64 (j : Nat) ∧ j ≤ n ∧ evalR (t.rules.drop j) t.dflt nr [a0, a1, a2, a3, a4, a5] = E ∧ Below W.heap.size W wr) (fun z _ => n - (intOf z).toNat)
    case atStart => exact ⟨0, rfl, by omega, HE2.out, HBW2.out⟩
    case round =>
      obtain ⟨j, rfl, hj, hev, hwr⟩ := hrel
      have HEV := Lib.hid hev; have HWR := Lib.hid hwr
      clear hev hwr HBW2 HE2
      by_cases hlt : j < n
      · obtain ⟨b, off, rfl, hat⟩ := HMT.out wr HWR.out j hlt
        have hhit := HHIT.out j (by rw [HL.out]; exact hlt)
        have hmiss := HMISS.out j (by rw [HL.out]; exact hlt)
        rw [HEV.out] at hhit hmiss
        obtain ⟨_, hbd, ka, kn, kc, ca, cn, cc, hu, hkc, e0, e1, e2, e3, e4, e5, e6, e7⟩ := hat.cell
        have hjI : (j : Int) < n := by omega
        unfold Mtc.hits at hhit hmiss
        generalize t.rules.getD j mtcZ = m at *
        obtain ⟨nrs, ⟨kind, kids, arg, mask, sign, value⟩, act⟩ := m
        simp only [Cnd.kind, Cnd.arg, Cnd.mask, Cnd.sign, Cnd.value, Cnd.kids] at hbd hu hkc e0 e1 e2 e3 e4 e5 e6 e7 hhit hmiss
        have hi : IsCnd wr (.agg #[.int .i64 kind, .slice ca cn cc, .int .i64 arg, .int .u64 (mask : Nat), .string sign, .int .u64 (value : Nat)]) (.mk kind kids arg mask sign value) := ⟨hbd, _, rfl, hkc⟩
        have HI := Lib.hid hi; have HU := Lib.hid hu; have HHI := Lib.hid hhit; have HMI := Lib.hid hmiss; have HLT := Lib.hid hlt
        clear hi hu hhit hmiss hat hbd hkc hlt HHIT HMISS HEND HEV
        go_upto_region 6 with fail
        have hn7 := heap_alloc_new wr (.cells #[.slice ka kn kc, .int .i64 kind, .slice ca cn cc, .int .i64 arg, .int .u64 (mask : Nat), .string sign, .int .u64 (value : Nat), .int .u32 (act : Nat)] 46)
        have hy7 := (Below.refl wr.heap.size wr).alloc (Nat.le_refl _) (.cells #[.slice ka kn kc, .int .i64 kind, .slice ca cn cc, .int .i64 arg, .int .u64 (mask : Nat), .string sign, .int .u64 (value : Nat), .int .u32 (act : Nat)] 46)
        generalize wr.alloc (.cells #[.slice ka kn kc, .int .i64 kind, .slice ca cn cc, .int .i64 arg, .int .u64 (mask : Nat), .string sign, .int .u64 (value : Nat), .int .u32 (act : Nat)] 46) = w7 at *
        have hb7 := HWR.out.trans (hy7.mono HWR.out.size)
        have hI7 := HI.out.below hy7
        have hU7 := HU.out.below hy7
        generalize wr.heap.size = b7 at *
        have HN7 := Lib.hid hn7; have HB7 := Lib.hid hb7; have HI7 := Lib.hid hI7; have HU7 := Lib.hid hU7
        clear hn7 hy7 hb7 hI7 hU7 e0 e1 e2 e3 e4 e5 e6 e7 HI HU HWR
        have y0 := below_cell (Below.refl _ _) HN7.out 0 rfl
        obtain ⟨_, _, _, hv, hl1, hl2, hl3, hl4, hl5, hl6⟩ := id HU7.out
        injection hv with q1 q2 q3
        subst q1 q2 q3
        have hknI : (kn : Int) ≤ 9223372036854775807 := by omega
        have hnat : ∀ i, i < kn → ∃ b off, ka = some ⟨b, off, none⟩ ∧ ∀ u, Below w7.heap.size w7 u → u.cell? ⟨b, off + i, none⟩ = some (.int .u32 (nrs.getD i 0 : Nat)) := fun i hi => by
          obtain ⟨b, off, rfl, hlt, hat⟩ := hl6.resolve_left (by omega)
          exact ⟨b, off, rfl, fun u hu => (hu.cell (p := ⟨b, off + i, none⟩) hlt).trans (hat i hi)⟩
        have hin : ∀ i, i < kn → nrs.getD i 0 = nr → nrs.contains nr = true := fun i hi e => by
          rw [List.contains_iff_mem, ← e, getD_at _ _ (by omega)]
          exact List.getElem_mem _
        have hout : (∀ i, i < kn → nrs.getD i 0 ≠ nr) → nrs.contains nr = false := fun h => by
          rw [Bool.eq_false_iff, ne_eq, List.contains_iff_mem]
          intro hm
          obtain ⟨i, hi, e⟩ := List.mem_iff_getElem.1 hm
          exact h i (by omega) (by rw [getD_at _ _ hi]; exact e)
        have HNAT := Lib.hid hnat; have HIN := Lib.hid hin; have HOUT := Lib.hid hout
        clear hnat hin hout hl1 hl2 hl3 hl4 hl5 hl6
        go_upto_region 7 with fail
        clear y0
        generalize hQ : Cnd.does (.mk kind kids arg mask sign value) [a0, a1, a2, a3, a4, a5] = Q at *
        have HDQ : Hid (∀ (v : Value) (u : World), IsCnd u v (.mk kind kids arg mask sign value) → Calls Try.prog 12 #[v, .agg #[.int .u32 (nr : Nat), .int .u32 (arch : Nat), .int .u64 (ip : Nat), .int .u64 (a0 : Nat), .int .u64 (a1 : Nat), .int .u64 (a2 : Nat), .int .u64 (a3 : Nat), .int .u64 (a4 : Nat), .int .u64 (a5 : Nat)]] u (fun e w' => e = .returned (.bool Q) ∧ Below u.heap.size u w')) := Lib.hid (fun v u h => by have := HD.out _ v u h; rwa [hQ] at this)
        clear hQ
        have HB77 := Lib.hid (Below.refl w7.heap.size w7)
        go_loopw [24] (fun z wr => ∃ i : Nat, z = .int .i64 (i : Nat) ∧ i ≤ kn ∧ ((∀ k, k < i → nrs.getD k 0 ≠ nr) ∨ Q = false) ∧ Below w7.heap.size w7 wr) (fun z _ => kn - (intOf z).toNat)
        case atStart => exact ⟨0, rfl, by omega, .inl (fun k hk => absurd hk (Nat.not_lt_zero k)), HB77.out⟩
        case round =>
          obtain ⟨i, rfl, hi, hno, hwr⟩ := hrel
          have HNO := Lib.hid hno; have HR := Lib.hid hwr; have HX := Lib.hid (HB7.out.trans (hwr.mono HB7.out.size))
          clear hno hwr HB77
          by_cases hik : i < kn
          · obtain ⟨b2, off2, rfl, hc⟩ := HNAT.out i hik
            have hcell := hc _ HR.out
            have hiI : (i : Int) < kn := by omega
            clear hc
            obtain ⟨g0, g1, g2, g3, g4, g5, g6, g7, g8, g9, g10, g11⟩ := HXC.out _ HX.out
            have hnow : nrs.getD i 0 = nr → nrs.contains nr = true := HIN.out i hik
            have hnext : nrs.getD i 0 ≠ nr → ((∀ k, k < i + 1 → nrs.getD k 0 ≠ nr) ∨ Q = false) := fun h => by
              rcases HNO.out with h1 | h1
              · refine .inl fun k hk => ?_
                by_cases e : k < i
                · exact h1 k e
                · obtain rfl : k = i := by omega
                  exact h
              · exact .inr h1
            generalize nrs.getD i 0 = x at *
            by_cases hx : x = nr
            · subst hx
              have hcon := hnow rfl
              have y1 := below_cell HR.out HN7.out 1 rfl
              have y2 := below_cell HR.out HN7.out 2 rfl
              have y3 := below_cell HR.out HN7.out 3 rfl
              have y4 := below_cell HR.out HN7.out 4 rfl
              have y5 := below_cell HR.out HN7.out 5 rfl
              have y6 := below_cell HR.out HN7.out 6 rfl
              have HCON := Lib.hid hcon; have HIK := Lib.hid hik
              clear hnow hnext hcon hik
              go_wp2_with fail
              refine (HDQ.out _ _ (HI7.out.below HR.out)).mono ?_
              rintro e w9 ⟨rfl, hb9⟩
              have HR9 := Lib.hid (HR.out.trans (hb9.mono HR.out.size))
              have y7 := below_cell HR9.out HN7.out 7 rfl
              clear g0 g1 g2 g3 g4 g5 g6 g7 g8 g9 g10 g11 y1 y2 y3 y4 y5 y6 hb9
              cases Q
              · go_wp2_with fail
                go_roundw
                case rel => exact ⟨i + 1, by go_num, by have := HIK.out; omega, .inr (by first | trivial | rfl), HR9.out⟩
                case measure => have := HIK.out; simp [intOf]; omega
              · have hh := HHI.out (by rw [HCON.out]; rfl)
                subst hh
                clear HMI HHI
                go_wp2_with fail
                go_ret
                exact ⟨rfl, HBW.out.trans ((HB7.out.trans (HR9.out.mono HB7.out.size)).mono HBW.out.size)⟩
            · have hxe : ((x : Int) == (nr : Nat)) = false := by rw [beq_eq_false_iff_ne]; omega
              have hn2 := hnext hx
              have HN2 := Lib.hid hn2; have HIK := Lib.hid hik
              clear hnow hnext hn2 hx hik
              go_wp2_with fail
              go_roundw
              case rel => exact ⟨i + 1, by go_num, by have := HIK.out; omega, HN2.out, HR.out⟩
              case measure => have := HIK.out; simp [intOf]; omega
          · obtain rfl : i = kn := by omega
            have hm := HMI.out (by
              rcases HNO.out with h1 | h1
              · rw [HOUT.out h1]; rfl
              · rw [h1, Bool.and_false])
            have HM := Lib.hid hm
            clear hm HMI HHI hik
            go_wp2_with fail
            go_roundw
            case rel => exact ⟨j + 1, by go_num, by have := HLT.out; omega, HM.out.symm, HX.out⟩
            case measure => have := HLT.out; simp [intOf]; omega
      · obtain rfl : j = n := by omega
        obtain ⟨g0, g1, g2, g3, g4, g5, g6, g7, g8, g9, g10, g11⟩ := HXC.out _ HWR.out
        have hee := HEND.out
        rw [HEV.out] at hee
        have HEE := Lib.hid hee
        clear hee HEND HEV HHIT HMISS
        go_wp2_with fail
        go_ret
        exact ⟨by rw [HEE.out]; rfl, HBW.out.trans (HWR.out.mono HBW.out.size)⟩
  · have hae : ((arch : Int) != ((t.arch : Nat) : Int)) = true := by rw [bne_iff_ne]; omega
    have hE2 : E = 2147483648 := by rw [HE.out, if_neg ha]
    subst hE2
    have HBW2 := Lib.hid hbW
    clear ha HE hbW HHIT HMISS HEND HMT HD HL
    obtain ⟨TA, hTA⟩ : ∃ x, t.arch = x := ⟨_, rfl⟩
    rw [hTA] at hae g0 hW ⊢
    go_enter Try.func17, Try.ntmps17
    go_upto_region 1 with fail
    rw [← hW]
    clear hW
    go_wp2_with fail
    go_ret
    exact ⟨rfl, HBW.out⟩
end Go.Proofs.Ytgcngmlndijppaa
