/- What a checked policy answers a call. -/
import Derived.Test.YtgcngmlndijppaaMean5
import Derived.Test.YtgcngmlndijppaaU32s
namespace Go.Proofs.Ytgcngmlndijppaa
open Go.RowKit Go.ChangeShapes
set_option linter.unusedVariables false

def Mtc.hits (m : Mtc) (nr : Nat) (args : List Nat) : Bool := m.nrs.contains nr && m.cnd.does args
def evalR : List Mtc → Nat → Nat → List Nat → Nat
  | [], d, _, _ => d
  | m :: l, d, nr, args => if m.hits nr args = true then m.act else evalR l d nr args
def Typ.eval (t : Typ) (x : Cal) : Nat := if x.arch = t.arch then evalR t.rules t.dflt x.nr x.args else 2147483648
theorem evalR_hit (l : List Mtc) (d nr : Nat) (args : List Nat) (j : Nat) (hj : j < l.length) (h : (l.getD j mtcZ).hits nr args = true) : evalR (l.drop j) d nr args = (l.getD j mtcZ).act := by
  rw [List.drop_eq_getElem_cons hj, evalR]
  rw [show l.getD j mtcZ = l[j] by simp [List.getD, hj]] at h ⊢
  rw [if_pos h]
theorem evalR_miss (l : List Mtc) (d nr : Nat) (args : List Nat) (j : Nat) (hj : j < l.length) (h : (l.getD j mtcZ).hits nr args = false) : evalR (l.drop j) d nr args = evalR (l.drop (j + 1)) d nr args := by
  rw [List.drop_eq_getElem_cons hj, evalR]
  rw [show l.getD j mtcZ = l[j] by simp [List.getD, hj]] at h
  rw [if_neg (by rw [h]; decide)]
theorem evalR_end (l : List Mtc) (d nr : Nat) (args : List Nat) (n : Nat) (h : l.length = n) : evalR (l.drop n) d nr args = d := by
  rw [← h, List.drop_length]; rfl
theorem mtcs_at {w u : World} {A : Option Addr} {n c : Nat} {l : List Mtc} (h : IsMtcs w (.slice A n c) l) (hb : Below w.heap.size w u) (j : Nat) (hj : j < n) : ∃ b off, A = some ⟨b, off, none⟩ ∧ MtcAt u (l.getD j mtcZ) b (off + j * 8) := by
  obtain ⟨_, _, _, hv, h1, h2, h3, h4, h5⟩ := h
  injection hv with e1 e2 e3
  subst e1 e2 e3
  obtain ⟨b, off, rfl, hlt, hat⟩ := h5.resolve_left (by omega)
  exact ⟨b, off, rfl, (hat j hj).below hb hlt⟩
set_option maxRecDepth 100000 in
set_option maxHeartbeats 4000000 in
theorem mnEval (t : Typ) (v : Value) (w : World) (x : Cal) (hx : x.ok) (h : IsTyp w v t) :
    Calls Try.prog 16 #[v, x.value] w fun e w' => e = .returned (.int .u32 (t.eval x : Nat)) ∧ Below w.heap.size w w' := by
  obtain ⟨ht1, ht2, k, rfl, hk⟩ := h
  obtain ⟨A, n, c, rfl, hl, hc1, hc2, _⟩ := id hk
  obtain ⟨nr, arch, ip, a0, a1, a2, a3, a4, a5, rfl⟩ := Cal.list6 hx
  obtain ⟨W, hW, f0, f1, hBW⟩ := two_at w (.cells #[.int .u32 (t.arch : Nat), .int .u32 (t.dflt : Nat), .slice A n c] 35) (callO nr arch ip a0 a1 a2 a3 a4 a5)
  have hD := fun (cn : Cnd) (v : Value) (u : World) (h : IsCnd u v cn) => mnDoes cn v u _ hx h
  have hcells : ∀ u, Below W.heap.size W u → u.cell? ⟨w.heap.size, 0, none⟩ = some (.int .u32 (t.arch : Nat)) ∧ u.cell? ⟨w.heap.size, 1, none⟩ = some (.int .u32 (t.dflt : Nat)) ∧ u.cell? ⟨w.heap.size, 2, none⟩ = some (.slice A n c) ∧ u.cell? ⟨w.heap.size + 1, 0, none⟩ = some (.int .u32 (nr : Nat)) ∧ u.cell? ⟨w.heap.size + 1, 1, none⟩ = some (.int .u32 (arch : Nat)) ∧ u.cell? ⟨w.heap.size + 1, 2, none⟩ = some (.int .u64 (ip : Nat)) ∧ u.cell? ⟨w.heap.size + 1, 3, none⟩ = some (.int .u64 (a0 : Nat)) ∧ u.cell? ⟨w.heap.size + 1, 4, none⟩ = some (.int .u64 (a1 : Nat)) ∧ u.cell? ⟨w.heap.size + 1, 5, none⟩ = some (.int .u64 (a2 : Nat)) ∧ u.cell? ⟨w.heap.size + 1, 6, none⟩ = some (.int .u64 (a3 : Nat)) ∧ u.cell? ⟨w.heap.size + 1, 7, none⟩ = some (.int .u64 (a4 : Nat)) ∧ u.cell? ⟨w.heap.size + 1, 8, none⟩ = some (.int .u64 (a5 : Nat)) := fun u hu => ⟨below_cell hu f0 0 rfl, below_cell hu f0 1 rfl, below_cell hu f0 2 rfl, below_cell hu f1 0 rfl, below_cell hu f1 1 rfl, below_cell hu f1 2 rfl, below_cell hu f1 3 rfl, below_cell hu f1 4 rfl, below_cell hu f1 5 rfl, below_cell hu f1 6 rfl, below_cell hu f1 7 rfl, below_cell hu f1 8 rfl⟩
  have hmt := fun u (hu : Below W.heap.size W u) j hj => mtcs_at hk (hBW.trans (hu.mono hBW.size)) j hj
  have hnI : (n : Int) ≤ 9223372036854775807 := by omega
  have he : Typ.eval t ⟨nr, arch, ip, [a0, a1, a2, a3, a4, a5]⟩ = if arch = t.arch then evalR t.rules t.dflt nr [a0, a1, a2, a3, a4, a5] else 2147483648 := rfl
  show Calls _ _ #[.agg #[.int .u32 (t.arch : Nat), .int .u32 (t.dflt : Nat), .slice A n c], .agg #[.int .u32 (nr : Nat), .int .u32 (arch : Nat), .int .u64 (ip : Nat), .int .u64 (a0 : Nat), .int .u64 (a1 : Nat), .int .u64 (a2 : Nat), .int .u64 (a3 : Nat), .int .u64 (a4 : Nat), .int .u64 (a5 : Nat)]] _ _
  change ∀ (cn : Cnd) (v : Value) (u : World), IsCnd u v cn → Calls _ _ #[v, .agg #[.int .u32 (nr : Nat), .int .u32 (arch : Nat), .int .u64 (ip : Nat), .int .u64 (a0 : Nat), .int .u64 (a1 : Nat), .int .u64 (a2 : Nat), .int .u64 (a3 : Nat), .int .u64 (a4 : Nat), .int .u64 (a5 : Nat)]] _ (fun e w' => e = .returned (.bool (cn.does [a0, a1, a2, a3, a4, a5])) ∧ _) at hD
  have HHIT := Lib.hid (fun j hj => evalR_hit t.rules t.dflt nr [a0, a1, a2, a3, a4, a5] j hj)
  have HMISS := Lib.hid (fun j hj => evalR_miss t.rules t.dflt nr [a0, a1, a2, a3, a4, a5] j hj)
  have HEND := Lib.hid (evalR_end t.rules t.dflt nr [a0, a1, a2, a3, a4, a5] n hl)
  unfold callO at hW f1
  generalize t.eval _ = E at *
  have HXC := Lib.hid hcells; have HD := Lib.hid hD; have HMT := Lib.hid hmt; have HBW := Lib.hid hBW; have HE := Lib.hid he; have HL := Lib.hid hl
  have hbW := Below.refl W.heap.size W
  obtain ⟨g0, g1, g2, g3, g4, g5, g6, g7, g8, g9, g10, g11⟩ := hcells W hbW
  clear hcells hD hmt hBW he hl hk hx f0 f1 hc1 hc2 ht1 ht2
  by_cases ha : arch = t.arch
  · have hae : ((arch : Int) != ((t.arch : Nat) : Int)) = false := by rw [bne_eq_false_iff_eq, ha]
    have hE2 : evalR (t.rules.drop 0) t.dflt nr [a0, a1, a2, a3, a4, a5] = E := by rw [HE.out, if_pos ha]; rfl
    have HE2 := Lib.hid hE2; have HBW2 := Lib.hid hbW
    clear ha HE hE2 hbW
    obtain ⟨TA, hTA⟩ : ∃ x, t.arch = x := ⟨_, rfl⟩
    rw [hTA] at hae g0 ⊢
    go_enter Try.func16, Try.ntmps16
    go_upto_region 1 with fail
    rw [hTA] at hW
    rw [← hW]
    clear hW
    go_upto_region 4 with fail
    clear g0 g1 g2 g3 g4 g5 g6 g7 g8 g9 g10 g11
    go_loopw [15] (fun z wr => ∃ j : Nat, z = .int .i64 (j : Nat) ∧ j ≤ n ∧ evalR (t.rules.drop j) t.dflt nr [a0, a1, a2, a3, a4, a5] = E ∧ Below W.heap.size W wr) (fun z _ => n - (intOf z).toNat)
    case atStart => exact ⟨0, rfl, by omega, HE2.out, HBW2.out⟩
    case round =>
      obtain ⟨j, rfl, hj, hev, hwr⟩ := hrel
      have HEV := Lib.hid hev; have HWR := Lib.hid hwr
      clear hev hwr HBW2 HE2
      by_cases hlt : j < n
      · obtain ⟨b, off, rfl, hat⟩ := HMT.out wr HWR.out j hlt
        have hhit := HHIT.out j (by rw [HL.out]; exact hlt)
        have hmiss := HMISS.out j (by rw [HL.out]; exact hlt)
        rw [HEV.out] at hhit hmiss
        obtain ⟨_, hbd, ka, kn, kc, ca, cn, cc, hu, hkc, e0, e1, e2, e3, e4, e5, e6, e7⟩ := hat.cell
        have hjI : (j : Int) < n := by omega
        unfold Mtc.hits at hhit hmiss
        generalize t.rules.getD j mtcZ = m at *
        obtain ⟨nrs, ⟨kind, kids, arg, mask, sign, value⟩, act⟩ := m
        simp only [Cnd.kind, Cnd.arg, Cnd.mask, Cnd.sign, Cnd.value, Cnd.kids] at hbd hu hkc e0 e1 e2 e3 e4 e5 e6 e7 hhit hmiss
        have hi : IsCnd wr (.agg #[.int .i64 kind, .slice ca cn cc, .int .i64 arg, .int .u64 (mask : Nat), .string sign, .int .u64 (value : Nat)]) (.mk kind kids arg mask sign value) := ⟨hbd, _, rfl, hkc⟩
        have HI := Lib.hid hi; have HU := Lib.hid hu; have HHI := Lib.hid hhit; have HMI := Lib.hid hmiss; have HLT := Lib.hid hlt
        clear hi hu hhit hmiss hat hbd hkc hlt HHIT HMISS HEND HEV
        go_upto_region 6 with fail
        have hn7 := heap_alloc_new wr (.cells #[.slice ka kn kc, .int .i64 kind, .slice ca cn cc, .int .i64 arg, .int .u64 (mask : Nat), .string sign, .int .u64 (value : Nat), .int .u32 (act : Nat)] 46)
        have hy7 := (Below.refl wr.heap.size wr).alloc (Nat.le_refl _) (.cells #[.slice ka kn kc, .int .i64 kind, .slice ca cn cc, .int .i64 arg, .int .u64 (mask : Nat), .string sign, .int .u64 (value : Nat), .int .u32 (act : Nat)] 46)
        generalize wr.alloc (.cells #[.slice ka kn kc, .int .i64 kind, .slice ca cn cc, .int .i64 arg, .int .u64 (mask : Nat), .string sign, .int .u64 (value : Nat), .int .u32 (act : Nat)] 46) = w7 at *
        have hb7 := HWR.out.trans (hy7.mono HWR.out.size)
        have hI7 := HI.out.below hy7
        have hU7 := HU.out.below hy7
        generalize wr.heap.size = b7 at *
        have HN7 := Lib.hid hn7; have HB7 := Lib.hid hb7; have HI7 := Lib.hid hI7; have HU7 := Lib.hid hU7
        clear hn7 hy7 hb7 hI7 hU7 e0 e1 e2 e3 e4 e5 e6 e7 HI HU HWR
        have y0 := below_cell (Below.refl _ _) HN7.out 0 rfl
        obtain ⟨g0, g1, g2, g3, g4, g5, g6, g7, g8, g9, g10, g11⟩ := HXC.out _ HB7.out
        go_wp2_with fail
        refine (u32Contains w7 ka kn kc nrs nr HU7.out).mono ?_
        rintro e w8 ⟨rfl, hb8⟩
        have HB8 := Lib.hid hb8; have HX8 := Lib.hid (HB7.out.trans (hb8.mono HB7.out.size))
        clear g0 g1 g2 g3 g4 g5 g6 g7 g8 g9 g10 g11 y0 hb8
        generalize nrs.contains nr = q1 at *
        cases q1
        · have hm := HMI.out rfl
          have HM := Lib.hid hm
          clear hm HMI HHI
          go_wp2_with fail
          go_roundw
          case rel => exact ⟨j + 1, by go_num, by have := HLT.out; omega, HM.out.symm, HX8.out⟩
          case measure => have := HLT.out; simp [intOf]; omega
        · have y1 := below_cell HB8.out HN7.out 1 rfl
          have y2 := below_cell HB8.out HN7.out 2 rfl
          have y3 := below_cell HB8.out HN7.out 3 rfl
          have y4 := below_cell HB8.out HN7.out 4 rfl
          have y5 := below_cell HB8.out HN7.out 5 rfl
          have y6 := below_cell HB8.out HN7.out 6 rfl
          obtain ⟨g0, g1, g2, g3, g4, g5, g6, g7, g8, g9, g10, g11⟩ := HXC.out _ HX8.out
          go_wp2_with fail
          refine (HD.out _ _ _ (HI7.out.below HB8.out)).mono ?_
          rintro e w9 ⟨rfl, hb9⟩
          have HX9 := Lib.hid (HX8.out.trans (hb9.mono HX8.out.size))
          have y7 := below_cell (HB8.out.trans (hb9.mono HB8.out.size)) HN7.out 7 rfl
          clear g0 g1 g2 g3 g4 g5 g6 g7 g8 g9 g10 g11 y1 y2 y3 y4 y5 y6 hb9
          generalize Cnd.does _ _ = q2 at *
          cases q2
          · have hm := HMI.out rfl
            have HM := Lib.hid hm
            clear hm HMI HHI
            go_wp2_with fail
            go_roundw
            case rel => exact ⟨j + 1, by go_num, by have := HLT.out; omega, HM.out.symm, HX9.out⟩
            case measure => have := HLT.out; simp [intOf]; omega
          · have hh := HHI.out rfl
            subst hh
            clear HMI HHI
            go_wp2_with fail
            go_ret
            exact ⟨rfl, HBW.out.trans (HX9.out.mono HBW.out.size)⟩
      · obtain rfl : j = n := by omega
        obtain ⟨g0, g1, g2, g3, g4, g5, g6, g7, g8, g9, g10, g11⟩ := HXC.out _ HWR.out
        have hee := HEND.out
        rw [HEV.out] at hee
        have HEE := Lib.hid hee
        clear hee HEND HEV HHIT HMISS
        go_wp2_with fail
        go_ret
        exact ⟨by rw [HEE.out]; rfl, HBW.out.trans (HWR.out.mono HBW.out.size)⟩
  · have hae : ((arch : Int) != ((t.arch : Nat) : Int)) = true := by rw [bne_iff_ne]; omega
    have hE2 : E = 2147483648 := by rw [HE.out, if_neg ha]
    subst hE2
    have HBW2 := Lib.hid hbW
    clear ha HE hbW HHIT HMISS HEND HMT HD HL
    obtain ⟨TA, hTA⟩ : ∃ x, t.arch = x := ⟨_, rfl⟩
    rw [hTA] at hae g0 hW ⊢
    go_enter Try.func16, Try.ntmps16
    go_upto_region 1 with fail
    rw [← hW]
    clear hW
    go_wp2_with fail
    go_ret
    exact ⟨rfl, HBW.out⟩
end Go.Proofs.Ytgcngmlndijppaa
