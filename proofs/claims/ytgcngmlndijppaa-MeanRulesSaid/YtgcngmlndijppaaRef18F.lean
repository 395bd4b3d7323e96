/- The reference of layer 18: a checked policy of few rules; what either answers a record. -/
import Derived.Test.YtgcngmlndijppaaRef18E
import Derived.Test.YtgcngmlndijppaaRUnp
import Derived.Test.YtgcngmlndijppaaRef15M
namespace Go.Proofs.Ytgcngmlndijppaa
open Go.RowKit Go.ChangeShapes
set_option linter.unusedVariables false

def Mtc.few (m : Mtc) : Bool := decide (m.nrs.length ≤ 60) && decide (m.cnd.size ≤ 100)
def Typ.few (t : Typ) : Bool := decide (t.rules.length ≤ 30) && t.rules.all Mtc.few
theorem few_yes (l : List Mtc) (n : Nat) (hn : l.length = n) (h : ∀ i, i < n → (l.getD i mtcZ).few = true) : l.all Mtc.few = true := by
  rw [List.all_eq_true]
  intro m hm
  obtain ⟨i, hi, rfl⟩ := List.mem_iff_getElem.1 hm
  have := h i (by omega)
  rwa [show l.getD i mtcZ = l[i] by simp [List.getD, hi]] at this
theorem few_no (l : List Mtc) (n : Nat) (hn : l.length = n) (i : Nat) (hi : i < n) (h : (l.getD i mtcZ).few = false) : l.all Mtc.few = false := by
  have hi' : i < l.length := by omega
  rw [show l.getD i mtcZ = l[i] by simp [List.getD, hi']] at h
  rw [List.all_eq_false]
  exact ⟨_, List.getElem_mem hi', by rw [h]; decide⟩
set_option maxRecDepth 100000 in
set_option maxHeartbeats 2000000 in
theorem refFew18 (t : Typ) (v : Value) (w : World) (h : IsTyp w v t) :
    Calls Try.prog 13 #[v] w fun e w' => e = .returned (.bool t.few) ∧ Below w.heap.size w w' := by
  obtain ⟨ht1, ht2, k, rfl, hk⟩ := h
  obtain ⟨A, n, c, rfl, hl, hc1, hc2, _⟩ := id hk
  have hmt := fun u (hu : Below w.heap.size w u) j hj => mtcs_at hk hu j hj
  have hM := fun (cn : Cnd) (v : Value) (u : World) (h : IsCnd u v cn) => refMany_any cn v 100 u h (by omega) (by omega)
  have hnI : (n : Int) ≤ 9223372036854775807 := by omega
  have hfw : t.few = (decide (n ≤ 30) && t.rules.all Mtc.few) := by rw [← hl]; rfl
  have HYES := Lib.hid (few_yes t.rules n hl); have HNO := Lib.hid (few_no t.rules n hl)
  have hnw := heap_alloc_new w (.cells #[.int .u32 (t.arch : Nat), .int .u32 (t.dflt : Nat), .slice A n c] 35)
  have hw1 := (Below.refl w.heap.size w).alloc (Nat.le_refl _) (.cells #[.int .u32 (t.arch : Nat), .int .u32 (t.dflt : Nat), .slice A n c] 35)
  have HNW := Lib.hid hnw; have HW1 := Lib.hid hw1; have HMT := Lib.hid hmt; have HM := Lib.hid hM; have HFW := Lib.hid hfw
  clear hnw hw1 hmt hM hfw hl hk hc1 hc2 ht1 ht2
  generalize t.few = F at *
  by_cases h30 : n ≤ 30
  · have h30I : ¬ (30 : Int) < n := by omega
    have hF : F = t.rules.all Mtc.few := by rw [HFW.out, decide_eq_true h30]; rfl
    have HF := Lib.hid hF
    clear hF HFW
    go_enter Try.func13, Try.ntmps13
    go_upto_region 4 with fail
    go_loopw [12] (fun z wr => ∃ j : Nat, z = .int .i64 (j : Nat) ∧ j ≤ n ∧ (∀ i, i < j → (t.rules.getD i mtcZ).few = true) ∧ Below w.heap.size w wr) (fun z _ => n - (intOf z).toNat)
    case atStart => exact ⟨0, rfl, by omega, fun i hi => absurd hi (Nat.not_lt_zero i), HW1.out⟩
    case round =>
      obtain ⟨j, rfl, hj, hev, hwr⟩ := hrel
      have HEV := Lib.hid hev; have HWR := Lib.hid hwr
      clear hev hwr
      by_cases hlt : j < n
      · obtain ⟨b, off, rfl, hat⟩ := HMT.out wr HWR.out j hlt
        have hno := HNO.out j hlt
        obtain ⟨_, hbd, ka, kn, kc, ca, cn, cc, hu, hkc, e0, e1, e2, e3, e4, e5, e6, e7⟩ := hat.cell
        have hjI : (j : Int) < n := by omega
        have hkn : (t.rules.getD j mtcZ).nrs.length = kn := by obtain ⟨_, _, _, hv, h1, _⟩ := hu; injection hv with _ q2 _; rw [h1, q2]
        have hnext : (t.rules.getD j mtcZ).few = true → ∀ i, i < j + 1 → (t.rules.getD i mtcZ).few = true := fun h i hi => by
          by_cases e : i < j
          · exact HEV.out i e
          · obtain rfl : i = j := by omega
            exact h
        have hfe : (t.rules.getD j mtcZ).few = (decide (kn ≤ 60) && decide ((t.rules.getD j mtcZ).cnd.size ≤ 100)) := by rw [← hkn]; rfl
        rw [hfe] at hno hnext
        generalize t.rules.getD j mtcZ = m at *
        obtain ⟨nrs, cd, act⟩ := m
        simp only at hfe hno hnext hbd hkc e0 e1 e2 e3 e4 e5 e6 e7
        have hi : IsCnd wr (.agg #[.int .i64 cd.kind, .slice ca cn cc, .int .i64 cd.arg, .int .u64 (cd.mask : Nat), .string cd.sign, .int .u64 (cd.value : Nat)]) cd := ⟨hbd, _, rfl, hkc⟩
        obtain ⟨S, hS⟩ : ∃ S, cd.size = S := ⟨_, rfl⟩
        rw [hS] at hno hnext
        have HI := Lib.hid hi; have HNN := Lib.hid hno; have HNX := Lib.hid hnext; have HLT := Lib.hid hlt; have HS := Lib.hid hS
        clear hi hno hnext hat hbd hkc hu hlt HNO HEV hkn hfe hS
        obtain ⟨kind, kids, arg, mask, sign, value⟩ := cd
        simp only [Cnd.kind, Cnd.arg, Cnd.mask, Cnd.sign, Cnd.value] at HI e1 e3 e4 e5 e6
        go_upto_region 6 with fail
        have hn7 := heap_alloc_new wr (.cells #[.slice ka kn kc, .int .i64 kind, .slice ca cn cc, .int .i64 arg, .int .u64 (mask : Nat), .string sign, .int .u64 (value : Nat), .int .u32 (act : Nat)] 46)
        have hy7 := (Below.refl wr.heap.size wr).alloc (Nat.le_refl _) (.cells #[.slice ka kn kc, .int .i64 kind, .slice ca cn cc, .int .i64 arg, .int .u64 (mask : Nat), .string sign, .int .u64 (value : Nat), .int .u32 (act : Nat)] 46)
        generalize wr.alloc (.cells #[.slice ka kn kc, .int .i64 kind, .slice ca cn cc, .int .i64 arg, .int .u64 (mask : Nat), .string sign, .int .u64 (value : Nat), .int .u32 (act : Nat)] 46) = w7 at *
        have hb7 := HWR.out.trans (hy7.mono HWR.out.size)
        have hI7 := HI.out.below hy7
        generalize wr.heap.size = b7 at *
        have y0 := below_cell (Below.refl _ _) hn7 0 rfl
        have y1 := below_cell (Below.refl _ _) hn7 1 rfl
        have y2 := below_cell (Below.refl _ _) hn7 2 rfl
        have y3 := below_cell (Below.refl _ _) hn7 3 rfl
        have y4 := below_cell (Below.refl _ _) hn7 4 rfl
        have y5 := below_cell (Below.refl _ _) hn7 5 rfl
        have y6 := below_cell (Below.refl _ _) hn7 6 rfl
        have HB7 := Lib.hid hb7
        have hcall := HM.out _ _ _ hI7
        rw [HS.out] at hcall
        have HC := Lib.hid hcall
        clear hn7 hy7 hb7 hI7 hcall e0 e1 e2 e3 e4 e5 e6 e7 HI HWR HS
        by_cases h60 : kn ≤ 60
        · have h60I : ¬ (60 : Int) < kn := by omega
          have hd60 : decide (kn ≤ 60) = true := decide_eq_true h60
          rw [hd60] at HNN HNX
          clear h60 hd60
          go_wp2_with fail
          refine HC.out.mono ?_
          rintro e w8 ⟨rfl, hb8⟩
          have HB8 := Lib.hid (HB7.out.trans (hb8.mono HB7.out.size))
          clear y0 y1 y2 y3 y4 y5 y6 hb8
          by_cases hs : S ≤ 100
          · have hmin : ¬ (100 : Int) < ((min S (100 + 1) : Nat) : Int) := by omega
            have hn2 := HNX.out (by rw [decide_eq_true hs]; rfl)
            have HN2 := Lib.hid hn2
            clear hs hn2 HNX HNN
            generalize min S (100 + 1) = M at *
            go_wp2_with fail
            go_roundw
            case rel => exact ⟨j + 1, by go_num, by have := HLT.out; omega, HN2.out, HB8.out⟩
            case measure => have := HLT.out; simp [intOf]; omega
          · have hmin : (100 : Int) < ((min S (100 + 1) : Nat) : Int) := by omega
            have hn2 := HNN.out (by rw [decide_eq_false hs]; rfl)
            have HN2 := Lib.hid hn2
            clear hs hn2 HNX HNN
            generalize min S (100 + 1) = M at *
            go_wp2_with fail
            go_ret
            exact ⟨by rw [HF.out, HN2.out]; rfl, HB8.out⟩
        · have h60I : (60 : Int) < kn := by omega
          have hn2 := HNN.out (by rw [decide_eq_false h60]; rfl)
          have HN2 := Lib.hid hn2
          clear h60 hn2 HNX HNN
          go_wp2_with fail
          go_ret
          exact ⟨by rw [HF.out, HN2.out]; rfl, HB7.out⟩
      · obtain rfl : j = n := by omega
        have hy := HYES.out HEV.out
        have HY := Lib.hid hy
        clear hy HYES HNO HEV
        go_wp2_with fail
        go_ret
        exact ⟨by rw [HF.out, HY.out]; rfl, HWR.out⟩
  · have h30I : (30 : Int) < n := by omega
    have hF : F = false := by rw [HFW.out, decide_eq_false h30]; rfl
    subst hF
    clear h30 HFW HYES HNO
    go_enter Try.func13, Try.ntmps13
    go_wp2_with fail
    go_ret
    exact ⟨rfl, HW1.out⟩
/-- what a checked policy answers a record -/
def Typ.ofN (t : Typ) (s : ByteArray) : Nat := if s.size = 64 then t.eval (unpC s) else 0
set_option maxRecDepth 100000 in
set_option maxHeartbeats 1000000 in
theorem mnOf (t : Typ) (v : Value) (s : ByteArray) (w : World) (h : IsTyp w v t) :
    Calls Try.prog 14 #[v, .string s] w fun e w' => e = .returned (.tuple #[.int .u32 (t.ofN s : Nat), .int .i64 (unpE s)]) ∧ Below w.heap.size w w' := by
  obtain ⟨ht1, ht2, k, rfl, hk⟩ := id h
  obtain ⟨A, n, c, rfl, _⟩ := id hk
  have hnw := heap_alloc_new w (.cells #[.int .u32 (t.arch : Nat), .int .u32 (t.dflt : Nat), .slice A n c] 35)
  have hw1 := (Below.refl w.heap.size w).alloc (Nat.le_refl _) (.cells #[.int .u32 (t.arch : Nat), .int .u32 (t.dflt : Nat), .slice A n c] 35)
  have hU := fun u => callUnpack_any s u
  have hok := unpC_ok s
  have hE := fun u (hu : Below w.heap.size w u) => mnEval t _ u _ hok (h.below hu)
  have hof : t.ofN s = if s.size = 64 then t.eval (unpC s) else 0 := rfl
  have he : unpE s = if s.size = 64 then 0 else 52 := rfl
  generalize unpC s = X at *
  obtain ⟨nr, arch, ip, a0, a1, a2, a3, a4, a5, rfl⟩ := Cal.list6 hok
  change ∀ u, Calls _ _ #[_] _ (fun e w' => e = .returned (.tuple #[callV nr arch ip a0 a1 a2 a3 a4 a5, _]) ∧ _) at hU
  change ∀ u, _ → Calls _ _ #[_, callV nr arch ip a0 a1 a2 a3 a4 a5] _ _ at hE
  unfold callV at hU hE
  generalize t.eval _ = E at *
  generalize t.ofN s = O at *
  generalize unpE s = Y at *
  have HNW := Lib.hid hnw; have HW1 := Lib.hid hw1; have HU := Lib.hid hU; have HE := Lib.hid hE; have HOF := Lib.hid hof; have HY := Lib.hid he
  clear hnw hw1 hU hE hof he hk hok ht1 ht2 h
  go_enter Try.func14, Try.ntmps14
  go_wp2_with fail
  refine (HU.out _).mono ?_
  rintro e w2 ⟨rfl, hb2⟩
  have HB2 := Lib.hid hb2
  have HW2 := Lib.hid (HW1.out.trans (hb2.mono HW1.out.size))
  clear hb2
  by_cases hs : s.size = 64
  · have hy : Y = 0 := by rw [HY.out, if_pos hs]
    have ho : O = E := by rw [HOF.out, if_pos hs]
    subst hy ho
    clear HY HOF hs
    have hn3 := heap_alloc_new w2 (.cells #[.int .u32 (nr : Nat), .int .u32 (arch : Nat), .int .u64 (ip : Nat), .int .u64 (a0 : Nat), .int .u64 (a1 : Nat), .int .u64 (a2 : Nat), .int .u64 (a3 : Nat), .int .u64 (a4 : Nat), .int .u64 (a5 : Nat)] 29)
    have hy3 := (Below.refl w2.heap.size w2).alloc (Nat.le_refl _) (.cells #[.int .u32 (nr : Nat), .int .u32 (arch : Nat), .int .u64 (ip : Nat), .int .u64 (a0 : Nat), .int .u64 (a1 : Nat), .int .u64 (a2 : Nat), .int .u64 (a3 : Nat), .int .u64 (a4 : Nat), .int .u64 (a5 : Nat)] 29)
    go_upto_region 2 with fail
    generalize w2.alloc (.cells #[.int .u32 (nr : Nat), .int .u32 (arch : Nat), .int .u64 (ip : Nat), .int .u64 (a0 : Nat), .int .u64 (a1 : Nat), .int .u64 (a2 : Nat), .int .u64 (a3 : Nat), .int .u64 (a4 : Nat), .int .u64 (a5 : Nat)] 29) = w3 at *
    have hb3 := HB2.out.trans (hy3.mono HB2.out.size)
    have HW3 := Lib.hid (HW2.out.trans (hy3.mono HW2.out.size))
    have t0 := below_cell hb3 HNW.out 0 rfl
    have t1 := below_cell hb3 HNW.out 1 rfl
    have t2 := below_cell hb3 HNW.out 2 rfl
    generalize w2.heap.size = b3 at *
    have x0 := below_cell (Below.refl _ _) hn3 0 rfl
    have x1 := below_cell (Below.refl _ _) hn3 1 rfl
    have x2 := below_cell (Below.refl _ _) hn3 2 rfl
    have x3 := below_cell (Below.refl _ _) hn3 3 rfl
    have x4 := below_cell (Below.refl _ _) hn3 4 rfl
    have x5 := below_cell (Below.refl _ _) hn3 5 rfl
    have x6 := below_cell (Below.refl _ _) hn3 6 rfl
    have x7 := below_cell (Below.refl _ _) hn3 7 rfl
    have x8 := below_cell (Below.refl _ _) hn3 8 rfl
    clear hn3 hy3 hb3 HNW HB2
    go_wp2_with fail
    refine (HE.out _ HW3.out).mono ?_
    rintro e w4 ⟨rfl, hb4⟩
    have HW4 := Lib.hid (HW3.out.trans (hb4.mono HW3.out.size))
    clear hb4 t0 t1 t2 x0 x1 x2 x3 x4 x5 x6 x7 x8
    go_wp2_with fail
    go_ret2
    exact ⟨rfl, HW4.out⟩
  · have hy : Y = 52 := by rw [HY.out, if_neg hs]
    have ho : O = 0 := by rw [HOF.out, if_neg hs]
    subst hy ho
    clear HY HOF hs
    go_wp2_with fail
    go_ret2
    exact ⟨rfl, HW2.out.alloc HW2.out.size _⟩
set_option maxRecDepth 100000 in
set_option maxHeartbeats 1000000 in
theorem refOf18 (t : Typ) (v : Value) (s : ByteArray) (w : World) (h : IsTyp w v t) :
    Calls Try.prog 15 #[v, .string s] w fun e w' => e = .returned (.tuple #[.int .u32 (t.ofN s : Nat), .int .i64 (unpE s)]) ∧ Below w.heap.size w w' := by
  obtain ⟨ht1, ht2, k, rfl, hk⟩ := id h
  obtain ⟨A, n, c, rfl, _⟩ := id hk
  have hnw := heap_alloc_new w (.cells #[.int .u32 (t.arch : Nat), .int .u32 (t.dflt : Nat), .slice A n c] 35)
  have hw1 := (Below.refl w.heap.size w).alloc (Nat.le_refl _) (.cells #[.int .u32 (t.arch : Nat), .int .u32 (t.dflt : Nat), .slice A n c] 35)
  have hU := fun u => refUnpack_any s u
  have hok := unpC_ok s
  have hE := fun u (hu : Below w.heap.size w u) => refEval18 t _ u _ hok (h.below hu)
  have hof : t.ofN s = if s.size = 64 then t.eval (unpC s) else 0 := rfl
  have he : unpE s = if s.size = 64 then 0 else 52 := rfl
  generalize unpC s = X at *
  obtain ⟨nr, arch, ip, a0, a1, a2, a3, a4, a5, rfl⟩ := Cal.list6 hok
  change ∀ u, Calls _ _ #[_] _ (fun e w' => e = .returned (.tuple #[callV nr arch ip a0 a1 a2 a3 a4 a5, _]) ∧ _) at hU
  change ∀ u, _ → Calls _ _ #[_, callV nr arch ip a0 a1 a2 a3 a4 a5] _ _ at hE
  unfold callV at hU hE
  generalize t.eval _ = E at *
  generalize t.ofN s = O at *
  generalize unpE s = Y at *
  have HNW := Lib.hid hnw; have HW1 := Lib.hid hw1; have HU := Lib.hid hU; have HE := Lib.hid hE; have HOF := Lib.hid hof; have HY := Lib.hid he
  clear hnw hw1 hU hE hof he hk hok ht1 ht2 h
  go_enter Try.func15, Try.ntmps15
  go_wp2_with fail
  refine (HU.out _).mono ?_
  rintro e w2 ⟨rfl, hb2⟩
  have HB2 := Lib.hid hb2
  have HW2 := Lib.hid (HW1.out.trans (hb2.mono HW1.out.size))
  clear hb2
  by_cases hs : s.size = 64
  · have hy : Y = 0 := by rw [HY.out, if_pos hs]
    have ho : O = E := by rw [HOF.out, if_pos hs]
    subst hy ho
    clear HY HOF hs
    have hn3 := heap_alloc_new w2 (.cells #[.int .u32 (nr : Nat), .int .u32 (arch : Nat), .int .u64 (ip : Nat), .int .u64 (a0 : Nat), .int .u64 (a1 : Nat), .int .u64 (a2 : Nat), .int .u64 (a3 : Nat), .int .u64 (a4 : Nat), .int .u64 (a5 : Nat)] 29)
    have hy3 := (Below.refl w2.heap.size w2).alloc (Nat.le_refl _) (.cells #[.int .u32 (nr : Nat), .int .u32 (arch : Nat), .int .u64 (ip : Nat), .int .u64 (a0 : Nat), .int .u64 (a1 : Nat), .int .u64 (a2 : Nat), .int .u64 (a3 : Nat), .int .u64 (a4 : Nat), .int .u64 (a5 : Nat)] 29)
    go_upto_region 2 with fail
    generalize w2.alloc (.cells #[.int .u32 (nr : Nat), .int .u32 (arch : Nat), .int .u64 (ip : Nat), .int .u64 (a0 : Nat), .int .u64 (a1 : Nat), .int .u64 (a2 : Nat), .int .u64 (a3 : Nat), .int .u64 (a4 : Nat), .int .u64 (a5 : Nat)] 29) = w3 at *
    have hb3 := HB2.out.trans (hy3.mono HB2.out.size)
    have HW3 := Lib.hid (HW2.out.trans (hy3.mono HW2.out.size))
    have t0 := below_cell hb3 HNW.out 0 rfl
    have t1 := below_cell hb3 HNW.out 1 rfl
    have t2 := below_cell hb3 HNW.out 2 rfl
    generalize w2.heap.size = b3 at *
    have x0 := below_cell (Below.refl _ _) hn3 0 rfl
    have x1 := below_cell (Below.refl _ _) hn3 1 rfl
    have x2 := below_cell (Below.refl _ _) hn3 2 rfl
    have x3 := below_cell (Below.refl _ _) hn3 3 rfl
    have x4 := below_cell (Below.refl _ _) hn3 4 rfl
    have x5 := below_cell (Below.refl _ _) hn3 5 rfl
    have x6 := below_cell (Below.refl _ _) hn3 6 rfl
    have x7 := below_cell (Below.refl _ _) hn3 7 rfl
    have x8 := below_cell (Below.refl _ _) hn3 8 rfl
    clear hn3 hy3 hb3 HNW HB2
    go_wp2_with fail
    refine (HE.out _ HW3.out).mono ?_
    rintro e w4 ⟨rfl, hb4⟩
    have HW4 := Lib.hid (HW3.out.trans (hb4.mono HW3.out.size))
    clear hb4 t0 t1 t2 x0 x1 x2 x3 x4 x5 x6 x7 x8
    go_wp2_with fail
    go_ret2
    exact ⟨rfl, HW4.out⟩
  · have hy : Y = 52 := by rw [HY.out, if_neg hs]
    have ho : O = 0 := by rw [HOF.out, if_neg hs]
    subst hy ho
    clear HY HOF hs
    go_wp2_with fail
    go_ret2
    exact ⟨rfl, HW2.out.alloc HW2.out.size _⟩
end Go.Proofs.Ytgcngmlndijppaa
