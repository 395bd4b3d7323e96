/- EvalR, Ref18, Ref18H, Ref18E, Ref01Num, Word11, Ref19, in one text. -/
import Derived.Test.YtcejhfpdajbdcaaHold
import Derived.Test.YtcejhfpdajbdcaaPkA
import Derived.BigQuiet
import Derived.Deep.RegionWith
import Derived.Test.YtcejhfpdajbdcaaLeGet
import Derived.Test.YtcejhfpdajbdcaaOp
import Derived.Test.YtcejhfpdajbdcaaWordWalk
namespace Go.Proofs.Ytcejhfpdajbdcaa
section SEvalR
open Go.RowKit Go.ChangeShapes
set_option linter.unusedVariables false

def Mtc.hits (m : Mtc) (nr : Nat) (args : List Nat) : Bool := m.nrs.contains nr && m.cnd.does args
def evalR : List Mtc → Nat → Nat → List Nat → Nat
  | [], d, _, _ => d
  | m :: l, d, nr, args => if m.hits nr args = true then m.act else evalR l d nr args
def Typ.eval (t : Typ) (x : Cal) : Nat := if x.arch = t.arch then evalR t.rules t.dflt x.nr x.args else 2147483648
theorem evalR_hit (l : List Mtc) (d nr : Nat) (args : List Nat) (j : Nat) (hj : j < l.length) (h : (l.getD j mtcZ).hits nr args = true) : evalR (l.drop j) d nr args = (l.getD j mtcZ).act := by
  rw [List.drop_eq_getElem_cons hj, evalR]
  rw [show l.getD j mtcZ = l[j] by simp [List.getD, hj]] at h ⊢
  rw [if_pos h]
theorem evalR_miss (l : List Mtc) (d nr : Nat) (args : List Nat) (j : Nat) (hj : j < l.length) (h : (l.getD j mtcZ).hits nr args = false) : evalR (l.drop j) d nr args = evalR (l.drop (j + 1)) d nr args := by
  rw [List.drop_eq_getElem_cons hj, evalR]
  rw [show l.getD j mtcZ = l[j] by simp [List.getD, hj]] at h
  rw [if_neg (by rw [h]; decide)]
theorem evalR_end (l : List Mtc) (d nr : Nat) (args : List Nat) (n : Nat) (h : l.length = n) : evalR (l.drop n) d nr args = d := by
  rw [← h, List.drop_length]; rfl
theorem mtcs_at {w u : World} {A : Option Addr} {n c : Nat} {l : List Mtc} (h : IsMtcs w (.slice A n c) l) (hb : Below w.heap.size w u) (j : Nat) (hj : j < n) : ∃ b off, A = some ⟨b, off, none⟩ ∧ MtcAt u (l.getD j mtcZ) b (off + j * 8) := by
  obtain ⟨_, _, _, hv, h1, h2, h3, h4, h5⟩ := h
  injection hv with e1 e2 e3
  subst e1 e2 e3
  obtain ⟨b, off, rfl, hlt, hat⟩ := h5.resolve_left (by omega)
  exact ⟨b, off, rfl, (hat j hj).below hb hlt⟩
end SEvalR
section SRef18
open Go.RowKit Go.ChangeShapes
set_option linter.unusedVariables false

set_option maxRecDepth 100000 in
set_option maxHeartbeats 1000000 in
theorem refTest18 (ka : Option Addr) (kn kc j mask : Nat) (sign : ByteArray) (value nr arch ip a0 a1 a2 a3 a4 a5 : Nat) (hj5 : j ≤ 5) (hsg : signOk sign = true) (hmk : mask ≤ 18446744073709551615)
    (x5 : ∀ a ∈ [a0, a1, a2, a3, a4, a5], a ≤ 18446744073709551615) (w : World) :
    Calls Try.prog 68 #[.agg #[.int .i64 4, .slice ka kn kc, .int .i64 (j : Nat), .int .u64 (mask : Nat), .string sign, .int .u64 (value : Nat)], callV nr arch ip a0 a1 a2 a3 a4 a5] w fun e w' => e = .returned (.bool (signV sign ([a0, a1, a2, a3, a4, a5].getD j 0 &&& mask) value)) ∧ Below w.heap.size w w' := by
  obtain ⟨W, hW, f0, f1, hBW⟩ := two_at w (.cells #[.int .i64 4, .slice ka kn kc, .int .i64 (j : Nat), .int .u64 (mask : Nat), .string sign, .int .u64 (value : Nat)] 31) (callO nr arch ip a0 a1 a2 a3 a4 a5)
  obtain ⟨aj, haj⟩ : ∃ aj, [a0, a1, a2, a3, a4, a5].getD j 0 = aj := ⟨_, rfl⟩
  have hajle : aj ≤ 18446744073709551615 := by
    rw [← haj, List.getD_eq_getElem?_getD, List.getElem?_eq_getElem (by simp; omega)]
    exact x5 _ (List.getElem_mem _)
  have hcx : (#[Value.int .u32 (nr : Nat), .int .u32 (arch : Nat), .int .u64 (ip : Nat), .int .u64 (a0 : Nat), .int .u64 (a1 : Nat), .int .u64 (a2 : Nat), .int .u64 (a3 : Nat), .int .u64 (a4 : Nat), .int .u64 (a5 : Nat)] : Array Value)[3 + j]? = some (.int .u64 (aj : Nat)) := by
    rw [← haj]
    rcases (by omega : j = 0 ∨ j = 1 ∨ j = 2 ∨ j = 3 ∨ j = 4 ∨ j = 5) with rfl | rfl | rfl | rfl | rfl | rfl <;> rfl
  rw [haj]
  unfold callO at hW f1
  unfold callV
  have kA := below_cell (Below.refl _ W) f1 (3 + j) hcx
  have k2 := below_cell (Below.refl _ W) f0 2 rfl
  have k3 := below_cell (Below.refl _ W) f0 3 rfl
  have k4 := below_cell (Below.refl _ W) f0 4 rfl
  have k5 := below_cell (Below.refl _ W) f0 5 rfl
  have hand := and_u64n aj mask hajle hmk
  obtain ⟨am, ham⟩ : ∃ am, aj &&& mask = am := ⟨_, rfl⟩
  rw [ham] at hand ⊢
  have hjI : (j : Int) < 6 := by omega
  have HBW := Lib.hid hBW
  clear haj hajle x5 hmk ham hcx f0 f1 hBW hj5
  rcases signs6 sign hsg with ⟨rfl, hv⟩ | ⟨rfl, hv⟩ | ⟨rfl, hv⟩ | ⟨rfl, hv⟩ | ⟨rfl, hv⟩ | ⟨rfl, hv⟩
  · rw [hv]
    unfold sGe at *
    clear hv hsg
    go_enter Try.func68, Try.ntmps68
    go_upto_region 1 with fail
    rw [← hW]
    clear hW
    go_quiet (fail)
    go_wp2_with fail
    go_ret
    exact ⟨by first | (simp; done) | (simp; rw [Bool.eq_iff_iff]; simp), belowN HBW.out _⟩
  · rw [hv]
    unfold sGt at *
    clear hv hsg
    go_enter Try.func68, Try.ntmps68
    go_upto_region 1 with fail
    rw [← hW]
    clear hW
    go_quiet (fail)
    go_wp2_with fail
    go_ret
    exact ⟨by first | (simp; done) | (simp; rw [Bool.eq_iff_iff]; simp), belowN HBW.out _⟩
  · rw [hv]
    unfold sLe at *
    clear hv hsg
    go_enter Try.func68, Try.ntmps68
    go_upto_region 1 with fail
    rw [← hW]
    clear hW
    go_quiet (fail)
    go_wp2_with fail
    go_ret
    exact ⟨by first | (simp; done) | (simp; rw [Bool.eq_iff_iff]; simp), belowN HBW.out _⟩
  · rw [hv]
    unfold sLt at *
    clear hv hsg
    go_enter Try.func68, Try.ntmps68
    go_upto_region 1 with fail
    rw [← hW]
    clear hW
    go_quiet (fail)
    go_wp2_with fail
    go_ret
    exact ⟨by first | (simp; done) | (simp; rw [Bool.eq_iff_iff]; simp), belowN HBW.out _⟩
  · rw [hv]
    unfold sNe at *
    clear hv hsg
    by_cases h : am = value
    · subst h
      go_enter Try.func68, Try.ntmps68
      go_upto_region 1 with fail
      rw [← hW]
      clear hW
      go_quiet (fail)
      go_wp2_with fail
      go_ret
      exact ⟨by first | (simp; done) | (simp; rw [Bool.eq_iff_iff]; simp), belowN HBW.out _⟩
    · have hb : ((am : Int) == value) = false := by rw [beq_eq_false_iff_ne]; omega
      have HNE := Lib.hid h
      clear h
      go_enter Try.func68, Try.ntmps68
      go_upto_region 1 with fail
      rw [← hW]
      clear hW
      go_quiet (fail)
      go_wp2_with fail
      go_ret
      exact ⟨by simp [HNE.out], belowN HBW.out _⟩
  · rw [hv]
    unfold sEq at *
    clear hv hsg
    by_cases h : am = value
    · subst h
      go_enter Try.func68, Try.ntmps68
      go_upto_region 1 with fail
      rw [← hW]
      clear hW
      go_quiet (fail)
      go_wp2_with fail
      go_ret
      exact ⟨by first | (simp; done) | (simp; rw [Bool.eq_iff_iff]; simp), belowN HBW.out _⟩
    · have hb : ((am : Int) == value) = false := by rw [beq_eq_false_iff_ne]; omega
      have HNE := Lib.hid h
      clear h
      go_enter Try.func68, Try.ntmps68
      go_upto_region 1 with fail
      rw [← hW]
      clear hW
      go_quiet (fail)
      go_wp2_with fail
      go_ret
      exact ⟨by simp [HNE.out], belowN HBW.out _⟩
end SRef18
section SRef18H
open Go.RowKit Go.ChangeShapes
set_option linter.unusedVariables false

/-- how many of a row hold -/
def cntH (args : List Nat) (l : List Cnd) : Nat := (l.filter fun k => k.holds args).length
theorem cntH_all (args : List Nat) (l : List Cnd) : decide (cntH args l = l.length) = allH args l := by
  unfold cntH
  induction l with
  | nil => rfl
  | cons a l ih =>
    rw [allH, ← ih, List.filter_cons, List.length_cons]
    have := List.length_filter_le (fun k : Cnd => k.holds args) l
    cases h : a.holds args
    · simp; omega
    · simp
theorem cntH_any (args : List Nat) (l : List Cnd) : decide (0 < cntH args l) = anyH args l := by
  unfold cntH
  induction l with
  | nil => rfl
  | cons a l ih =>
    rw [anyH, ← ih, List.filter_cons]
    cases h : a.holds args
    · simp
    · simp
theorem cntH_step (args : List Nat) (l : List Cnd) (j : Nat) (hj : j < l.length) : cntH args (l.take (j + 1)) = cntH args (l.take j) + if (l.getD j cndZ).holds args = true then 1 else 0 := by
  unfold cntH
  rw [List.getD_eq_getElem?_getD, List.getElem?_eq_getElem hj, Option.getD_some, List.take_succ_eq_append_getElem hj, List.filter_append, List.length_append]
  congr 1
  cases h : (l[j]).holds args
  · rw [List.filter_cons_of_neg (by simp [h])]; rfl
  · rw [List.filter_cons_of_pos (by simp [h])]; rfl
theorem cntH_all2 (args : List Nat) (l : List Cnd) : (cntH args l = l.length → allH args l = true) ∧ (cntH args l ≠ l.length → allH args l = false) :=
  ⟨fun h => by rw [← cntH_all, decide_eq_true h], fun h => by rw [← cntH_all, decide_eq_false h]⟩
theorem cntH_any2 (args : List Nat) (l : List Cnd) : (cntH args l ≠ 0 → anyH args l = true) ∧ (cntH args l = 0 → anyH args l = false) :=
  ⟨fun h => by rw [← cntH_any, decide_eq_true (by omega)], fun h => by rw [← cntH_any, decide_eq_false (by omega)]⟩
theorem cntH_step2 (args : List Nat) (l : List Cnd) (j : Nat) (hj : j < l.length) : ((l.getD j cndZ).holds args = true → cntH args (l.take (j + 1)) = cntH args (l.take j) + 1) ∧ ((l.getD j cndZ).holds args = false → cntH args (l.take (j + 1)) = cntH args (l.take j)) :=
  ⟨fun h => by rw [cntH_step args l j hj, if_pos h], fun h => by rw [cntH_step args l j hj, if_neg (by rw [h]; decide)]; rfl⟩
theorem cntH_le (args : List Nat) (l : List Cnd) : cntH args l ≤ l.length := List.length_filter_le _ _
theorem cntH_nil (args : List Nat) (l : List Cnd) : cntH args (l.take 0) = 0 := rfl

set_option maxRecDepth 100000 in
set_option maxHeartbeats 4000000 in
theorem refHolds18 : ∀ (N : Nat) (c : Cnd), c.size ≤ N → c.fine = true → ∀ (v : Value) (w : World) (x : Cal), x.ok → IsCnd w v c →
    Calls Try.prog 52 #[v, x.value] w fun e w' => e = .returned (.bool (c.holds x.args)) ∧ Below w.heap.size w w' := by
  intro N
  induction N with
  | zero => intro c h; rw [c.size_eq] at h; omega
  | succ N ih =>
    intro c hsz hfine v w x hx h
    obtain ⟨hb, k, rfl, hk⟩ := h
    obtain ⟨ka, kn, kc, rfl, hkn, hkc, hkm, _⟩ := id hk
    rw [c.fine_eq, Bool.and_eq_true] at hfine
    obtain ⟨hal, hfk⟩ := hfine
    rw [c.size_eq] at hsz
    have hHE := c.holds_eq x.args
    have hkid : ∀ j, j < kn → (c.kids.getD j cndZ).size ≤ N ∧ (c.kids.getD j cndZ).fine = true := fun j hj => ⟨by have := size_kid c.kids j (by omega); omega, fines_get c.kids j (by omega) hfk⟩
    have hCA := cntH_all2 x.args c.kids
    have hCY := cntH_any2 x.args c.kids
    have hCS := cntH_step2 x.args c.kids
    have hCL := cntH_le x.args c.kids
    have hCT := cntH_le x.args
    rw [hkn] at hCA hCS hCL
    have hH1 : c.kind = 1 → c.holds x.args = allH x.args c.kids := fun h => by rw [hHE, if_pos h]
    have hH2 : c.kind = 2 → c.holds x.args = anyH x.args c.kids := fun h => by rw [hHE, if_neg (by omega), if_pos h]
    have hH3 : c.kind = 3 → c.holds x.args = !(anyH x.args c.kids) := fun h => by rw [hHE, if_neg (by omega), if_neg (by omega), if_pos h]
    have hH4 : c.kind = 4 → c.holds x.args = signV c.sign (x.args.getD c.arg.toNat 0 &&& c.mask) c.value := fun h => by rw [hHE, if_neg (by omega), if_neg (by omega), if_neg (by omega)]
    have hK : c.kind = 1 ∨ c.kind = 2 ∨ (c.kind = 3 ∧ kn = 1) ∨ (c.kind = 4 ∧ 0 ≤ c.arg ∧ c.arg ≤ 5 ∧ signOk c.sign = true) := by
      unfold Cnd.alone at hal
      split at hal
      · rename_i h4
        simp only [Bool.and_eq_true, decide_eq_true_eq] at hal
        exact .inr (.inr (.inr ⟨h4, hal.1.1.1, hal.1.1.2, hal.1.2⟩))
      split at hal
      · rename_i h12
        rcases h12 with h | h
        · exact .inl h
        · exact .inr (.inl h)
      split at hal
      · rename_i h3
        simp only [Bool.and_eq_true, decide_eq_true_eq] at hal
        exact .inr (.inr (.inl ⟨h3, by omega⟩))
      · cases hal
    obtain ⟨R, hR⟩ : ∃ R, c.holds x.args = R := ⟨_, rfl⟩
    rw [hR] at hH1 hH2 hH3 hH4 ⊢
    have hmk : c.mask ≤ 18446744073709551615 := hb.2.2.1
    have hx5 := hx.2.2.2.2
    obtain ⟨nr, arch, ip, a0, a1, a2, a3, a4, a5, rfl⟩ := Cal.list6 hx
    dsimp only at hx5 hCA hCY hCS hCL hH1 hH2 hH3 hH4
    have hih := fun (c : Cnd) h1 h2 v u hI => ih c h1 h2 v u ⟨nr, arch, ip, [a0, a1, a2, a3, a4, a5]⟩ hx hI
    have HIH := Lib.hid hih; have HH1 := Lib.hid hH1; have HH2 := Lib.hid hH2; have HH3 := Lib.hid hH3; have HH4 := Lib.hid hH4; have HKID := Lib.hid hkid; have HKK := Lib.hid hK; have HX5 := Lib.hid hx5; have HMK := Lib.hid hmk; have HCA := Lib.hid hCA; have HCY := Lib.hid hCY; have HCS := Lib.hid hCS; have HCL := Lib.hid hCL
    have hknI : (kn : Int) ≤ 9223372036854775807 := by omega
    clear ih hih hH1 hH2 hH3 hH4 hkid hK hR hHE hal hfk hsz hkc hkm hx hb hmk hx5 hCA hCY hCS hCL hCT
    obtain ⟨kind, kids, arg, mask, sign, value⟩ := c
    simp only [Cnd.kind, Cnd.arg, Cnd.mask, Cnd.sign, Cnd.value, Cnd.kids] at *
    show Calls _ _ #[.agg #[.int .i64 kind, .slice ka kn kc, .int .i64 arg, .int .u64 (mask : Nat), .string sign, .int .u64 (value : Nat)], callV nr arch ip a0 a1 a2 a3 a4 a5] _ _
    obtain ⟨W, hW, f0, f1, hBW⟩ := two_at w (.cells #[.int .i64 kind, .slice ka kn kc, .int .i64 arg, .int .u64 (mask : Nat), .string sign, .int .u64 (value : Nat)] 31) (callO nr arch ip a0 a1 a2 a3 a4 a5)
    unfold callO at hW f1
    unfold callV
    have hload := fun u (hu : Below W.heap.size W u) j hj => kid_load (hk.below hBW) hu rfl j hj
    have hcells : ∀ u, Below W.heap.size W u → u.cell? ⟨w.heap.size, 0, none⟩ = some (.int .i64 kind) ∧ u.cell? ⟨w.heap.size, 1, none⟩ = some (.slice ka kn kc) ∧ u.cell? ⟨w.heap.size, 2, none⟩ = some (.int .i64 arg) ∧ u.cell? ⟨w.heap.size, 3, none⟩ = some (.int .u64 (mask : Nat)) ∧ u.cell? ⟨w.heap.size, 4, none⟩ = some (.string sign) ∧ u.cell? ⟨w.heap.size, 5, none⟩ = some (.int .u64 (value : Nat)) ∧ u.cell? ⟨w.heap.size + 1, 0, none⟩ = some (.int .u32 (nr : Nat)) ∧ u.cell? ⟨w.heap.size + 1, 1, none⟩ = some (.int .u32 (arch : Nat)) ∧ u.cell? ⟨w.heap.size + 1, 2, none⟩ = some (.int .u64 (ip : Nat)) ∧ u.cell? ⟨w.heap.size + 1, 3, none⟩ = some (.int .u64 (a0 : Nat)) ∧ u.cell? ⟨w.heap.size + 1, 4, none⟩ = some (.int .u64 (a1 : Nat)) ∧ u.cell? ⟨w.heap.size + 1, 5, none⟩ = some (.int .u64 (a2 : Nat)) ∧ u.cell? ⟨w.heap.size + 1, 6, none⟩ = some (.int .u64 (a3 : Nat)) ∧ u.cell? ⟨w.heap.size + 1, 7, none⟩ = some (.int .u64 (a4 : Nat)) ∧ u.cell? ⟨w.heap.size + 1, 8, none⟩ = some (.int .u64 (a5 : Nat)) := fun u hu => ⟨below_cell hu f0 0 rfl, below_cell hu f0 1 rfl, below_cell hu f0 2 rfl, below_cell hu f0 3 rfl, below_cell hu f0 4 rfl, below_cell hu f0 5 rfl, below_cell hu f1 0 rfl, below_cell hu f1 1 rfl, below_cell hu f1 2 rfl, below_cell hu f1 3 rfl, below_cell hu f1 4 rfl, below_cell hu f1 5 rfl, below_cell hu f1 6 rfl, below_cell hu f1 7 rfl, below_cell hu f1 8 rfl⟩
    have hbW := Below.refl W.heap.size W
    obtain ⟨g0, g1, g2, g3, g4, g5, g6, g7, g8, g9, g10, g11, g12, g13, g14⟩ := hcells W hbW
    have HLOAD := Lib.hid hload; have HBW := Lib.hid hBW; have HXC := Lib.hid hcells
    have HKN := Lib.hid hkn
    clear hload hBW hcells hk hkn
    by_cases k4 : kind = 4
    · subst k4
      obtain ⟨ha0, ha5, hsg⟩ : 0 ≤ arg ∧ arg ≤ 5 ∧ signOk sign = true := (HKK.out.resolve_left (by omega)).resolve_left (by omega) |>.resolve_left (by omega) |>.2
      obtain ⟨j, rfl⟩ : ∃ j : Nat, arg = (j : Int) := ⟨arg.toNat, by omega⟩
      have hR := HH4.out rfl
      rw [Int.toNat_natCast] at hR
      have hT := refTest18 ka kn kc j mask sign value nr arch ip a0 a1 a2 a3 a4 a5 (by omega) hsg HMK.out HX5.out W
      rw [← hR] at hT
      unfold callV at hT
      have HT := Lib.hid hT
      clear hT hR hsg ha0 ha5 HH1 HH2 HH3 HH4 HKK HLOAD HKID HIH HCA HCY HCS HCL
      go_enter Try.func52, Try.ntmps52
      go_upto_region 1 with fail
      rw [← hW]
      clear hW
      go_wp2_with fail
      refine HT.out.mono ?_
      rintro e w2 ⟨rfl, hb2⟩
      have HB2 := Lib.hid (HBW.out.trans (hb2.mono HBW.out.size))
      clear hb2 g0 g1 g2 g3 g4 g5 g6 g7 g8 g9 g10 g11 g12 g13 g14
      go_wp2_with fail
      go_ret
      exact ⟨rfl, HB2.out⟩
    · have b4 : (kind == 4) = false := by rw [beq_eq_false_iff_ne]; exact k4
      have hk3 : kind = 1 ∨ kind = 2 ∨ (kind = 3 ∧ kn = 1) := by
        rcases HKK.out with h | h | h | h
        · exact .inl h
        · exact .inr (.inl h)
        · exact .inr (.inr h)
        · exact absurd h.1 k4
      have HK3 := Lib.hid hk3
      clear hk3 k4 HKK HH4 HX5 HMK
      go_enter Try.func52, Try.ntmps52
      go_upto_region 1 with fail
      rw [← hW]
      clear hW
      go_wp2_with fail
      go_loopw [5, 17] (fun z5 z wr => ∃ j m : Nat, z = .int .i64 (j : Nat) ∧ z5 = .int .i64 (m : Nat) ∧ m = cntH [a0, a1, a2, a3, a4, a5] (kids.take j) ∧ j ≤ kn ∧ Below W.heap.size W wr) (fun _ z _ => kn - (intOf z).toNat)
      case atStart => exact ⟨0, 0, rfl, rfl, rfl, by omega, hbW⟩
      case round =>
        obtain ⟨j, m, rfl, rfl, hm, hj, hwr⟩ := hrel
        clear g0 g1 g2 g3 g4 g5 g6 g7 g8 g9 g10 g11 g12 g13 g14
        by_cases hlt : j < kn
        · obtain ⟨b, o, k2, rfl, ⟨a2', n2, c2, rfl⟩, hI, hcell⟩ := HLOAD.out wr hwr j hlt
          have hjI : (j : Int) < kn := by omega
          have hsz := HKID.out j hlt
          have hcs := HCS.out j hlt
          have hml := cntH_le [a0, a1, a2, a3, a4, a5] (kids.take j)
          rw [List.length_take] at hml
          rw [← hm] at hcs hml
          have hmI : (m : Int) < 9223372036854775807 := by omega
          obtain ⟨cc, hcc⟩ : ∃ cc, kids.getD j cndZ = cc := ⟨_, rfl⟩
          rw [hcc] at hI hcell hsz hcs
          have hw3 := (Below.refl wr.heap.size wr).alloc (Nat.le_refl _) (.cells (cc.cells (.slice a2' n2 c2)).toArray 31)
          have hnw3 := heap_alloc_new wr (.cells (cc.cells (.slice a2' n2 c2)).toArray 31)
          have hcall := HIH.out cc hsz.1 hsz.2 _ _ (hI.below hw3)
          have hx3 := hwr.trans (hw3.mono hwr.size)
          have hc3 := HXC.out _ hx3
          have HC := Lib.hid hcall; have HW3 := Lib.hid hx3
          obtain ⟨fr, hfr⟩ : ∃ fr, cc.holds [a0, a1, a2, a3, a4, a5] = fr := ⟨_, rfl⟩
          rw [hfr] at HC hcs
          have HCN := Lib.hid hcs
          have e0 := hcell 0 _ rfl
          have e1 := hcell 1 _ rfl
          have e2 := hcell 2 _ rfl
          have e3 := hcell 3 _ rfl
          have e4 := hcell 4 _ rfl
          have e5 := hcell 5 _ rfl
          rw [Nat.add_zero] at e0
          clear hsz hcs hcall hw3 hI hcell hfr hwr hml hx3 hm hcc
          obtain ⟨kind2, kids2, arg2, mask2, sign2, value2⟩ := cc
          change Hid (Calls _ _ #[.agg #[.int .i64 kind2, .slice a2' n2 c2, .int .i64 arg2, .int .u64 (mask2 : Nat), .string sign2, .int .u64 (value2 : Nat)], .agg #[.int .u32 (nr : Nat), .int .u32 (arch : Nat), .int .u64 (ip : Nat), .int .u64 (a0 : Nat), .int .u64 (a1 : Nat), .int .u64 (a2 : Nat), .int .u64 (a3 : Nat), .int .u64 (a4 : Nat), .int .u64 (a5 : Nat)]] _ _) at HC
          simp only [Cnd.cells, Cnd.kind, Cnd.arg, Cnd.mask, Cnd.sign, Cnd.value] at e0 e1 e2 e3 e4 e5 HC HW3 hnw3 hc3
          obtain ⟨_, _, _, _, _, _, p6, p7, p8, p9, p10, p11, p12, p13, p14⟩ := hc3
          have q0 := below_cell (Below.refl _ _) hnw3 0 rfl
          have q1 := below_cell (Below.refl _ _) hnw3 1 rfl
          have q2 := below_cell (Below.refl _ _) hnw3 2 rfl
          have q3 := below_cell (Below.refl _ _) hnw3 3 rfl
          have q4 := below_cell (Below.refl _ _) hnw3 4 rfl
          have q5 := below_cell (Below.refl _ _) hnw3 5 rfl
          clear hnw3
          go_wp2_with fail
          refine HC.out.mono ?_
          rintro e w4 ⟨rfl, hb4⟩
          have HW4 := Lib.hid (HW3.out.trans (hb4.mono HW3.out.size))
          clear hb4 q0 q1 q2 q3 q4 q5 e0 e1 e2 e3 e4 e5 HC p6 p7 p8 p9 p10 p11 p12 p13 p14
          cases fr
          · go_wp2_with fail
            go_roundw
            case rel => exact ⟨j + 1, m, by go_num, rfl, (HCN.out.2 (by trivial)).symm, by omega, HW4.out⟩
            case measure => simp [intOf]; omega
          · go_wp2_with fail
            go_roundw
            case rel => exact ⟨j + 1, m + 1, by go_num, by go_num, (HCN.out.1 (by trivial)).symm, by omega, HW4.out⟩
            case measure => simp [intOf]; omega
        · obtain rfl : j = kn := by omega
          have hca := HCA.out
          have hcy := HCY.out
          rw [List.take_of_length_le (by have := HKN.out; omega)] at hm
          rw [← hm] at hca hcy
          clear hm
          obtain ⟨g0, g1, _⟩ := HXC.out wr hwr
          have HWR := Lib.hid (HBW.out.trans (hwr.mono HBW.out.size))
          clear hwr
          rcases HK3.out with rfl | rfl | ⟨rfl, rfl⟩
          · have hR := HH1.out rfl
            by_cases hm : m = j
            · subst hm
              rw [hca.1 rfl] at hR
              have HR := Lib.hid hR
              clear hR hca hcy HK3
              go_wp2_with fail
              go_ret
              exact ⟨by rw [HR.out]; simp, HWR.out⟩
            · have e1 : ((m : Int) == j) = false := by rw [beq_eq_false_iff_ne]; omega
              rw [hca.2 hm] at hR
              have HR := Lib.hid hR
              clear hR hca hcy HK3 hm
              go_wp2_with fail
              go_ret
              exact ⟨by rw [HR.out]; rfl, HWR.out⟩
          · have hR := HH2.out rfl
            by_cases hm : m = 0
            · rw [hcy.2 hm] at hR
              subst hm
              have HR := Lib.hid hR
              clear hR hca hcy HK3
              go_wp2_with fail
              go_ret
              exact ⟨by rw [HR.out]; rfl, HWR.out⟩
            · rw [hcy.1 hm] at hR
              have hm1 : (0 : Int) < m := by omega
              have HM1 := Lib.hid hm1
              have HR := Lib.hid hR
              clear hR hca hcy HK3 hm
              go_wp2_with fail
              go_ret
              exact ⟨by rw [HR.out]; simp; have := HM1.out; omega, HWR.out⟩
          · have hR := HH3.out rfl
            by_cases hm : m = 0
            · rw [hcy.2 hm] at hR
              subst hm
              have HR := Lib.hid hR
              clear hR hca hcy HK3
              go_wp2_with fail
              go_ret
              exact ⟨by rw [HR.out]; rfl, HWR.out⟩
            · have e1 : ((m : Int) == 0) = false := by rw [beq_eq_false_iff_ne]; omega
              rw [hcy.1 hm] at hR
              have HR := Lib.hid hR
              clear hR hca hcy HK3 hm
              go_wp2_with fail
              go_ret
              exact ⟨by rw [HR.out]; rfl, HWR.out⟩
set_option maxRecDepth 100000 in
set_option maxHeartbeats 1000000 in
theorem refDoes18 (c : Cnd) (v : Value) (w : World) (x : Cal) (hx : x.ok) (h : IsCnd w v c) : Calls Try.prog 36 #[v, x.value] w fun e w' => e = .returned (.bool (c.does x.args)) ∧ Below w.heap.size w w' := by
  obtain ⟨hb, k, rfl, hk⟩ := id h
  obtain ⟨ka, kn, kc, rfl, hkn, _⟩ := id hk
  obtain ⟨nr, arch, ip, a0, a1, a2, a3, a4, a5, rfl⟩ := Cal.list6 hx
  obtain ⟨W, hW, f0, f1, hBW⟩ := two_at w (.cells #[.int .i64 c.kind, .slice ka kn kc, .int .i64 c.arg, .int .u64 (c.mask : Nat), .string c.sign, .int .u64 (c.value : Nat)] 31) (callO nr arch ip a0 a1 a2 a3 a4 a5)
  have hzz : c.zero = zeroV c.kind kn c.arg c.mask c.sign c.value := by unfold Cnd.zero; rw [hkn]
  have hd : c.does [a0, a1, a2, a3, a4, a5] = (c.zero || (c.right && c.holds [a0, a1, a2, a3, a4, a5])) := rfl
  have hZ := fun u => refNone16 c.kind ka kn kc c.arg c.mask c.sign c.value u
  rw [← hzz] at hZ
  have hR := fun u (hu : Below W.heap.size W u) => refRight16 c _ u (h.below (hBW.trans (hu.mono hBW.size)))
  have hH := fun u (hu : Below W.heap.size W u) hf => refHolds18 c.size c (Nat.le_refl _) hf _ u _ hx (h.below (hBW.trans (hu.mono hBW.size)))
  have hrf : c.right = true → c.fine = true := fun h => by unfold Cnd.right at h; rw [Bool.and_eq_true] at h; exact h.2
  generalize c.does _ = D at *
  show Calls _ _ #[.agg #[.int .i64 c.kind, .slice ka kn kc, .int .i64 c.arg, .int .u64 (c.mask : Nat), .string c.sign, .int .u64 (c.value : Nat)], callV nr arch ip a0 a1 a2 a3 a4 a5] _ _
  change ∀ u, Below W.heap.size W u → _ → Calls _ _ #[.agg #[.int .i64 c.kind, .slice ka kn kc, .int .i64 c.arg, .int .u64 (c.mask : Nat), .string c.sign, .int .u64 (c.value : Nat)], callV nr arch ip a0 a1 a2 a3 a4 a5] _ _ at hH
  change ∀ u, Below W.heap.size W u → Calls _ _ #[.agg #[.int .i64 c.kind, .slice ka kn kc, .int .i64 c.arg, .int .u64 (c.mask : Nat), .string c.sign, .int .u64 (c.value : Nat)]] _ _ at hR
  unfold callV at hH ⊢
  unfold callO at hW f1
  have hcells : ∀ u, Below W.heap.size W u → u.cell? ⟨w.heap.size, 0, none⟩ = some (.int .i64 c.kind) ∧ u.cell? ⟨w.heap.size, 1, none⟩ = some (.slice ka kn kc) ∧ u.cell? ⟨w.heap.size, 2, none⟩ = some (.int .i64 c.arg) ∧ u.cell? ⟨w.heap.size, 3, none⟩ = some (.int .u64 (c.mask : Nat)) ∧ u.cell? ⟨w.heap.size, 4, none⟩ = some (.string c.sign) ∧ u.cell? ⟨w.heap.size, 5, none⟩ = some (.int .u64 (c.value : Nat)) ∧ u.cell? ⟨w.heap.size + 1, 0, none⟩ = some (.int .u32 (nr : Nat)) ∧ u.cell? ⟨w.heap.size + 1, 1, none⟩ = some (.int .u32 (arch : Nat)) ∧ u.cell? ⟨w.heap.size + 1, 2, none⟩ = some (.int .u64 (ip : Nat)) ∧ u.cell? ⟨w.heap.size + 1, 3, none⟩ = some (.int .u64 (a0 : Nat)) ∧ u.cell? ⟨w.heap.size + 1, 4, none⟩ = some (.int .u64 (a1 : Nat)) ∧ u.cell? ⟨w.heap.size + 1, 5, none⟩ = some (.int .u64 (a2 : Nat)) ∧ u.cell? ⟨w.heap.size + 1, 6, none⟩ = some (.int .u64 (a3 : Nat)) ∧ u.cell? ⟨w.heap.size + 1, 7, none⟩ = some (.int .u64 (a4 : Nat)) ∧ u.cell? ⟨w.heap.size + 1, 8, none⟩ = some (.int .u64 (a5 : Nat)) := fun u hu => ⟨below_cell hu f0 0 rfl, below_cell hu f0 1 rfl, below_cell hu f0 2 rfl, below_cell hu f0 3 rfl, below_cell hu f0 4 rfl, below_cell hu f0 5 rfl, below_cell hu f1 0 rfl, below_cell hu f1 1 rfl, below_cell hu f1 2 rfl, below_cell hu f1 3 rfl, below_cell hu f1 4 rfl, below_cell hu f1 5 rfl, below_cell hu f1 6 rfl, below_cell hu f1 7 rfl, below_cell hu f1 8 rfl⟩
  have HXC := Lib.hid hcells
  have hbW := Below.refl W.heap.size W
  have HZ := Lib.hid hZ; have HR := Lib.hid hR; have HH := Lib.hid hH; have HBW := Lib.hid hBW; have HD := Lib.hid hd; have HRF := Lib.hid hrf
  clear hZ hR hH hBW hd hrf f0 f1 h hk hb hzz hx hkn hcells
  go_enter Try.func36, Try.ntmps36
  go_upto_region 1 with fail
  rw [← hW]
  clear hW
  obtain ⟨g0, g1, g2, g3, g4, g5, g6, g7, g8, g9, g10, g11, g12, g13, g14⟩ := HXC.out W hbW
  go_wp2_with fail
  refine (HZ.out _).mono ?_
  rintro e w2 ⟨rfl, hb2⟩
  clear g0 g1 g2 g3 g4 g5 g6 g7 g8 g9 g10 g11 g12 g13 g14
  obtain ⟨g0, g1, g2, g3, g4, g5, g6, g7, g8, g9, g10, g11, g12, g13, g14⟩ := HXC.out w2 hb2
  have HX2 := Lib.hid hb2
  clear HZ hb2 hbW
  generalize c.zero = Z at *
  cases Z
  · go_wp2_with fail
    refine (HR.out _ HX2.out).mono ?_
    rintro e w3 ⟨rfl, hb3⟩
    have hy3 := HX2.out.trans (hb3.mono HX2.out.size)
    clear g0 g1 g2 g3 g4 g5 g6 g7 g8 g9 g10 g11 g12 g13 g14
    obtain ⟨g0, g1, g2, g3, g4, g5, g6, g7, g8, g9, g10, g11, g12, g13, g14⟩ := HXC.out w3 hy3
    have HX3 := Lib.hid hy3
    clear hb3 hy3
    generalize hrg : c.right = Rg at *
    cases Rg
    · go_wp2_with fail
      go_ret
      exact ⟨by rw [HD.out]; rfl, HBW.out.trans (HX3.out.mono HBW.out.size)⟩
    · have hcall := HH.out w3 HX3.out (HRF.out rfl)
      have HC := Lib.hid hcall
      clear hcall
      go_wp2_with fail
      refine HC.out.mono ?_
      rintro e w4 ⟨rfl, hb4⟩
      have HX4 := Lib.hid (HX3.out.trans (hb4.mono HX3.out.size))
      clear hb4 g0 g1 g2 g3 g4 g5 g6 g7 g8 g9 g10 g11 g12 g13 g14
      go_wp2_with fail
      go_ret
      exact ⟨by rw [HD.out]; rfl, HBW.out.trans (HX4.out.mono HBW.out.size)⟩
  · go_wp2_with fail
    go_ret
    exact ⟨by rw [HD.out]; rfl, (HBW.out.trans (HX2.out.mono HBW.out.size))⟩
end SRef18H
section SRef18E
open Go.RowKit Go.ChangeShapes
set_option linter.unusedVariables false

set_option maxRecDepth 100000 in
set_option maxHeartbeats 4000000 in
theorem refEval18 (t : Typ) (v : Value) (w : World) (x : Cal) (hx : x.ok) (h : IsTyp w v t) :
    Calls Try.prog 17 #[v, x.value] w fun e w' => e = .returned (.int .u32 (t.eval x : Nat)) ∧ Below w.heap.size w w' := by
  obtain ⟨ht1, ht2, k, rfl, hk⟩ := h
  obtain ⟨A, n, c, rfl, hl, hc1, hc2, _⟩ := id hk
  obtain ⟨nr, arch, ip, a0, a1, a2, a3, a4, a5, rfl⟩ := Cal.list6 hx
  obtain ⟨W, hW, f0, f1, hBW⟩ := two_at w (.cells #[.int .u32 (t.arch : Nat), .int .u32 (t.dflt : Nat), .slice A n c] 25) (callO nr arch ip a0 a1 a2 a3 a4 a5)
  have hD := fun (cn : Cnd) (v : Value) (u : World) (h : IsCnd u v cn) => refDoes18 cn v u _ hx h
  have hcells : ∀ u, Below W.heap.size W u → u.cell? ⟨w.heap.size, 0, none⟩ = some (.int .u32 (t.arch : Nat)) ∧ u.cell? ⟨w.heap.size, 1, none⟩ = some (.int .u32 (t.dflt : Nat)) ∧ u.cell? ⟨w.heap.size, 2, none⟩ = some (.slice A n c) ∧ u.cell? ⟨w.heap.size + 1, 0, none⟩ = some (.int .u32 (nr : Nat)) ∧ u.cell? ⟨w.heap.size + 1, 1, none⟩ = some (.int .u32 (arch : Nat)) ∧ u.cell? ⟨w.heap.size + 1, 2, none⟩ = some (.int .u64 (ip : Nat)) ∧ u.cell? ⟨w.heap.size + 1, 3, none⟩ = some (.int .u64 (a0 : Nat)) ∧ u.cell? ⟨w.heap.size + 1, 4, none⟩ = some (.int .u64 (a1 : Nat)) ∧ u.cell? ⟨w.heap.size + 1, 5, none⟩ = some (.int .u64 (a2 : Nat)) ∧ u.cell? ⟨w.heap.size + 1, 6, none⟩ = some (.int .u64 (a3 : Nat)) ∧ u.cell? ⟨w.heap.size + 1, 7, none⟩ = some (.int .u64 (a4 : Nat)) ∧ u.cell? ⟨w.heap.size + 1, 8, none⟩ = some (.int .u64 (a5 : Nat)) := fun u hu => ⟨below_cell hu f0 0 rfl, below_cell hu f0 1 rfl, below_cell hu f0 2 rfl, below_cell hu f1 0 rfl, below_cell hu f1 1 rfl, below_cell hu f1 2 rfl, below_cell hu f1 3 rfl, below_cell hu f1 4 rfl, below_cell hu f1 5 rfl, below_cell hu f1 6 rfl, below_cell hu f1 7 rfl, below_cell hu f1 8 rfl⟩
  have hmt := fun u (hu : Below W.heap.size W u) j hj => mtcs_at hk (hBW.trans (hu.mono hBW.size)) j hj
  have hnI : (n : Int) ≤ 9223372036854775807 := by omega
  have he : Typ.eval t ⟨nr, arch, ip, [a0, a1, a2, a3, a4, a5]⟩ = if arch = t.arch then evalR t.rules t.dflt nr [a0, a1, a2, a3, a4, a5] else 2147483648 := rfl
  show Calls _ _ #[.agg #[.int .u32 (t.arch : Nat), .int .u32 (t.dflt : Nat), .slice A n c], .agg #[.int .u32 (nr : Nat), .int .u32 (arch : Nat), .int .u64 (ip : Nat), .int .u64 (a0 : Nat), .int .u64 (a1 : Nat), .int .u64 (a2 : Nat), .int .u64 (a3 : Nat), .int .u64 (a4 : Nat), .int .u64 (a5 : Nat)]] _ _
  change ∀ (cn : Cnd) (v : Value) (u : World), IsCnd u v cn → Calls _ _ #[v, .agg #[.int .u32 (nr : Nat), .int .u32 (arch : Nat), .int .u64 (ip : Nat), .int .u64 (a0 : Nat), .int .u64 (a1 : Nat), .int .u64 (a2 : Nat), .int .u64 (a3 : Nat), .int .u64 (a4 : Nat), .int .u64 (a5 : Nat)]] _ (fun e w' => e = .returned (.bool (cn.does [a0, a1, a2, a3, a4, a5])) ∧ _) at hD
  have HHIT := Lib.hid (fun j hj => evalR_hit t.rules t.dflt nr [a0, a1, a2, a3, a4, a5] j hj)
  have HMISS := Lib.hid (fun j hj => evalR_miss t.rules t.dflt nr [a0, a1, a2, a3, a4, a5] j hj)
  have HEND := Lib.hid (evalR_end t.rules t.dflt nr [a0, a1, a2, a3, a4, a5] n hl)
  unfold callO at hW f1
  generalize t.eval _ = E at *
  have HXC := Lib.hid hcells; have HD := Lib.hid hD; have HMT := Lib.hid hmt; have HBW := Lib.hid hBW; have HE := Lib.hid he; have HL := Lib.hid hl
  have hbW := Below.refl W.heap.size W
  obtain ⟨g0, g1, g2, g3, g4, g5, g6, g7, g8, g9, g10, g11⟩ := hcells W hbW
  clear hcells hD hmt hBW he hl hk hx f0 f1 hc1 hc2 ht1 ht2
  by_cases ha : arch = t.arch
  · have hae : ((arch : Int) != ((t.arch : Nat) : Int)) = false := by rw [bne_eq_false_iff_eq, ha]
    have hE2 : evalR (t.rules.drop 0) t.dflt nr [a0, a1, a2, a3, a4, a5] = E := by rw [HE.out, if_pos ha]; rfl
    have HE2 := Lib.hid hE2; have HBW2 := Lib.hid hbW
    clear ha HE hE2 hbW
    obtain ⟨TA, hTA⟩ : ∃ x, t.arch = x := ⟨_, rfl⟩
    rw [hTA] at hae g0 ⊢
    go_enter Try.func17, Try.ntmps17
    go_upto_region 1 with fail
    rw [hTA] at hW
    rw [← hW]
    clear hW
    go_upto_region 4 with fail
    clear g0 g1 g2 g3 g4 g5 g6 g7 g8 g9 g10 g11
    go_loopw [17] (fun z wr => ∃ j : Nat, z = .int .i64 (j : Nat) ∧ j ≤ n ∧ evalR (t.rules.drop j) t.dflt nr [a0, a1, a2, a3, a4, a5] = E ∧ Below W.heap.size W wr) (fun z _ => n - (intOf z).toNat)
    case atStart => exact ⟨0, rfl, by omega, HE2.out, HBW2.out⟩
    case round =>
      obtain ⟨j, rfl, hj, hev, hwr⟩ := hrel
      have HEV := Lib.hid hev; have HWR := Lib.hid hwr
      clear hev hwr HBW2 HE2
      by_cases hlt : j < n
      · obtain ⟨b, off, rfl, hat⟩ := HMT.out wr HWR.out j hlt
        have hhit := HHIT.out j (by rw [HL.out]; exact hlt)
        have hmiss := HMISS.out j (by rw [HL.out]; exact hlt)
        rw [HEV.out] at hhit hmiss
        obtain ⟨_, hbd, ka, kn, kc, ca, cn, cc, hu, hkc, e0, e1, e2, e3, e4, e5, e6, e7⟩ := hat.cell
        have hjI : (j : Int) < n := by omega
        unfold Mtc.hits at hhit hmiss
        generalize t.rules.getD j mtcZ = m at *
        obtain ⟨nrs, ⟨kind, kids, arg, mask, sign, value⟩, act⟩ := m
        simp only [Cnd.kind, Cnd.arg, Cnd.mask, Cnd.sign, Cnd.value, Cnd.kids] at hbd hu hkc e0 e1 e2 e3 e4 e5 e6 e7 hhit hmiss
        have hi : IsCnd wr (.agg #[.int .i64 kind, .slice ca cn cc, .int .i64 arg, .int .u64 (mask : Nat), .string sign, .int .u64 (value : Nat)]) (.mk kind kids arg mask sign value) := ⟨hbd, _, rfl, hkc⟩
        have HI := Lib.hid hi; have HU := Lib.hid hu; have HHI := Lib.hid hhit; have HMI := Lib.hid hmiss; have HLT := Lib.hid hlt
        clear hi hu hhit hmiss hat hbd hkc hlt HHIT HMISS HEND HEV
        go_upto_region 6 with fail
        have hn7 := heap_alloc_new wr (.cells #[.slice ka kn kc, .int .i64 kind, .slice ca cn cc, .int .i64 arg, .int .u64 (mask : Nat), .string sign, .int .u64 (value : Nat), .int .u32 (act : Nat)] 33)
        have hy7 := (Below.refl wr.heap.size wr).alloc (Nat.le_refl _) (.cells #[.slice ka kn kc, .int .i64 kind, .slice ca cn cc, .int .i64 arg, .int .u64 (mask : Nat), .string sign, .int .u64 (value : Nat), .int .u32 (act : Nat)] 33)
        generalize wr.alloc (.cells #[.slice ka kn kc, .int .i64 kind, .slice ca cn cc, .int .i64 arg, .int .u64 (mask : Nat), .string sign, .int .u64 (value : Nat), .int .u32 (act : Nat)] 33) = w7 at *
        have hb7 := HWR.out.trans (hy7.mono HWR.out.size)
        have hI7 := HI.out.below hy7
        have hU7 := HU.out.below hy7
        generalize wr.heap.size = b7 at *
        have HN7 := Lib.hid hn7; have HB7 := Lib.hid hb7; have HI7 := Lib.hid hI7; have HU7 := Lib.hid hU7
        clear hn7 hy7 hb7 hI7 hU7 e0 e1 e2 e3 e4 e5 e6 e7 HI HU HWR
        have y0 := below_cell (Below.refl _ _) HN7.out 0 rfl
        obtain ⟨_, _, _, hv, hl1, hl2, hl3, hl4, hl5, hl6⟩ := id HU7.out
        injection hv with q1 q2 q3
        subst q1 q2 q3
        have hknI : (kn : Int) ≤ 9223372036854775807 := by omega
        have hnat : ∀ i, i < kn → ∃ b off, ka = some ⟨b, off, none⟩ ∧ ∀ u, Below w7.heap.size w7 u → u.cell? ⟨b, off + i, none⟩ = some (.int .u32 (nrs.getD i 0 : Nat)) := fun i hi => by
          obtain ⟨b, off, rfl, hlt, hat⟩ := hl6.resolve_left (by omega)
          exact ⟨b, off, rfl, fun u hu => (hu.cell (p := ⟨b, off + i, none⟩) hlt).trans (hat i hi)⟩
        have hin : ∀ i, i < kn → nrs.getD i 0 = nr → nrs.contains nr = true := fun i hi e => by
          rw [List.contains_iff_mem, ← e, getD_at _ _ (by omega)]
          exact List.getElem_mem _
        have hout : (∀ i, i < kn → nrs.getD i 0 ≠ nr) → nrs.contains nr = false := fun h => by
          rw [Bool.eq_false_iff, ne_eq, List.contains_iff_mem]
          intro hm
          obtain ⟨i, hi, e⟩ := List.mem_iff_getElem.1 hm
          exact h i (by omega) (by rw [getD_at _ _ hi]; exact e)
        have HNAT := Lib.hid hnat; have HIN := Lib.hid hin; have HOUT := Lib.hid hout
        clear hnat hin hout hl1 hl2 hl3 hl4 hl5 hl6
        go_upto_region 7 with fail
        clear y0
        generalize hQ : Cnd.does (.mk kind kids arg mask sign value) [a0, a1, a2, a3, a4, a5] = Q at *
        have HDQ : Hid (∀ (v : Value) (u : World), IsCnd u v (.mk kind kids arg mask sign value) → Calls Try.prog 36 #[v, .agg #[.int .u32 (nr : Nat), .int .u32 (arch : Nat), .int .u64 (ip : Nat), .int .u64 (a0 : Nat), .int .u64 (a1 : Nat), .int .u64 (a2 : Nat), .int .u64 (a3 : Nat), .int .u64 (a4 : Nat), .int .u64 (a5 : Nat)]] u (fun e w' => e = .returned (.bool Q) ∧ Below u.heap.size u w')) := Lib.hid (fun v u h => by have := HD.out _ v u h; rwa [hQ] at this)
        clear hQ
        have HB77 := Lib.hid (Below.refl w7.heap.size w7)
        go_loopw [24] (fun z wr => ∃ i : Nat, z = .int .i64 (i : Nat) ∧ i ≤ kn ∧ ((∀ k, k < i → nrs.getD k 0 ≠ nr) ∨ Q = false) ∧ Below w7.heap.size w7 wr) (fun z _ => kn - (intOf z).toNat)
        case atStart => exact ⟨0, rfl, by omega, .inl (fun k hk => absurd hk (Nat.not_lt_zero k)), HB77.out⟩
        case round =>
          obtain ⟨i, rfl, hi, hno, hwr⟩ := hrel
          have HNO := Lib.hid hno; have HR := Lib.hid hwr; have HX := Lib.hid (HB7.out.trans (hwr.mono HB7.out.size))
          clear hno hwr HB77
          by_cases hik : i < kn
          · obtain ⟨b2, off2, rfl, hc⟩ := HNAT.out i hik
            have hcell := hc _ HR.out
            have hiI : (i : Int) < kn := by omega
            clear hc
            obtain ⟨g0, g1, g2, g3, g4, g5, g6, g7, g8, g9, g10, g11⟩ := HXC.out _ HX.out
            have hnow : nrs.getD i 0 = nr → nrs.contains nr = true := HIN.out i hik
            have hnext : nrs.getD i 0 ≠ nr → ((∀ k, k < i + 1 → nrs.getD k 0 ≠ nr) ∨ Q = false) := fun h => by
              rcases HNO.out with h1 | h1
              · refine .inl fun k hk => ?_
                by_cases e : k < i
                · exact h1 k e
                · obtain rfl : k = i := by omega
                  exact h
              · exact .inr h1
            generalize nrs.getD i 0 = x at *
            by_cases hx : x = nr
            · subst hx
              have hcon := hnow rfl
              have y1 := below_cell HR.out HN7.out 1 rfl
              have y2 := below_cell HR.out HN7.out 2 rfl
              have y3 := below_cell HR.out HN7.out 3 rfl
              have y4 := below_cell HR.out HN7.out 4 rfl
              have y5 := below_cell HR.out HN7.out 5 rfl
              have y6 := below_cell HR.out HN7.out 6 rfl
              have HCON := Lib.hid hcon; have HIK := Lib.hid hik
              clear hnow hnext hcon hik
              go_wp2_with fail
              refine (HDQ.out _ _ (HI7.out.below HR.out)).mono ?_
              rintro e w9 ⟨rfl, hb9⟩
              have HR9 := Lib.hid (HR.out.trans (hb9.mono HR.out.size))
              have y7 := below_cell HR9.out HN7.out 7 rfl
              clear g0 g1 g2 g3 g4 g5 g6 g7 g8 g9 g10 g11 y1 y2 y3 y4 y5 y6 hb9
              cases Q
              · go_wp2_with fail
                go_roundw
                case rel => exact ⟨i + 1, by go_num, by have := HIK.out; omega, .inr (by first | trivial | rfl), HR9.out⟩
                case measure => have := HIK.out; simp [intOf]; omega
              · have hh := HHI.out (by rw [HCON.out]; rfl)
                subst hh
                clear HMI HHI
                go_wp2_with fail
                go_ret
                exact ⟨rfl, HBW.out.trans ((HB7.out.trans (HR9.out.mono HB7.out.size)).mono HBW.out.size)⟩
            · have hxe : ((x : Int) == (nr : Nat)) = false := by rw [beq_eq_false_iff_ne]; omega
              have hn2 := hnext hx
              have HN2 := Lib.hid hn2; have HIK := Lib.hid hik
              clear hnow hnext hn2 hx hik
              go_wp2_with fail
              go_roundw
              case rel => exact ⟨i + 1, by go_num, by have := HIK.out; omega, HN2.out, HR.out⟩
              case measure => have := HIK.out; simp [intOf]; omega
          · obtain rfl : i = kn := by omega
            have hm := HMI.out (by
              rcases HNO.out with h1 | h1
              · rw [HOUT.out h1]; rfl
              · rw [h1, Bool.and_false])
            have HM := Lib.hid hm
            clear hm HMI HHI hik
            go_wp2_with fail
            go_roundw
            case rel => exact ⟨j + 1, by go_num, by have := HLT.out; omega, HM.out.symm, HX.out⟩
            case measure => have := HLT.out; simp [intOf]; omega
      · obtain rfl : j = n := by omega
        obtain ⟨g0, g1, g2, g3, g4, g5, g6, g7, g8, g9, g10, g11⟩ := HXC.out _ HWR.out
        have hee := HEND.out
        rw [HEV.out] at hee
        have HEE := Lib.hid hee
        clear hee HEND HEV HHIT HMISS
        go_wp2_with fail
        go_ret
        exact ⟨by rw [HEE.out]; rfl, HBW.out.trans (HWR.out.mono HBW.out.size)⟩
  · have hae : ((arch : Int) != ((t.arch : Nat) : Int)) = true := by rw [bne_iff_ne]; omega
    have hE2 : E = 2147483648 := by rw [HE.out, if_neg ha]
    subst hE2
    have HBW2 := Lib.hid hbW
    clear ha HE hbW HHIT HMISS HEND HMT HD HL
    obtain ⟨TA, hTA⟩ : ∃ x, t.arch = x := ⟨_, rfl⟩
    rw [hTA] at hae g0 hW ⊢
    go_enter Try.func17, Try.ntmps17
    go_upto_region 1 with fail
    rw [← hW]
    clear hW
    go_wp2_with fail
    go_ret
    exact ⟨rfl, HBW.out⟩
end SRef18E
section SRef01Num
open Go.RowKit
set_option linter.unusedVariables false

theorem drop_getL (s : ByteArray) (j : Nat) (h : j < s.size) : getL (s.data.toList.drop j) = s[j].toNat + 256 * getL (s.data.toList.drop (j + 1)) := by
  rw [List.drop_eq_getElem_cons (by rw [ba_len]; exact h)]
  rfl
theorem step256 (x b : Nat) : (256 * x + b) = b + 256 * x := by omega

theorem refNumber_any (s : ByteArray) (w : World) (hs : s.size ≤ 8) :
    Calls Try.prog 54 #[.string s] w fun e w' => e = .returned (.int .u64 (getL s.data.toList : Nat)) ∧ w = w' := by
  go_enter Try.func54, Try.ntmps54
  go_wp2
  go_loop [3, 4] (fun n c => ∃ j : Nat, j ≤ s.size ∧ c = .int .i64 ((j : Int) - 1) ∧ n = .int .u64 (getL (s.data.toList.drop j) : Nat)) (fun _ c => (intOf c + 1).toNat)
  case atStart => exact ⟨s.size, Nat.le_refl _, rfl, by rw [List.drop_of_length_le (by rw [ba_len]; omega)]; rfl⟩
  case round =>
    obtain ⟨j, hj, rfl, rfl⟩ := hrel
    by_cases hlt : 0 < j
    · obtain ⟨i, rfl⟩ : ∃ i, j = i + 1 := ⟨j - 1, by omega⟩
      have hidx : i < s.size := by omega
      have hb : s[i].toNat ≤ 255 := by have := UInt8.toNat_lt s[i]; omega
      have hd := drop_getL s i hidx
      have hle := getL_lt (s.data.toList.drop i)
      have hpw : 256 ^ (s.data.toList.drop i).length ≤ 256 ^ 8 := Nat.pow_le_pow_right (by omega) (by rw [List.length_drop, ba_len]; omega)
      rw [pow256_8] at hpw
      have hle2 : s[i].toNat + 256 * getL (s.data.toList.drop (i + 1)) ≤ 18446744073709551615 := by omega
      have HD := Lib.hid hd
      clear hd hle hpw
      have hii : ((i + 1 : Nat) : Int) - 1 = i := by omega
      go_wp2
      go_round
      case rel => exact ⟨i, by omega, rfl, by rw [HD.out, ← step256]; rfl⟩
      case measure => simp [intOf]
    · obtain rfl : j = 0 := by omega
      go_wp2
      go_ret
      exact ⟨rfl, rfl⟩
end SRef01Num
section SWord11
open Go.RowKit
set_option linter.unusedVariables false

theorem refNumber_at (s : ByteArray) (p q : Nat) (w : World) (hq : q = p + 4) (hs : p + 4 ≤ s.size) :
    Calls Try.prog 54 #[.string (s.extract p q)] w fun e w' => e = .returned (.int .u64 (getL (cutL s p 4) : Nat)) ∧ w = w' := by
  have h := refNumber_any (s.extract p q) w (by rw [ByteArray.size_extract]; omega)
  rw [ba_extract_list, hq, Nat.add_sub_cancel_left] at h
  rw [hq]
  exact h
set_option maxRecDepth 100000 in
set_option maxHeartbeats 400000 in
theorem refWord_any (s : ByteArray) (k : Nat) (w : World) (hs : s.size = 64) (hk : k ≤ 4294967295) :
    Calls Try.prog 40 #[.string s, .int .i64 (k : Nat)] w fun e w' => e = .returned (wordV4 s k) ∧ w = w' := by
  have hsz : ((s.size : Int) != 64) = false := by rw [bne_eq_false_iff_eq]; omega
  have hkI : (k : Int) ≤ 4294967295 := by omega
  by_cases h60 : k ≤ 60
  · by_cases h4 : k % 4 = 0
    · have hv : wordV4 s k = .tuple #[.int .u32 (getL (cutL s k 4) : Nat), .int .i64 0] := by unfold wordV4; rw [if_pos ((wordOk_iff k).2 ⟨h60, h4⟩)]
      have hx := wordL_le s k (by omega)
      have HC := Lib.hid (fun u => refNumber_at s k (k + 4) u rfl (by omega))
      rw [hv]
      generalize getL (cutL s k 4) = x at *
      have hxI : (x : Int) ≤ 4294967295 := by omega
      have h4b : ((k : Int) % 4 != 0) = false := by rw [bne_eq_false_iff_eq]; omega
      have h60I : (k : Int) ≤ 60 := by omega
      have hss : (64 : Int) ≤ s.size := by omega
      have hss2 : (s.size : Int) ≤ 64 := by omega
      clear hv hx h4 hs hk h60
      go_enter Try.func40, Try.ntmps40
      go_wp2_with fail
      refine (HC.out _).mono ?_
      rintro e w' ⟨rfl, rfl⟩
      go_wp2_with fail
      go_ret2
      exact ⟨rfl, rfl⟩
    · have hv : wordV4 s k = .tuple #[.int .u32 0, .int .i64 51] := by unfold wordV4; rw [if_neg (fun h => h4 ((wordOk_iff k).1 h).2)]
      rw [hv]
      have h4b : ((k : Int) % 4 != 0) = true := by rw [bne_iff_ne]; omega
      have h60I : (k : Int) ≤ 60 := by omega
      clear hv h4 hs hk h60
      go_enter Try.func40, Try.ntmps40
      go_wp2_with fail
      go_ret2
      exact ⟨rfl, rfl⟩
  · have hv : wordV4 s k = .tuple #[.int .u32 0, .int .i64 51] := by unfold wordV4; rw [if_neg (fun h => h60 ((wordOk_iff k).1 h).1)]
    rw [hv]
    have h60I : (60 : Int) < k := by omega
    clear hv hs hk h60
    go_enter Try.func40, Try.ntmps40
    go_wp2_with fail
    go_ret2
    exact ⟨rfl, rfl⟩
end SWord11
section SRef19
open Go.RowKit
set_option linter.unusedVariables false

def onV : Option Nat → Value | none => .int .i64 (-1) | some j => .int .i64 (j : Nat)
set_option maxRecDepth 100000 in
theorem refHolds_any (o : Stp) (a : Nat) (w : World) (ho : o.bounded) (ha : a ≤ 4294967295) :
    Calls Try.prog 41 #[o.value, .int .u32 (a : Nat)] w fun e w' => e = .returned (.bool (o.yes a)) ∧ Below w.heap.size w w' := by
  obtain ⟨kind, k, t, f⟩ := o
  obtain ⟨_, hk, _, _⟩ := ho
  dsimp only at hk
  have hkI : (k : Int) ≤ 4294967295 := by omega
  have haI : (a : Int) ≤ 4294967295 := by omega
  have hy : Stp.yes ⟨kind, k, t, f⟩ a = if kind = 3 then decide (a = k) else if kind = 4 then decide (k < a) else if kind = 5 then decide (k ≤ a) else true := rfl
  have HG := Lib.hid hy
  clear hy
  show Calls _ _ #[.agg #[.int .i64 kind, .int .u32 k, .int .i64 t, .int .i64 f], _] _ _
  by_cases h3 : kind = 3
  · subst h3
    by_cases h : a = k
    · subst h
      go_enter Try.func41, Try.ntmps41
      go_wp2
      go_ret
      exact ⟨by rw [HG.out]; simp, (Below.refl _ _).alloc (Nat.le_refl _) _⟩
    · have hb : ((a : Int) == k) = false := by rw [beq_eq_false_iff_ne]; omega
      have HH := Lib.hid h
      clear h
      go_enter Try.func41, Try.ntmps41
      go_wp2
      go_ret
      exact ⟨by rw [HG.out]; simp [HH.out], (Below.refl _ _).alloc (Nat.le_refl _) _⟩
  · by_cases h4 : kind = 4
    · subst h4
      by_cases h : k < a
      · go_enter Try.func41, Try.ntmps41
        go_wp2
        go_ret
        exact ⟨by rw [HG.out]; simp [h], (Below.refl _ _).alloc (Nat.le_refl _) _⟩
      · go_enter Try.func41, Try.ntmps41
        go_wp2
        go_ret
        exact ⟨by rw [HG.out]; simp [h], (Below.refl _ _).alloc (Nat.le_refl _) _⟩
    · by_cases h5 : kind = 5
      · subst h5
        by_cases h : k ≤ a
        · go_enter Try.func41, Try.ntmps41
          go_wp2
          go_ret
          exact ⟨by rw [HG.out]; simp [h], (Below.refl _ _).alloc (Nat.le_refl _) _⟩
        · go_enter Try.func41, Try.ntmps41
          go_wp2
          go_ret
          exact ⟨by rw [HG.out]; simp [h], (Below.refl _ _).alloc (Nat.le_refl _) _⟩
      · have b3 : (kind == 3) = false := by rw [beq_eq_false_iff_ne]; exact h3
        have b4 : (kind == 4) = false := by rw [beq_eq_false_iff_ne]; exact h4
        have b5 : (kind == 5) = false := by rw [beq_eq_false_iff_ne]; exact h5
        have H3 := Lib.hid h3; have H4 := Lib.hid h4; have H5 := Lib.hid h5
        clear h3 h4 h5
        go_enter Try.func41, Try.ntmps41
        go_wp2
        go_ret
        exact ⟨by rw [HG.out]; simp [H3.out, H4.out, H5.out], (Below.refl _ _).alloc (Nat.le_refl _) _⟩

set_option maxHeartbeats 400000 in
set_option maxRecDepth 100000 in
theorem refOn_any (v : Value) (l : List Stp) (p : Nat) (label : Int) (w : World) (h : IsOps w v l) (hp : p < l.length) :
    Calls Try.prog 42 #[v, .int .i64 (p : Nat), .int .i64 label] w fun e w' => e = .returned (onV (beh l p label)) ∧ w = w' := by
  obtain ⟨a, len, cap, rfl, hlen, hc1, hc2, hbd, hn, hat⟩ := h
  have hlI : (len : Int) ≤ 9223372036854775807 := by omega
  have hpI : (p : Int) < len := by omega
  have HA := Lib.hid hat; have HL := Lib.hid hlen
  have HB : Hid (beh l p label = behL l (p + 1) label (len - (p + 1))) := Lib.hid (by rw [beh, hlen])
  clear hat hlen hbd hp
  go_enter Try.func42, Try.ntmps42
  go_wp2
  go_loop [7] (fun c => ∃ k : Nat, p + 1 ≤ k ∧ k ≤ len ∧ c = .int .i64 k ∧ beh l p label = behL l k label (len - k)) (fun c => len - (intOf c).toNat)
  case atStart => exact ⟨p + 1, by omega, by omega, by go_num, HB.out⟩
  case round =>
    obtain ⟨k, hk1, hk, rfl, hbe⟩ := hrel
    have HE := Lib.hid hbe
    clear hbe
    by_cases hlt : k < len
    · obtain ⟨b, off, rfl, hb, hat⟩ := HA.out.resolve_left (by omega)
      obtain ⟨c0, c1, c2, c3⟩ := hat k hlt
      have hst : behL l k label (len - k) = if (l.getD k stpZ).kind = 6 ∧ (l.getD k stpZ).t = label then some k else behL l (k + 1) label (len - (k + 1)) := by
        rw [show len - k = (len - (k + 1)) + 1 from by omega, behL]
      have HS := Lib.hid hst
      clear hat hst
      generalize l.getD k stpZ = o at *
      obtain ⟨kind, kk, t, f⟩ := o
      dsimp only at c0 c1 c2 c3
      by_cases h6 : kind = 6
      · subst h6
        by_cases ht : t = label
        · subst ht
          have he : beh l p t = some k := by rw [HE.out, HS.out, if_pos ⟨rfl, rfl⟩]
          have HX := Lib.hid he
          clear he
          go_wp2
          go_ret
          exact ⟨by rw [HX.out]; rfl, rfl⟩
        · have hbt : (t == label) = false := by rw [beq_eq_false_iff_ne]; exact ht
          have he : beh l p label = behL l (k + 1) label (len - (k + 1)) := by rw [HE.out, HS.out, if_neg (fun x => ht x.2)]
          have HX := Lib.hid he
          clear he ht
          go_wp2
          go_round
          case rel => exact ⟨k + 1, by omega, by omega, by go_num, HX.out⟩
          case measure => simp [intOf]; omega
      · have hbt : (kind == 6) = false := by rw [beq_eq_false_iff_ne]; exact h6
        have he : beh l p label = behL l (k + 1) label (len - (k + 1)) := by rw [HE.out, HS.out, if_neg (fun x => h6 x.1)]
        have HX := Lib.hid he
        clear he h6
        go_wp2
        go_round
        case rel => exact ⟨k + 1, by omega, by omega, by go_num, HX.out⟩
        case measure => simp [intOf]; omega
    · obtain rfl : k = len := by omega
      have he : beh l p label = none := by rw [HE.out, Nat.sub_self]; rfl
      have HX := Lib.hid he
      clear he
      go_wp2
      go_ret
      exact ⟨by rw [HX.out]; rfl, rfl⟩
set_option maxRecDepth 100000 in
set_option maxHeartbeats 4000000 in
theorem refWalk_64 (v : Value) (l : List Stp) (s : ByteArray) (w : World) (h : IsOps w v l) (hs : s.size = 64) :
    Calls Try.prog 19 #[v, .string s] w fun e w' => e = .returned (walkW l s 0 0).value ∧ Below w.heap.size w w' := by
  have hbnd := h.bnd
  have HBE := Lib.hid (fun p label u hu hp => refOn_any v l p label u hu hp)
  have HH := Lib.hid h
  obtain ⟨a, len, cap, rfl, hlen, hc1, hc2, _, hn, hat⟩ := h
  have hlI : (len : Int) ≤ 9223372036854775807 := by omega
  have hsz : ((s.size : Int) != 64) = false := by rw [bne_eq_false_iff_eq]; omega
  have HAT := Lib.hid hat; have HL := Lib.hid hlen; have HBD := Lib.hid hbnd; have HSZ := Lib.hid hs
  obtain ⟨R, eR⟩ : ∃ R, walkW l s 0 0 = R := ⟨_, rfl⟩
  rw [eR]
  have HR := Lib.hid eR
  clear hat hlen hbnd hs eR hn
  go_enter Try.func19, Try.ntmps19
  go_wp2_with fail
  generalize hW : w.alloc (.cells #[.int .i64 0, .int .u32 0, .bool false, .bool false] 48) = W
  have hblk : W.heap[w.heap.size]? = some (.cells #[.int .i64 0, .int .u32 0, .bool false, .bool false] 48 (0, 0)) := by rw [← hW]; exact heap_alloc_new w _
  have hbel : Below w.heap.size w W := by rw [← hW]; exact (Below.refl _ _).alloc (Nat.le_refl _) _
  have hws : w.heap.size < W.heap.size := lt_of_block hblk
  clear hW
  have HB := Lib.hid hblk
  clear hblk
  go_loopw [5, 6] (fun x c wr => ∃ p a : Nat, p ≤ len ∧ a ≤ 4294967295 ∧ c = .int .i64 (p : Nat) ∧ x = .int .u32 (a : Nat) ∧ walkW l s p a = R ∧ Below W.heap.size W wr) (fun _ c _ => len - (intOf c).toNat)
  case atStart => exact ⟨0, 0, by omega, by omega, rfl, rfl, HR.out, Below.refl _ _⟩
  case round =>
    obtain ⟨p, x, hp, hx, rfl, rfl, hwk, hwr⟩ := hrel
    have HWK := Lib.hid hwk
    have hxI : (x : Int) ≤ 4294967295 := by omega
    clear hwk
    have hbl := (hwr.block _ hws).trans HB.out
    have HBL := Lib.hid hbl
    clear hbl
    by_cases hlt : p < len
    · obtain ⟨b, off, rfl, hb, hat⟩ := HAT.out.resolve_left (by omega)
      have hpl : p < l.length := by have := HL.out; omega
      obtain ⟨c0, c1, c2, c3⟩ := (hat p hlt).below (hbel.trans (hwr.mono hbel.size)) hb
      obtain ⟨o, eo⟩ : ∃ o, o = l.getD p stpZ := ⟨_, rfl⟩
      have hob : o.bounded := by
        rw [eo, show l.getD p stpZ = l[p] from by simp [List.getD, hpl]]
        exact HBD.out _ (List.getElem_mem hpl)
      rw [← eo] at c0 c1 c2 c3
      have HO := Lib.hid eo; have HOB := Lib.hid hob
      have hpI : (p : Int) < len := by omega
      clear hat eo hob
      obtain ⟨kind, k, t, f⟩ := o
      have hkb : (k : Int) ≤ 4294967295 := by have := HOB.out.2.1; dsimp only at this; omega
      dsimp only at c0 c1 c2 c3
      have q0 := fun ob => below_cell (v := .int .i64 0) ((Below.refl wr.heap.size wr).alloc (Nat.le_refl _) ob) HBL.out 0 rfl
      have q1 := fun ob => below_cell (v := .int .u32 0) ((Below.refl wr.heap.size wr).alloc (Nat.le_refl _) ob) HBL.out 1 rfl
      have q2 := fun ob => below_cell (v := .bool false) ((Below.refl wr.heap.size wr).alloc (Nat.le_refl _) ob) HBL.out 2 rfl
      have q3 := fun ob => below_cell (v := .bool false) ((Below.refl wr.heap.size wr).alloc (Nat.le_refl _) ob) HBL.out 3 rfl
      have hal := fun ob => (heap_alloc_old wr ob (lt_of_block HBL.out)).trans HBL.out
      have f0 := fun ob => block_frozen (hal ob) 0
      have f1 := fun ob => block_frozen (hal ob) 1
      have f2 := fun ob => block_frozen (hal ob) 2
      have f3 := fun ob => block_frozen (hal ob) 3
      have HAL := Lib.hid hal
      clear hal
      have hwa := hwr.alloc hwr.size (.cells #[.int .i64 kind, .int .u32 k, .int .i64 t, .int .i64 f] 67)
      by_cases h1 : kind = 1
      · subst h1
        have hst : walkW l s p x = if wordOk k then walkW l s (p + 1) (getL (cutL s k 4)) else wrongF := by
          rw [walkW, dif_pos hpl, ← HO.out, if_pos rfl]
        rw [HWK.out] at hst
        have hww := fun u => refWord_any s k u HSZ.out (by omega)
        unfold wordV4 at hww
        cases hok : wordOk k
        · rw [hok] at hst hww
          have HST := Lib.hid hst; have HWW := Lib.hid hww
          clear hst hww hok
          go_wp2_with fail
          refine (HWW.out _).mono ?_
          rintro e w' ⟨rfl, rfl⟩
          go_wp2_with fail
          refine bodyPost_ret (v := .agg #[.int .i64 0, .int .u32 0, .bool false, .bool true]) (results_cell_row rfl _ _ w.heap.size 48 #[.int .i64 0, .int .u32 0, .bool false, .bool true] (0, 0) _ rfl (block4 (HAL.out _) _ _ _ _) Try.underlying48 rfl (by kernel_rfl)) rfl ⟨?_, below4 (hbel.trans (hwa.mono hbel.size)) (Nat.le_refl _) _ _ _ _⟩
          rw [HST.out]; rfl
        · rw [hok] at hst hww
          simp only [if_true] at hst hww
          have hy := wordL_le s k (by have := (wordOk_iff k).1 hok; have := HSZ.out; omega)
          have HST := Lib.hid hst; have HWW := Lib.hid hww
          clear hst hww hok
          generalize getL (cutL s k 4) = y at *
          go_wp2_with fail
          refine (HWW.out _).mono ?_
          rintro e w' ⟨rfl, rfl⟩
          go_wp2_with fail
          go_roundw
          case rel => exact ⟨p + 1, y, by omega, hy, by go_num, rfl, HST.out.symm, hwa⟩
          case measure => simp [intOf]; omega
      · by_cases h2 : kind = 2
        · subst h2
          have hst : walkW l s p x = walkW l s (p + 1) (x &&& k) := by
            rw [walkW, dif_pos hpl, ← HO.out, if_neg (by dsimp only; omega), if_pos rfl]
          rw [HWK.out] at hst
          have hand := u32_and_nat x k (by omega) (by omega)
          have hle := and_u32 x k (by omega) (by omega)
          have HST := Lib.hid hst
          clear hst h1
          generalize x &&& k = y at *
          go_wp2_with fail
          go_roundw
          case rel => exact ⟨p + 1, y, by omega, hle, by go_num, by first | rfl | rw [hand], HST.out.symm, hwa⟩
          case measure => simp [intOf]; omega
        · by_cases h6 : kind = 6
          · subst h6
            have hst : walkW l s p x = walkW l s (p + 1) x := by
              rw [walkW, dif_pos hpl, ← HO.out, if_neg (by dsimp only; omega), if_neg (by dsimp only; omega), if_pos rfl]
            rw [HWK.out] at hst
            have HST := Lib.hid hst
            clear hst h1 h2
            go_wp2_with fail
            go_roundw
            case rel => exact ⟨p + 1, x, by omega, hx, by go_num, rfl, HST.out.symm, hwa⟩
            case measure => simp [intOf]; omega
          · by_cases h8 : kind = 8
            · subst h8
              have hst : walkW l s p x = ⟨0, k, true, false⟩ := by
                rw [walkW, dif_pos hpl, ← HO.out, if_neg (by dsimp only; omega), if_neg (by dsimp only; omega), if_neg (by dsimp only; omega), if_pos rfl]
              rw [HWK.out] at hst
              have HST := Lib.hid hst
              clear hst h1 h2 h6
              go_wp2_with fail
              refine bodyPost_ret (v := .agg #[.int .i64 0, .int .u32 (k : Nat), .bool true, .bool false]) (results_cell_row rfl _ _ w.heap.size 48 #[.int .i64 0, .int .u32 (k : Nat), .bool true, .bool false] (0, 0) _ rfl (block4 (HAL.out _) _ _ _ _) Try.underlying48 rfl (by kernel_rfl)) rfl ⟨?_, below4 (hbel.trans (hwa.mono hbel.size)) (Nat.le_refl _) _ _ _ _⟩
              rw [HST.out]; rfl
            · by_cases hj : isJump kind = true
              · have hst := walkW_jump l s p x hpl _ HO.out hj
                rw [HWK.out] at hst
                have hGo := fun u => refHolds_any ⟨kind, k, t, f⟩ x u HOB.out (by omega)
                have hk4 : kind = 3 ∨ kind = 4 ∨ kind = 5 ∨ kind = 7 := by simpa [isJump, or_assoc] using hj
                have hgy : Stp.goal ⟨kind, k, t, f⟩ x = if Stp.yes ⟨kind, k, t, f⟩ x then t else f := rfl
                generalize Stp.goal ⟨kind, k, t, f⟩ x = g at *
                generalize Stp.yes ⟨kind, k, t, f⟩ x = yy at *
                have hyy : (yy = true ∧ g = t) ∨ (yy = false ∧ g = f) := by cases yy <;> simp_all
                have HGO := Lib.hid hGo
                clear hGo hgy
                have hbb := beh_bound l p g
                have HBB := Lib.hid hbb
                have hBe := fun u hu => HBE.out p g u hu hpl
                generalize beh l p g = r at *
                have HST := Lib.hid hst; have HBV := Lib.hid hBe
                clear hst hbb hBe h1 h2 h6 h8 hj HBE
                have hgoI : ∀ u, Calls Try.prog 41 #[.agg #[.int .i64 kind, .int .u32 k, .int .i64 t, .int .i64 f], .int .u32 x] u fun e w' => e = .returned (.bool yy) ∧ Below u.heap.size u w' := HGO.out
                have HGI := Lib.hid hgoI
                clear hgoI HGO
                cases r with
                | none =>
                  unfold onV at HBV
                  dsimp only at HBV
                  rcases hyy with ⟨rfl, rfl⟩ | ⟨rfl, rfl⟩ <;> rcases hk4 with rfl | rfl | rfl | rfl
                  all_goals
                    go_wp2_with fail
                    refine (HGI.out _).mono ?_
                    rintro e w2 ⟨rfl, hb2⟩
                    have hw2 := hwa.trans (hb2.mono hwa.size)
                    have r2 := below_cell hb2 (heap_alloc_new wr _) 2 rfl
                    have hbl2 := (hw2.block _ hws).trans HB.out
                    have q0 := by have := cell_of_row _ _ 0 _ _ _ hbl2; exact this
                    have q1 := by have := cell_of_row _ _ 1 _ _ _ hbl2; exact this
                    have q2 := by have := cell_of_row _ _ 2 _ _ _ hbl2; exact this
                    have q3 := by have := cell_of_row _ _ 3 _ _ _ hbl2; exact this
                    have f0 := block_frozen hbl2 0
                    have f1 := block_frozen hbl2 1
                    have f2 := block_frozen hbl2 2
                    have f3 := block_frozen hbl2 3
                    have HBL2 := Lib.hid hbl2
                    clear hbl2 hb2
                    go_wp2_with fail
                    refine (HBV.out _ (HH.out.below (hbel.trans (hw2.mono hbel.size)))).mono ?_
                    rintro e w' ⟨rfl, rfl⟩
                    go_wp2_with fail
                    refine bodyPost_ret (v := .agg #[.int .i64 g, .int .u32 0, .bool false, .bool false]) (results_cell_row rfl _ _ w.heap.size 48 #[.int .i64 g, .int .u32 0, .bool false, .bool false] (0, 0) _ rfl (block4 (HBL2.out) _ _ _ _) Try.underlying48 rfl (by kernel_rfl)) rfl ⟨?_, below4 (hbel.trans (hw2.mono hbel.size)) (Nat.le_refl _) _ _ _ _⟩
                    rw [HST.out]; rfl
                | some j =>
                  unfold onV at HBV
                  dsimp only at HBV
                  have hj1 := HBB.out j rfl
                  have hj2 : j < len := by have := HL.out; omega
                  have hjI : (j : Int) < len := by omega
                  have hj3 := hj1.1
                  clear hj1
                  rcases hyy with ⟨rfl, rfl⟩ | ⟨rfl, rfl⟩ <;> rcases hk4 with rfl | rfl | rfl | rfl
                  all_goals
                    go_wp2_with fail
                    refine (HGI.out _).mono ?_
                    rintro e w2 ⟨rfl, hb2⟩
                    have hw2 := hwa.trans (hb2.mono hwa.size)
                    have r2 := below_cell hb2 (heap_alloc_new wr _) 2 rfl
                    clear hb2
                    go_wp2_with fail
                    refine (HBV.out _ (HH.out.below (hbel.trans (hw2.mono hbel.size)))).mono ?_
                    rintro e w' ⟨rfl, rfl⟩
                    go_wp2_with fail
                    go_roundw
                    case rel => exact ⟨j + 1, x, by omega, hx, by go_num, rfl, HST.out.symm, hw2⟩
                    case measure => simp [intOf]; omega
              · have hst : walkW l s p x = wrongF := by
                  rw [walkW, dif_pos hpl, ← HO.out, if_neg h1, if_neg h2, if_neg h6, if_neg h8, if_neg hj]
                rw [HWK.out] at hst
                have hk4 : ¬ (kind = 3 ∨ kind = 4 ∨ kind = 5 ∨ kind = 7) := fun h => hj (by simpa [isJump, or_assoc] using h)
                have hr : kind < 1 ∨ (¬ kind < 1 ∧ 8 < kind) := by omega
                have HST := Lib.hid hst
                clear hst h1 h2 h6 h8 hj hk4
                rcases hr with hr | ⟨hr0, hr⟩
                all_goals
                  go_wp2_with fail
                  refine bodyPost_ret (v := .agg #[.int .i64 0, .int .u32 0, .bool false, .bool true]) (results_cell_row rfl _ _ w.heap.size 48 #[.int .i64 0, .int .u32 0, .bool false, .bool true] (0, 0) _ rfl (block4 (HAL.out _) _ _ _ _) Try.underlying48 rfl (by kernel_rfl)) rfl ⟨?_, below4 (hbel.trans (hwa.mono hbel.size)) (Nat.le_refl _) _ _ _ _⟩
                  rw [HST.out]; rfl
    · obtain rfl : p = len := by omega
      have hst : walkW l s p x = ⟨-1, 0, false, false⟩ := walkW_end _ _ _ _ (by have := HL.out; omega)
      rw [HWK.out] at hst
      have HST := Lib.hid hst
      have q0 := by have := cell_of_row _ _ 0 _ _ _ HBL.out; exact this
      have q1 := by have := cell_of_row _ _ 1 _ _ _ HBL.out; exact this
      have q2 := by have := cell_of_row _ _ 2 _ _ _ HBL.out; exact this
      have q3 := by have := cell_of_row _ _ 3 _ _ _ HBL.out; exact this
      have f0 := block_frozen HBL.out 0
      have f1 := block_frozen HBL.out 1
      have f2 := block_frozen HBL.out 2
      have f3 := block_frozen HBL.out 3
      clear hst
      go_wp2_with fail
      refine bodyPost_ret (v := .agg #[.int .i64 (-1), .int .u32 0, .bool false, .bool false]) (results_cell_row rfl _ _ w.heap.size 48 #[.int .i64 (-1), .int .u32 0, .bool false, .bool false] (0, 0) _ rfl (block4 (HBL.out) _ _ _ _) Try.underlying48 rfl (by kernel_rfl)) rfl ⟨?_, below4 (hbel.trans (hwr.mono hbel.size)) (Nat.le_refl _) _ _ _ _⟩
      rw [HST.out]; rfl

theorem refWalk_any (v : Value) (l : List Stp) (s : ByteArray) (w : World) (h : IsOps w v l) :
    Calls Try.prog 19 #[v, .string s] w fun e w' => e = .returned (walkR l s).value ∧ Below w.heap.size w w' := by
  by_cases hs : s.size = 64
  · have e1 : walkR l s = walkW l s 0 0 := by unfold walkR; rw [if_pos hs]
    rw [e1]
    exact refWalk_64 v l s w h hs
  · have e1 : walkR l s = wrongF := by unfold walkR; rw [if_neg hs]
    rw [e1]
    obtain ⟨a, len, cap, rfl, _⟩ := h
    have hsz : ((s.size : Int) != 64) = true := by rw [bne_iff_ne]; omega
    clear hs e1
    go_enter Try.func19, Try.ntmps19
    go_wp2_with fail
    exact bodyPost_ret (v := wrongF.value) (results_cell_row rfl _ _ w.heap.size 48 #[.int .i64 0, .int .u32 0, .bool false, .bool true] (0, 0) _ rfl (heap_alloc_new w _) Try.underlying48 rfl (by kernel_rfl)) rfl ⟨rfl, (Below.refl _ _).alloc (Nat.le_refl _) _⟩
end SRef19
end Go.Proofs.Ytcejhfpdajbdcaa
