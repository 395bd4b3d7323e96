/- Steps of filters, and slices of them. -/
import Derived.Test.YtcejhfpdajbdcaaSized
import Derived.Test.YtcejhfpdajbdcaaVmW
import Derived.Test.YtcejhfpdajbdcaaRowOpen
import Derived.Test.YtcejhfpdajbdcaaResRow
namespace Go.Proofs.Ytcejhfpdajbdcaa
open Go.ChangeShapes Go.WideShapes Go.ChangeAt Go.RowKit Go.Joins Go.Deep
set_option linter.unusedVariables false

/-- a step -/
structure Stp where
  kind : Int
  k : Nat
  t : Int
  f : Int
  deriving DecidableEq
def Stp.value (o : Stp) : Value := .agg #[.int .i64 o.kind, .int .u32 (o.k : Nat), .int .i64 o.t, .int .i64 o.f]
def Stp.bounded (o : Stp) : Prop := (-9223372036854775808 ≤ o.kind ∧ o.kind ≤ 9223372036854775807) ∧ o.k ≤ 4294967295 ∧ (-9223372036854775808 ≤ o.t ∧ o.t ≤ 9223372036854775807) ∧ (-9223372036854775808 ≤ o.f ∧ o.f ≤ 9223372036854775807)
def stpZ : Stp := ⟨0, 0, 0, 0⟩
def Stp.cells (o : Stp) : List Value := [.int .i64 o.kind, .int .u32 (o.k : Nat), .int .i64 o.t, .int .i64 o.f]
def StpAt (w : World) (b o : Nat) (i : Stp) : Prop :=
  w.cell? ⟨b, o, none⟩ = some (.int .i64 i.kind) ∧ w.cell? ⟨b, o + 1, none⟩ = some (.int .u32 (i.k : Nat)) ∧ w.cell? ⟨b, o + 2, none⟩ = some (.int .i64 i.t) ∧ w.cell? ⟨b, o + 3, none⟩ = some (.int .i64 i.f)
theorem StpAt.below {w w' : World} {B b o : Nat} {i : Stp} (h : StpAt w b o i) (hb : Below B w w') (hB : b < B) : StpAt w' b o i :=
  ⟨(hb.cell (p := ⟨b, o, none⟩) hB).trans h.1, (hb.cell (p := ⟨b, o + 1, none⟩) hB).trans h.2.1, (hb.cell (p := ⟨b, o + 2, none⟩) hB).trans h.2.2.1, (hb.cell (p := ⟨b, o + 3, none⟩) hB).trans h.2.2.2⟩
/-- v is a slice whose elements are the steps l. -/
def IsOps (w : World) (v : Value) (l : List Stp) : Prop :=
  ∃ a len cap, v = .slice a len cap ∧ l.length = len ∧ len ≤ cap ∧ cap ≤ 9223372036854775807 ∧ (∀ i ∈ l, i.bounded) ∧ (a = none → cap = 0) ∧
    (len = 0 ∨ ∃ b off, a = some ⟨b, off, none⟩ ∧ b < w.heap.size ∧ ∀ i, i < len → StpAt w b (off + i * 4) (l.getD i stpZ))
theorem IsOps.below {w w' : World} {v : Value} {l : List Stp} (h : IsOps w v l) (hb : Below w.heap.size w w') : IsOps w' v l := by
  obtain ⟨a, len, cap, rfl, hlen, hc1, hc2, hbd, hn, hat⟩ := h
  refine ⟨a, len, cap, rfl, hlen, hc1, hc2, hbd, hn, hat.imp id ?_⟩
  rintro ⟨b, off, rfl, hlt, hat⟩
  exact ⟨b, off, rfl, Nat.lt_of_lt_of_le hlt hb.size, fun i hi => (hat i hi).below hb hlt⟩
theorem IsOps.take {w : World} {v : Value} {l : List Stp} (h : IsOps w v l) : ∃ a len cap, v = .slice a len cap ∧ l.length = len ∧ len ≤ cap ∧ cap ≤ 9223372036854775807 ∧
    ∀ m, m ≤ len → IsOps w (.slice a m cap) (l.take m) := by
  obtain ⟨a, len, cap, rfl, hlen, hc1, hc2, hbd, hn, hat⟩ := h
  refine ⟨a, len, cap, rfl, hlen, hc1, hc2, fun m hm => ⟨a, m, cap, rfl, by rw [List.length_take]; omega, by omega, hc2, fun i hi => hbd i (List.mem_of_mem_take hi), hn, ?_⟩⟩
  rcases hat with h0 | ⟨b, off, rfl, hb, hat⟩
  · exact .inl (by omega)
  · refine .inr ⟨b, off, rfl, hb, fun i hi => ?_⟩
    have := hat i (by omega)
    rwa [show (l.take m).getD i stpZ = l.getD i stpZ from by simp [List.getD, hi]]
theorem nat_u32_ {a : Int} (h : (Lit.int .u32 a).wf = true) : ∃ n : Nat, a = n ∧ n ≤ 4294967295 := by
  have := wf_u32 h
  exact ⟨a.toNat, by omega, by omega⟩
set_option maxRecDepth 100000 in
theorem openOps {H : Type} {enc : TypeId × Value → H} {W : World} {base : Nat} {v : Value} {d : DataW H} {p : List MemPlace}
    (hok : Value.okWide Try.prog W .any base 41 v) (h : DataW.Trod enc Try.prog W 0 (fun _ => true) true 41 v d p) : ∃ l, IsOps W v l := by
  obtain ⟨a, len, cap, rfl, hl, hm, hat⟩ := openElems (e := 67) 4 undef Try.underlying41 (by kernel_rfl) (by omega) hok h
  have hnil : a = none → cap = 0 := by
    rintro rfl
    obtain ⟨fuel, hf⟩ := h
    rcases open_slice Try.underlying41 hf with ⟨hcs, _⟩ | ⟨x, l', c, m, n, D, Pl, hcs, _⟩
    · simp [Value.cells] at hcs
      exact hcs.2
    · simp [Value.cells] at hcs
  rcases hat with rfl | ⟨b, off, rfl, hb, hat⟩
  · exact ⟨[], _, 0, _, rfl, rfl, by omega, hm, by simp, hnil, .inl rfl⟩
  · obtain ⟨l, hll, hP⟩ := list_of (P := fun i (k : Stp) => k.bounded ∧ StpAt W b (off + i * 4) k) stpZ len fun i hlt => by
      obtain ⟨cs, n, y, hcl, hc, htr⟩ := hat i hlt
      match cs, hcl with
      | [c0, c1, c2, c3], _ =>
        obtain ⟨y0, y1, y2, y3, n', _, _, k0, k1, k2, k3⟩ := trod_struct4 Try.underlying67 htr
        have h8 : Try.prog.cellsOf 3 = 1 := by kernel_rfl
        have h4 : Try.prog.cellsOf 22 = 1 := by kernel_rfl
        simp [h8, h4] at k0 k1 k2 k3
        obtain ⟨a0, e0, _, w0⟩ := DataW.trod_int Try.underlying3 k0
        obtain ⟨a1, e1, _, w1⟩ := DataW.trod_int Try.underlying22 k1
        obtain ⟨a2, e2, _, w2⟩ := DataW.trod_int Try.underlying3 k2
        obtain ⟨a3, e3, _, w3⟩ := DataW.trod_int Try.underlying3 k3
        simp at e0 e1 e2 e3
        subst e0 e1 e2 e3
        obtain ⟨n1, rfl, f1⟩ := nat_u32_ w1
        exact ⟨⟨a0, n1, a2, a3⟩, ⟨wf_i64 w0, f1, wf_i64 w2, wf_i64 w3⟩, hc 0 (by omega), hc 1 (by omega), hc 2 (by omega), hc 3 (by omega)⟩
    refine ⟨l, _, len, _, rfl, hll, hl, hm, fun i hmem => ?_, hnil, .inr ⟨b, off, rfl, hb, fun i hlt => (hP i hlt).2⟩⟩
    obtain ⟨k, hk, rfl⟩ := List.mem_iff_getElem.1 hmem
    have := (hP k (by omega)).1
    rwa [show l.getD k stpZ = l[k] from by simp [List.getD, hk]] at this
theorem IsOps.bnd {w : World} {v : Value} {l : List Stp} (h : IsOps w v l) : ∀ i ∈ l, i.bounded := by obtain ⟨_, _, _, _, _, _, _, h, _⟩ := h; exact h

/-- where steps end -/
structure Fin4 where
  label : Int
  answer : Nat
  told : Bool
  wrong : Bool
  deriving DecidableEq
def Fin4.value (e : Fin4) : Value := .agg #[.int .i64 e.label, .int .u32 (e.answer : Nat), .bool e.told, .bool e.wrong]

/-- the label at which a step goes on -/
def Stp.yes (o : Stp) (a : Nat) : Bool := if o.kind = 3 then decide (a = o.k) else if o.kind = 4 then decide (o.k < a) else if o.kind = 5 then decide (o.k ≤ a) else true
def Stp.goal (o : Stp) (a : Nat) : Int := if o.yes a then o.t else o.f
/-- the first step behind one that is the label -/
def behL (l : List Stp) (i : Nat) (label : Int) : Nat → Option Nat
  | 0 => none
  | n + 1 => if (l.getD i stpZ).kind = 6 ∧ (l.getD i stpZ).t = label then some i else behL l (i + 1) label n
def beh (l : List Stp) (p : Nat) (label : Int) : Option Nat := behL l (p + 1) label (l.length - (p + 1))
theorem behL_bound (l : List Stp) (label : Int) : ∀ n i j, behL l i label n = some j → i ≤ j ∧ j < i + n := by
  intro n
  induction n with
  | zero => intro i j h; cases h
  | succ n ih =>
    intro i j h
    rw [behL] at h
    split at h
    · injection h with h; omega
    · have := ih (i + 1) j h; omega
theorem beh_bound (l : List Stp) (p : Nat) (label : Int) (j : Nat) (h : beh l p label = some j) : p < j ∧ j < l.length := by
  have := behL_bound l label _ _ _ h
  omega
set_option maxRecDepth 100000 in
theorem wordGoal_any (o : Stp) (a : Nat) (w : World) (ho : o.bounded) (ha : a ≤ 4294967295) :
    Calls Try.prog 38 #[o.value, .int .u32 (a : Nat)] w fun e w' => e = .returned (.int .i64 (o.goal a)) ∧ Below w.heap.size w w' := by
  obtain ⟨kind, k, t, f⟩ := o
  obtain ⟨_, hk, _, _⟩ := ho
  dsimp only at hk
  have hkI : (k : Int) ≤ 4294967295 := by omega
  have haI : (a : Int) ≤ 4294967295 := by omega
  have hg : Stp.goal ⟨kind, k, t, f⟩ a = if Stp.yes ⟨kind, k, t, f⟩ a then t else f := rfl
  have hy : Stp.yes ⟨kind, k, t, f⟩ a = if kind = 3 then decide (a = k) else if kind = 4 then decide (k < a) else if kind = 5 then decide (k ≤ a) else true := rfl
  rw [hy] at hg
  have HG := Lib.hid hg
  clear hg hy
  show Calls _ _ #[.agg #[.int .i64 kind, .int .u32 k, .int .i64 t, .int .i64 f], _] _ _
  by_cases h3 : kind = 3
  · subst h3
    by_cases h : a = k
    · subst h
      go_enter Try.func38, Try.ntmps38
      go_wp2
      go_ret
      exact ⟨by rw [HG.out]; simp, (Below.refl _ _).alloc (Nat.le_refl _) _⟩
    · have hb : ((a : Int) == k) = false := by rw [beq_eq_false_iff_ne]; omega
      have HH := Lib.hid h
      clear h
      go_enter Try.func38, Try.ntmps38
      go_wp2
      go_ret
      exact ⟨by rw [HG.out]; simp [HH.out], (Below.refl _ _).alloc (Nat.le_refl _) _⟩
  · by_cases h4 : kind = 4
    · subst h4
      by_cases h : k < a
      · go_enter Try.func38, Try.ntmps38
        go_wp2
        go_ret
        exact ⟨by rw [HG.out]; simp [h], (Below.refl _ _).alloc (Nat.le_refl _) _⟩
      · go_enter Try.func38, Try.ntmps38
        go_wp2
        go_ret
        exact ⟨by rw [HG.out]; simp [h], (Below.refl _ _).alloc (Nat.le_refl _) _⟩
    · by_cases h5 : kind = 5
      · subst h5
        by_cases h : k ≤ a
        · go_enter Try.func38, Try.ntmps38
          go_wp2
          go_ret
          exact ⟨by rw [HG.out]; simp [h], (Below.refl _ _).alloc (Nat.le_refl _) _⟩
        · go_enter Try.func38, Try.ntmps38
          go_wp2
          go_ret
          exact ⟨by rw [HG.out]; simp [h], (Below.refl _ _).alloc (Nat.le_refl _) _⟩
      · have b3 : (kind == 3) = false := by rw [beq_eq_false_iff_ne]; exact h3
        have b4 : (kind == 4) = false := by rw [beq_eq_false_iff_ne]; exact h4
        have b5 : (kind == 5) = false := by rw [beq_eq_false_iff_ne]; exact h5
        have H3 := Lib.hid h3; have H4 := Lib.hid h4; have H5 := Lib.hid h5
        clear h3 h4 h5
        go_enter Try.func38, Try.ntmps38
        go_wp2
        go_ret
        exact ⟨by rw [HG.out]; simp [H3.out, H4.out, H5.out], (Below.refl _ _).alloc (Nat.le_refl _) _⟩

def behV (o : Option Nat) : Value := .tuple #[.int .i64 ((o.getD 0 : Nat) : Int), .bool o.isSome]
set_option maxHeartbeats 400000 in
set_option maxRecDepth 100000 in
theorem wordBehind_any (v : Value) (l : List Stp) (p : Nat) (label : Int) (w : World) (h : IsOps w v l) (hp : p < l.length) :
    Calls Try.prog 39 #[v, .int .i64 (p : Nat), .int .i64 label] w fun e w' => e = .returned (behV (beh l p label)) ∧ w = w' := by
  obtain ⟨a, len, cap, rfl, hlen, hc1, hc2, hbd, hn, hat⟩ := h
  have hlI : (len : Int) ≤ 9223372036854775807 := by omega
  have hpI : (p : Int) < len := by omega
  have HA := Lib.hid hat; have HL := Lib.hid hlen
  have HB : Hid (beh l p label = behL l (p + 1) label (len - (p + 1))) := Lib.hid (by rw [beh, hlen])
  clear hat hlen hbd hp
  go_enter Try.func39, Try.ntmps39
  go_wp2
  go_loop [8] (fun c => ∃ k : Nat, p + 1 ≤ k ∧ k ≤ len ∧ c = .int .i64 k ∧ beh l p label = behL l k label (len - k)) (fun c => len - (intOf c).toNat)
  case atStart => exact ⟨p + 1, by omega, by omega, by go_num, HB.out⟩
  case round =>
    obtain ⟨k, hk1, hk, rfl, hbe⟩ := hrel
    have HE := Lib.hid hbe
    clear hbe
    by_cases hlt : k < len
    · obtain ⟨b, off, rfl, hb, hat⟩ := HA.out.resolve_left (by omega)
      obtain ⟨c0, c1, c2, c3⟩ := hat k hlt
      have hst : behL l k label (len - k) = if (l.getD k stpZ).kind = 6 ∧ (l.getD k stpZ).t = label then some k else behL l (k + 1) label (len - (k + 1)) := by
        rw [show len - k = (len - (k + 1)) + 1 from by omega, behL]
      have HS := Lib.hid hst
      clear hat hst
      generalize l.getD k stpZ = o at *
      obtain ⟨kind, kk, t, f⟩ := o
      dsimp only at c0 c1 c2 c3
      by_cases h6 : kind = 6
      · subst h6
        by_cases ht : t = label
        · subst ht
          have he : beh l p t = some k := by rw [HE.out, HS.out, if_pos ⟨rfl, rfl⟩]
          have HX := Lib.hid he
          clear he
          go_wp2
          go_ret2
          exact ⟨by rw [HX.out]; rfl, rfl⟩
        · have hbt : (t == label) = false := by rw [beq_eq_false_iff_ne]; exact ht
          have he : beh l p label = behL l (k + 1) label (len - (k + 1)) := by rw [HE.out, HS.out, if_neg (fun x => ht x.2)]
          have HX := Lib.hid he
          clear he ht
          go_wp2
          go_round
          case rel => exact ⟨k + 1, by omega, by omega, by go_num, HX.out⟩
          case measure => simp [intOf]; omega
      · have hbt : (kind == 6) = false := by rw [beq_eq_false_iff_ne]; exact h6
        have he : beh l p label = behL l (k + 1) label (len - (k + 1)) := by rw [HE.out, HS.out, if_neg (fun x => h6 x.1)]
        have HX := Lib.hid he
        clear he h6
        go_wp2
        go_round
        case rel => exact ⟨k + 1, by omega, by omega, by go_num, HX.out⟩
        case measure => simp [intOf]; omega
    · obtain rfl : k = len := by omega
      have he : beh l p label = none := by rw [HE.out, Nat.sub_self]; rfl
      have HX := Lib.hid he
      clear he
      go_wp2
      go_ret2
      exact ⟨by rw [HX.out]; rfl, rfl⟩
end Go.Proofs.Ytcejhfpdajbdcaa
