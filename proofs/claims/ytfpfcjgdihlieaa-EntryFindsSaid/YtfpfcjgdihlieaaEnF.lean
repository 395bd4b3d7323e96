/- entry.Find. -/
import Derived.Test.YtfpfcjgdihlieaaEnR
import Derived.Test.YtfpfcjgdihlieaaShelf
namespace Go.Proofs.Ytfpfcjgdihlieaa
open Go.RowKit
set_option linter.unusedVariables false

/-- a name's place among names that rise, and whether it stands there -/
def findE (name : ByteArray) : List En → Nat → Nat × Bool
  | [], k => (k, false)
  | e :: l, k => if e.name = name then (k, true) else if ltB e.name name then findE name l (k + 1) else findE name l k
theorem findE_above (name : ByteArray) : ∀ (l : List En) (k : Nat), (∀ e ∈ l, ltB name e.name = true) → findE name l k = (k, false)
  | [], _, _ => rfl
  | e :: l, k, h => by
    have h1 := h e (by simp)
    rw [findE, if_neg (fun hh => by rw [hh, ltB_irrefl] at h1; cases h1), ltB_asymm h1, findE_above name l k (fun x hx => h x (by simp [hx]))]
    rfl
theorem findE_at (name : ByteArray) : ∀ (l : List En) (p : Option ByteArray) (k m : Nat), risesN p l = true → m ≤ l.length → (∀ t, t < m → ltB (l.getD t enZ).name name = true) → (∀ t, m ≤ t → t < l.length → ltB (l.getD t enZ).name name = false) →
    findE name l k = (k + m, decide (m < l.length) && decide ((l.getD m enZ).name = name))
  | [], p, k, m, _, hm, _, _ => by
    have : m = 0 := by simpa using hm
    subst this; rfl
  | e :: l, p, k, 0, hr, _, _, h2 => by
    rw [risesN, Bool.and_eq_true] at hr
    have h0 := h2 0 (Nat.le_refl _) (by simp)
    simp only [List.getD_cons_zero] at h0
    by_cases he : e.name = name
    · simp [findE, he]
    · have hlt : ltB name e.name = true := by
        cases h : ltB name e.name with
        | true => rfl
        | false => exact absurd (ltB_total h0 h) he
      rw [findE, if_neg he, h0, findE_above name l k (fun x hx => ltB_trans hlt (rises_all l _ hr.2 x hx))]
      simp [he]
  | e :: l, p, k, m + 1, hr, hm, h1, h2 => by
    rw [risesN, Bool.and_eq_true] at hr
    have h0 := h1 0 (by omega)
    simp only [List.getD_cons_zero] at h0
    rw [findE, if_neg (ltB_ne h0), h0, if_pos rfl, findE_at name l _ (k + 1) m hr.2 (by simpa using hm) (fun t ht => by simpa using h1 (t + 1) (by omega)) (fun t h3 h4 => by simpa using h2 (t + 1) (by omega) (by simpa using h4))]
    simp only [List.length_cons, List.getD_cons_succ, Nat.add_lt_add_iff_right]
    rw [show k + 1 + m = k + (m + 1) by omega]
theorem cmp_lt : ∀ (a b : List UInt8), decide (Lib.compareBytes a b < 0) = Op.bytesLess a b
  | [], [] => by simp [Lib.compareBytes, Op.bytesLess]
  | [], _ :: _ => by simp [Lib.compareBytes, Op.bytesLess]
  | _ :: _, [] => by simp [Lib.compareBytes, Op.bytesLess]
  | a :: x, b :: y => by
    rw [Lib.compareBytes, Op.bytesLess]
    by_cases h1 : a < b
    · simp [h1]
    · by_cases h2 : b < a
      · have : a ≠ b := fun e => by subst e; exact h1 h2
        simp [h1, h2, this]
      · have hab : a = b := UInt8.le_antisymm (UInt8.not_lt.1 h2) (UInt8.not_lt.1 h1)
        subst hab
        simp [h1, cmp_lt x y]
theorem cmp_eq0 : ∀ (a b : List UInt8), decide (Lib.compareBytes a b = 0) = decide (a = b)
  | [], [] => by simp [Lib.compareBytes]
  | [], _ :: _ => by simp [Lib.compareBytes]
  | _ :: _, [] => by simp [Lib.compareBytes]
  | a :: x, b :: y => by
    rw [Lib.compareBytes]
    by_cases h1 : a < b
    · have : a ≠ b := fun e => by subst e; exact absurd h1 (by simp)
      simp [h1, this]
    · by_cases h2 : b < a
      · have : a ≠ b := fun e => by subst e; exact absurd h2 (by simp)
        simp [h1, h2, this]
      · have hab : a = b := UInt8.le_antisymm (UInt8.not_lt.1 h2) (UInt8.not_lt.1 h1)
        subst hab
        simp [h1, cmp_eq0 x y]
/-- how the name of an entry stands to a name -/
def cmpN (a b : ByteArray) : Int := Lib.compareBytes a.data.toList b.data.toList
theorem cmpN_lt (a b : ByteArray) : (cmpN a b < 0) ↔ ltB a b = true := by
  have := cmp_lt a.data.toList b.data.toList
  unfold cmpN ltB
  rw [ByteArray.toList_eq, ByteArray.toList_eq, ← this, decide_eq_true_eq]
theorem cmpN_eq (a b : ByteArray) : cmpN a b = 0 ↔ a = b := by
  have := cmp_eq0 a.data.toList b.data.toList
  unfold cmpN
  rw [← decide_eq_true_eq (p := _ = 0), this, decide_eq_true_eq]
  exact ⟨ba_ext, fun e => by rw [e]⟩
set_option maxRecDepth 100000 in
theorem enCmp (name b : ByteArray) (cur nxt : Int) (k : Value) (w : World) : Calls Try.prog 34 #[.agg #[.string name, .int .i64 cur, .int .i64 nxt, k], .string b] w fun e w' => e = .returned (.int .i64 (cmpN name b)) ∧ Below w.heap.size w w' := by
  have hk := Lib.hid (fun u => Try.strings_Compare name b u)
  go_enter Try.func34, Try.ntmps34
  go_wp2_with fail
  refine (hk.out _).mono ?_
  rintro e w' ⟨rfl, rfl⟩
  go_wp2_with fail
  go_ret
  exact ⟨rfl, (Below.refl _ _).alloc (Nat.le_refl _) _⟩
theorem EnAt.cells4 {w : World} {b o : Nat} {e : En} (h : EnAt w b o e) : ∃ k, w.cell? ⟨b, o, none⟩ = some (.string e.name) ∧ w.cell? ⟨b, o + 1, none⟩ = some (.int .i64 e.cur) ∧ w.cell? ⟨b, o + 2, none⟩ = some (.int .i64 e.nxt) ∧ w.cell? ⟨b, o + 3, none⟩ = some k ∧ ∃ a n c, k = .slice a n c := by
  obtain ⟨h0, a, cap, h1, h2, h3, h4, h5⟩ := h.cell
  exact ⟨_, h2, h3, h4, h5, a, _, cap, rfl⟩
set_option maxRecDepth 100000 in
set_option maxHeartbeats 1000000 in
theorem enSearch (l : List En) (v : Value) (name : ByteArray) (w : World) (h : IsEns w v l) (hl20 : l.length ≤ 1000) (hr : risesN none l = true) :
    Calls Try.prog 33 #[v, .string name, .func (.func 34) #[] #[]] w fun e' w' => e' = .returned (.tuple #[.int .i64 ((findE name l 0).1 : Nat), .bool (findE name l 0).2]) ∧ Below w.heap.size w w' := by
  obtain ⟨a, n, cap, rfl, hl, hc1, hc2, hnil, hat⟩ := h
  have y5 : (n : Int) ≤ 1000 := by omega
  have hF : ∀ m, m ≤ n → (∀ t, t < m → ltB (l.getD t enZ).name name = true) → (∀ t, m ≤ t → t < n → ltB (l.getD t enZ).name name = false) → findE name l 0 = (m, decide (m < n) && decide ((l.getD m enZ).name = name)) := by
    intro m hm h1 h2
    have := findE_at name l none 0 m hr (by omega) h1 (fun t h3 h4 => h2 t h3 (by omega))
    rw [this, hl, Nat.zero_add]
  have hM : ∀ i j, i < j → j < n → ltB (l.getD j enZ).name name = true → ltB (l.getD i enZ).name name = true := fun i j hij hj h => ltB_trans (rises_lt l none hr i j hij (by omega)) h
  generalize findE name l 0 = R at *
  have HF := Lib.hid hF; have HM := Lib.hid hM; have HL := Lib.hid hl; have HAT := Lib.hid hat
  clear hF hM hl hat hr hl20
  go_enter Try.func33, Try.ntmps33
  go_wp2_with fail
  go_loopw [9, 10] (fun x y wr => ∃ lo hi : Nat, lo ≤ hi ∧ hi ≤ n ∧ x = .int .i64 lo ∧ y = .int .i64 hi ∧ Hid ((∀ t, t < lo → ltB (l.getD t enZ).name name = true) ∧ (∀ t, hi ≤ t → t < n → ltB (l.getD t enZ).name name = false)) ∧ Hid (Below w.heap.size w wr)) (fun x y _ => (intOf y).toNat - (intOf x).toNat)
  case atStart => exact ⟨0, n, Nat.zero_le _, Nat.le_refl _, rfl, rfl, Lib.hid ⟨fun t ht => absurd ht (Nat.not_lt_zero _), fun t h1 h2 => by omega⟩, Lib.hid (Below.refl _ _)⟩
  case round =>
    obtain ⟨lo, hi, hlh, hin, rfl, rfl, HI, HW⟩ := hrel
    by_cases hlt : lo < hi
    · have hltI : (lo : Int) < hi := by omega
      obtain ⟨b, off, rfl, hblt, hat⟩ := HAT.out.resolve_left (by omega)
      obtain ⟨k, e0, e1, e2, e3, ka, kn, kc, rfl⟩ := ((hat ((lo + hi) / 2) (by omega)).below HW.out hblt).cells4
      generalize hE : l.getD ((lo + hi) / 2) enZ = e at *
      obtain ⟨nm, cur, nxt, vers⟩ := e
      simp only at e0 e1 e2 e3
      have HE := Lib.hid hE
      have hm1 : (lo + hi) / 2 < n := by omega
      have hm2 : lo ≤ (lo + hi) / 2 ∧ (lo + hi) / 2 < hi := by omega
      have HC := Lib.hid (fun u => enCmp nm name cur nxt (.slice ka kn kc) u)
      have hcl := cmpN_lt nm name
      generalize cmpN nm name = cv at *
      clear hE hat
      by_cases hc : cv < 0
      · have hlt3 : ltB nm name = true := hcl.1 hc
        have HT := Lib.hid hlt3
        clear hcl hlt3
        go_wp2_with fail
        refine (HC.out _).mono ?_
        rintro e' w2 ⟨rfl, hb2⟩
        go_wp2_with fail
        go_roundw
        case rel =>
          refine ⟨(lo + hi) / 2 + 1, hi, by omega, hin, by rw [show ((lo : Int) + (hi : Int)) / 2 + 1 = (((lo + hi) / 2 + 1 : Nat) : Int) by omega], rfl, Lib.hid ⟨fun t ht => ?_, HI.out.2⟩, Lib.hid (HW.out.trans (hb2.mono HW.out.size))⟩
          by_cases h : t = (lo + hi) / 2
          · rw [h, HE.out]; exact HT.out
          · exact HM.out t ((lo + hi) / 2) (by omega) hm1 (by rw [HE.out]; exact HT.out)
        case measure => simp [intOf]; omega
      · have hlt3 : ltB nm name = false := by
          cases h : ltB nm name with
          | false => rfl
          | true => exact absurd (hcl.2 h) hc
        have HT := Lib.hid hlt3
        clear hcl hlt3
        go_wp2_with fail
        refine (HC.out _).mono ?_
        rintro e' w2 ⟨rfl, hb2⟩
        go_wp2_with fail
        go_roundw
        case rel =>
          refine ⟨lo, (lo + hi) / 2, by omega, by omega, rfl, by rw [show ((lo : Int) + (hi : Int)) / 2 = (((lo + hi) / 2 : Nat) : Int) by omega], Lib.hid ⟨HI.out.1, fun t h3 h4 => ?_⟩, Lib.hid (HW.out.trans (hb2.mono HW.out.size))⟩
          cases h : ltB (l.getD t enZ).name name with
          | false => rfl
          | true =>
            by_cases h5 : (lo + hi) / 2 = t
            · rw [← h5, HE.out] at h
              exact h.symm.trans HT.out
            · have := HM.out ((lo + hi) / 2) t (by omega) h4 h
              rw [HE.out] at this
              exact this.symm.trans HT.out
        case measure => simp [intOf]; omega
    · obtain rfl : lo = hi := by omega
      have hR := HF.out lo hin HI.out.1 HI.out.2
      by_cases hn : lo < n
      · have hnI : (lo : Int) < n := by omega
        obtain ⟨b, off, rfl, hblt, hat⟩ := HAT.out.resolve_left (by omega)
        obtain ⟨k, e0, e1, e2, e3, ka, kn, kc, rfl⟩ := ((hat lo hn).below HW.out hblt).cells4
        generalize l.getD lo enZ = e at *
        obtain ⟨nm, cur, nxt, vers⟩ := e
        simp only at e0 e1 e2 e3 hR
        have HR := Lib.hid hR
        have HC := Lib.hid (fun u => enCmp nm name cur nxt (.slice ka kn kc) u)
        have hcl := cmpN_eq nm name
        generalize cmpN nm name = cv at *
        clear hat hR
        have hnl : ¬ (lo : Int) < lo := by omega
        by_cases hc : cv = 0
        · have hnm : nm = name := hcl.1 hc
          have HNM := Lib.hid hnm
          subst hc
          clear hcl hnm
          go_wp2_with fail
          refine (HC.out _).mono ?_
          rintro e' w2 ⟨rfl, hb2⟩
          go_wp2_with fail
          go_ret2
          refine ⟨?_, HW.out.trans (hb2.mono HW.out.size)⟩
          rw [HR.out, decide_eq_true hn, decide_eq_true HNM.out]; rfl
        · have hnm : nm ≠ name := fun h => hc (hcl.2 h)
          have HNM := Lib.hid hnm
          have hq : (cv == 0) = false := by simpa using hc
          clear hcl hnm hc
          go_wp2_with fail
          refine (HC.out _).mono ?_
          rintro e' w2 ⟨rfl, hb2⟩
          go_wp2_with fail
          go_ret2
          refine ⟨?_, HW.out.trans (hb2.mono HW.out.size)⟩
          rw [HR.out, decide_eq_true hn, decide_eq_false HNM.out]; rfl
      · have hln : lo = n := by omega
        have hnl : ¬ (lo : Int) < lo := by omega
        have hnn : ¬ (lo : Int) < n := by omega
        have HR := Lib.hid hR
        clear hR hln
        go_wp2_with fail
        go_ret2
        refine ⟨?_, HW.out⟩
        rw [HR.out, decide_eq_false hn]; rfl
set_option maxRecDepth 100000 in
theorem enFind (l : List En) (v : Value) (name : ByteArray) (w : World) (h : IsEns w v l) (hl20 : l.length ≤ 1000) (hr : risesN none l = true) :
    Calls Try.prog 19 #[v, .string name] w fun e' w' => e' = .returned (.tuple #[.int .i64 ((findE name l 0).1 : Nat), .bool (findE name l 0).2]) ∧ Below w.heap.size w w' := by
  have HS := Lib.hid (enSearch l v name w h hl20 hr)
  clear h hr
  generalize findE name l 0 = R at *
  go_enter Try.func19, Try.ntmps19
  go_wp2_with fail
  refine HS.out.mono ?_
  rintro e' w2 ⟨rfl, hb2⟩
  go_wp2_with fail
  go_ret2
  exact ⟨rfl, hb2⟩
end Go.Proofs.Ytfpfcjgdihlieaa
