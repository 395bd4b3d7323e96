/- The reference of layer 16: which conditions may be. -/
import Derived.Test.YtbcoooaoofbboaaCnd2
import Derived.Test.YtbcoooaoofbboaaRef15M
namespace Go.Proofs.Ytbcoooaoofbboaa
open Go.RowKit Go.ChangeShapes
set_option linter.unusedVariables false

set_option maxRecDepth 100000 in
theorem refSign_any (s : ByteArray) (w : World) : Calls Try.prog 34 #[.string s] w fun e w' => e = .returned (.bool (signOk s)) ∧ w = w' := by
  by_cases h1 : s = sEq
  · subst h1
    rw [show signOk sEq = true from rfl, sEq]
    go_enter Try.func34, Try.ntmps34
    go_wp2_with fail
    go_ret
    exact ⟨rfl, rfl⟩
  by_cases h2 : s = sNe
  · subst h2
    rw [show signOk sNe = true from rfl, sNe]
    go_enter Try.func34, Try.ntmps34
    go_wp2_with fail
    go_ret
    exact ⟨rfl, rfl⟩
  by_cases h3 : s = sLt
  · subst h3
    rw [show signOk sLt = true from rfl, sLt]
    go_enter Try.func34, Try.ntmps34
    go_wp2_with fail
    go_ret
    exact ⟨rfl, rfl⟩
  by_cases h4 : s = sLe
  · subst h4
    rw [show signOk sLe = true from rfl, sLe]
    go_enter Try.func34, Try.ntmps34
    go_wp2_with fail
    go_ret
    exact ⟨rfl, rfl⟩
  by_cases h5 : s = sGt
  · subst h5
    rw [show signOk sGt = true from rfl, sGt]
    go_enter Try.func34, Try.ntmps34
    go_wp2_with fail
    go_ret
    exact ⟨rfl, rfl⟩
  by_cases h6 : s = sGe
  · subst h6
    rw [show signOk sGe = true from rfl, sGe]
    go_enter Try.func34, Try.ntmps34
    go_wp2_with fail
    go_ret
    exact ⟨rfl, rfl⟩
  have hs : Hid (signOk s = false) := Lib.hid (by unfold signOk; simp [h1, h2, h3, h4, h5, h6])
  have t1 : (s.toList == [61, 61]) = false := by rw [← str_tests.1]; exact ba_tne h1
  have t2 : (s.toList == [33, 61]) = false := by rw [← str_tests.2.1]; exact ba_tne h2
  have t3 : (s.toList == [60]) = false := by rw [← str_tests.2.2.1]; exact ba_tne h3
  have t4 : (s.toList == [60, 61]) = false := by rw [← str_tests.2.2.2.1]; exact ba_tne h4
  have t5 : (s.toList == [62]) = false := by rw [← str_tests.2.2.2.2.1]; exact ba_tne h5
  have t6 : (s.toList == [62, 61]) = false := by rw [← str_tests.2.2.2.2.2]; exact ba_tne h6
  clear h1 h2 h3 h4 h5 h6
  go_enter Try.func34, Try.ntmps34
  go_wp2_with fail
  go_ret
  exact ⟨by rw [hs.out]; rfl, rfl⟩
set_option maxRecDepth 100000 in
theorem refBare_any (kind : Int) (k : Value) (arg : Int) (mask : Nat) (sign : ByteArray) (value : Nat) (hv : ∃ a n c, k = .slice a n c) (w : World) : Calls Try.prog 31 #[.agg #[.int .i64 kind, k, .int .i64 arg, .int .u64 (mask : Nat), .string sign, .int .u64 (value : Nat)]] w fun e w' => e = .returned (.bool (bareV arg mask sign value)) ∧ Below w.heap.size w w' := by
  obtain ⟨ka, kn, kc, rfl⟩ := hv
  by_cases h1 : arg = 0
  · subst h1
    by_cases h2 : mask = 0
    · subst h2
      by_cases h3 : sign = ⟨#[]⟩
      · subst h3
        by_cases h4 : value = 0
        · subst h4
          go_enter Try.func31, Try.ntmps31
          go_wp2_with fail
          go_ret
          exact ⟨rfl, (Below.refl _ _).alloc (Nat.le_refl _) _⟩
        · have e : bareV 0 0 ⟨#[]⟩ value = false := by unfold bareV; simp [h4]
          have e4 : ((value : Int) == 0) = false := by rw [beq_eq_false_iff_ne]; omega
          have E := Lib.hid e
          clear e h4
          go_enter Try.func31, Try.ntmps31
          go_wp2_with fail
          go_ret
          exact ⟨by rw [E.out]; rfl, (Below.refl _ _).alloc (Nat.le_refl _) _⟩
      · have e : bareV 0 0 sign value = false := by unfold bareV; simp [h3]
        have e3 : (sign.toList == []) = false := by rw [← bare_tests]; exact ba_tne h3
        have E := Lib.hid e
        clear e h3
        go_enter Try.func31, Try.ntmps31
        go_wp2_with fail
        go_ret
        exact ⟨by rw [E.out]; rfl, (Below.refl _ _).alloc (Nat.le_refl _) _⟩
    · have e : bareV 0 mask sign value = false := by unfold bareV; simp [h2]
      have e2 : ((mask : Int) == 0) = false := by rw [beq_eq_false_iff_ne]; omega
      have E := Lib.hid e
      clear e h2
      go_enter Try.func31, Try.ntmps31
      go_wp2_with fail
      go_ret
      exact ⟨by rw [E.out]; rfl, (Below.refl _ _).alloc (Nat.le_refl _) _⟩
  · have e : bareV arg mask sign value = false := by unfold bareV; simp [h1]
    have e1 : (arg == 0) = false := by rw [beq_eq_false_iff_ne]; exact h1
    have E := Lib.hid e
    clear e h1
    go_enter Try.func31, Try.ntmps31
    go_wp2_with fail
    go_ret
    exact ⟨by rw [E.out]; rfl, (Below.refl _ _).alloc (Nat.le_refl _) _⟩

def Cnd.aloneR (c : Cnd) : Bool :=
  if c.kind = 4 then decide (0 ≤ c.arg) && decide (c.arg ≤ 5) && signOk c.sign && decide (c.kids.length = 0)
  else bareV c.arg c.mask c.sign c.value && (if c.kind = 1 ∨ c.kind = 2 then decide (2 ≤ c.kids.length) else decide (c.kind = 3) && decide (c.kids.length = 1))
mutual
def Cnd.fineR : Cnd → Bool
  | .mk k kids a m s v => (Cnd.mk k kids a m s v).aloneR && finesR kids
def finesR : List Cnd → Bool
  | [] => true
  | k :: ks => k.fineR && finesR ks
end
theorem Cnd.fineR_eq (c : Cnd) : c.fineR = (c.aloneR && finesR c.kids) := by cases c; rw [Cnd.fineR]; rfl
theorem aloneR_eq (c : Cnd) (h : c.kids.length < 100) : c.aloneR = c.alone := by
  unfold Cnd.aloneR Cnd.alone
  have hb : bareV c.arg c.mask c.sign c.value = c.bare := rfl
  rw [hb]
  by_cases h4 : c.kind = 4
  · rw [if_pos h4, if_pos h4]
  · rw [if_neg h4, if_neg h4]
    by_cases h12 : c.kind = 1 ∨ c.kind = 2
    · rw [if_pos h12, if_pos h12, decide_eq_true h, Bool.and_true]
    · rw [if_neg h12, if_neg h12]
      by_cases h3 : c.kind = 3
      · rw [if_pos h3, decide_eq_true h3, Bool.true_and]
      · rw [if_neg h3, decide_eq_false h3, Bool.false_and, Bool.and_false]
mutual
theorem fineR_few : ∀ (c : Cnd), c.size ≤ 100 → c.fineR = c.fine
  | .mk k kids a m s v, h => by
    rw [Cnd.size] at h
    have hl := sizes_len kids
    rw [Cnd.fineR, Cnd.fine, aloneR_eq _ (by show kids.length < 100; omega), finesR_few kids (by omega)]
theorem finesR_few : ∀ (l : List Cnd), sizes l ≤ 100 → finesR l = fines l
  | [], _ => rfl
  | k :: ks, h => by
    rw [sizes] at h
    rw [finesR, fines, fineR_few k (by omega), finesR_few ks (by omega)]
end
theorem finesR_take (l : List Cnd) : ∀ j, j < l.length → finesR (l.take (j + 1)) = (finesR (l.take j) && (l.getD j cndZ).fineR) := by
  induction l with
  | nil => intro j h; simp at h
  | cons a l ih =>
    intro j h
    cases j with
    | zero => simp [finesR]
    | succ j =>
      rw [List.take_succ_cons, finesR, ih j (by simpa using h), List.take_succ_cons, finesR, Bool.and_assoc]
      rfl
theorem finesR_false (l : List Cnd) (j : Nat) (h : j < l.length) (hj : (l.getD j cndZ).fineR = false) : finesR l = false := by
  induction l generalizing j with
  | nil => simp at h
  | cons a l ih =>
    cases j with
    | zero => rw [finesR, show a.fineR = false from hj, Bool.false_and]
    | succ j => rw [finesR, ih j (by simpa using h) (by simpa using hj), Bool.and_false]
theorem size_kid (l : List Cnd) (j : Nat) (h : j < l.length) : (l.getD j cndZ).size ≤ sizes l := by
  induction l generalizing j with
  | nil => simp at h
  | cons a l ih =>
    rw [sizes]
    cases j with
    | zero => show a.size ≤ _; omega
    | succ j => have := ih j (by simpa using h); show (l.getD j cndZ).size ≤ _; omega
/-- one of the kids, as it is loaded -/
theorem kid_load {w u : World} {k : Value} {l : List Cnd} (h : IsCnds w k l) (hb : Below w.heap.size w u) {A : Option Addr} {n c : Nat} (hk : k = .slice A n c) (j : Nat) (hj : j < n) :
    ∃ b o k2, A = some ⟨b, o, none⟩ ∧ (∃ a2 n2 c2, k2 = .slice a2 n2 c2) ∧ IsCnd u (.agg ((l.getD j cndZ).cells k2).toArray) (l.getD j cndZ) ∧ ∀ i x, ((l.getD j cndZ).cells k2)[i]? = some x → u.cell? ⟨b, o + j * 6 + i, none⟩ = some x := by
  obtain ⟨a, len, cap, rfl, h1, h2, h3, h4, h5⟩ := h
  injection hk with e1 e2 e3
  subst e1 e2 e3
  obtain ⟨b, o, rfl, hlt, hka⟩ := h5.resolve_left (by omega)
  obtain ⟨hbd, k2, d, hk2⟩ := (cndAt_iff w _ b _).1 (kidsAt_get w l b o j hka (by omega))
  obtain ⟨a2, n2, c2, rfl, _⟩ := id hk2
  exact ⟨b, o, _, rfl, ⟨_, _, _, rfl⟩, ⟨hbd, _, rfl, hk2.below hb⟩, fun i x hx => (hb.cell (p := ⟨b, o + j * 6 + i, none⟩) hlt).trans (d i x hx)⟩
set_option maxRecDepth 100000 in
set_option maxHeartbeats 4000000 in
theorem refFits16 : ∀ (N : Nat) (c : Cnd), c.size ≤ N → ∀ (v : Value) (w : World), IsCnd w v c → Calls Try.prog 20 #[v] w fun e w' => e = .returned (.bool c.fineR) ∧ Below w.heap.size w w' := by
  intro N
  induction N with
  | zero => intro c h; rw [c.size_eq] at h; omega
  | succ N ih =>
    intro c hsz v w h
    obtain ⟨hb, k, rfl, hk⟩ := h
    obtain ⟨ka, kn, kc, rfl, hkn, hkc, hkm, _⟩ := id hk
    have hw1 := (Below.refl w.heap.size w).alloc (Nat.le_refl _) (.cells (c.cells (.slice ka kn kc)).toArray 25)
    have hnw := heap_alloc_new w (.cells (c.cells (.slice ka kn kc)).toArray 25)
    have hFR := c.fineR_eq
    have hA4 : c.kind = 4 → c.aloneR = (decide (0 ≤ c.arg) && decide (c.arg ≤ 5) && signOk c.sign && decide (kn = 0)) := fun h => by unfold Cnd.aloneR; rw [if_pos h, hkn]
    have hAb : c.kind ≠ 4 → bareV c.arg c.mask c.sign c.value = false → c.aloneR = false := fun h hb => by unfold Cnd.aloneR; rw [if_neg h, hb]; rfl
    have hA1 : c.kind = 1 ∨ c.kind = 2 → bareV c.arg c.mask c.sign c.value = true → c.aloneR = decide (2 ≤ kn) := fun h hb => by unfold Cnd.aloneR; rw [if_neg (by omega), hb, if_pos h, hkn]; rfl
    have hA3 : c.kind = 3 → bareV c.arg c.mask c.sign c.value = true → c.aloneR = decide (kn = 1) := fun h hb => by unfold Cnd.aloneR; rw [if_neg (by omega), hb, if_neg (by omega), hkn, decide_eq_true h]; rfl
    have hAx : c.kind ≠ 4 → c.kind ≠ 1 → c.kind ≠ 2 → c.kind ≠ 3 → c.aloneR = false := fun h4 h1 h2 h3 => by unfold Cnd.aloneR; rw [if_neg h4, if_neg (by omega), decide_eq_false h3, Bool.false_and, Bool.and_false]
    obtain ⟨al, hale⟩ : ∃ al, c.aloneR = al := ⟨_, rfl⟩
    rw [hale] at hFR hA4 hAb hA1 hA3 hAx
    clear hale
    have hkz : kn = 0 → finesR c.kids = true := fun h => by rw [List.eq_nil_of_length_eq_zero (hkn.trans h)]; rfl
    have hkid : ∀ j, j < kn → (c.kids.getD j cndZ).size ≤ N := fun j hj => by
      have := size_kid c.kids j (by omega)
      rw [c.size_eq] at hsz
      omega
    have hload := fun u (hu : Below w.heap.size w u) j hj => kid_load hk hu rfl j hj
    have htake := fun j hj => finesR_take c.kids j hj
    have hfalse := fun j hj hx => finesR_false c.kids j hj hx
    have hknI : (kn : Int) ≤ 9223372036854775807 := by omega
    have HB := Lib.hid (fun u => refBare_any c.kind (.slice ka kn kc) c.arg c.mask c.sign c.value ⟨_, _, _, rfl⟩ u)
    have HS := Lib.hid (fun u => refSign_any c.sign u)
    obtain ⟨R, hR⟩ : ∃ R, c.fineR = R := ⟨_, rfl⟩
    rw [hR] at hFR ⊢
    have HFR := Lib.hid hFR; have HA4 := Lib.hid hA4; have HAB := Lib.hid hAb; have HA1 := Lib.hid hA1; have HA3 := Lib.hid hA3; have HAX := Lib.hid hAx; have HKZ := Lib.hid hkz; have HKID := Lib.hid hkid; have HLOAD := Lib.hid hload; have HTAKE := Lib.hid htake; have HFALSE := Lib.hid hfalse; have HKN := Lib.hid hkn
    clear hb hk hsz hFR hA4 hAb hA1 hA3 hAx hkz hkid hload htake hfalse hkc hkm hR hkn
    show Calls _ _ #[.agg #[.int .i64 c.kind, .slice ka kn kc, .int .i64 c.arg, .int .u64 (c.mask : Nat), .string c.sign, .int .u64 (c.value : Nat)]] _ _
    obtain ⟨kind, kids, arg, mask, sign, value⟩ := c
    simp only [Cnd.cells, Cnd.kind, Cnd.arg, Cnd.mask, Cnd.sign, Cnd.value, Cnd.kids] at *
    have HW1 := Lib.hid hw1; have HNW := Lib.hid hnw
    clear hw1 hnw
    by_cases k4 : kind = 4
    · have h4 := HA4.out k4
      subst k4
      have e : R = ((decide (0 ≤ arg) && decide (arg ≤ 5) && signOk sign && decide (kn = 0)) && finesR kids) := by rw [HFR.out, h4]; rfl
      have E := Lib.hid e
      clear e h4 HB HFR HA4 HAB HA1 HA3 HAX HNW HKID HLOAD HTAKE HFALSE
      by_cases a0 : 0 ≤ arg
      · by_cases a5 : arg ≤ 5
        · have E2 := Lib.hid a0; have E3 := Lib.hid a5
          go_enter Try.func20, Try.ntmps20
          go_wp2_with fail
          refine (HS.out _).mono ?_
          rintro e w2 ⟨rfl, rfl⟩
          cases hs : signOk sign
          · rw [hs] at E
            go_wp2_with fail
            go_ret
            exact ⟨by rw [E.out]; simp, HW1.out⟩
          · rw [hs] at E
            by_cases n0 : kn = 0
            · have hz := HKZ.out n0
              rw [hz, decide_eq_true n0] at E
              subst n0
              clear hz
              go_wp2_with fail
              go_ret
              exact ⟨by rw [E.out, decide_eq_true E2.out, decide_eq_true E3.out]; rfl, HW1.out⟩
            · have e0 : ((kn : Int) == 0) = false := by rw [beq_eq_false_iff_ne]; omega
              rw [decide_eq_false n0] at E
              clear n0
              go_wp2_with fail
              go_ret
              exact ⟨by rw [E.out]; simp, HW1.out⟩
        · have E3 := Lib.hid a5
          go_enter Try.func20, Try.ntmps20
          go_wp2_with fail
          go_ret
          exact ⟨by rw [E.out, decide_eq_false (show ¬ arg ≤ 5 by have := E3.out; omega)]; simp, HW1.out⟩
      · have E3 := Lib.hid a0
        go_enter Try.func20, Try.ntmps20
        go_wp2_with fail
        go_ret
        exact ⟨by rw [E.out, decide_eq_false (show ¬ 0 ≤ arg by have := E3.out; omega)]; simp, HW1.out⟩
    · have b4 : (kind == 4) = false := by rw [beq_eq_false_iff_ne]; exact k4
      have K4 := Lib.hid k4
      generalize bareV arg mask sign value = bb at *
      clear HA4 HS HKZ k4
      cases bb
      · have e : R = false := by rw [HFR.out, HAB.out K4.out rfl]; rfl
        have E := Lib.hid e
        clear e HFR HAB HA1 HA3 HAX
        go_enter Try.func20, Try.ntmps20
        go_wp2_with fail
        refine (HB.out _).mono ?_
        rintro e w2 ⟨rfl, hb2⟩
        have HW2 := Lib.hid (HW1.out.trans (hb2.mono HW1.out.size))
        clear hb2
        go_wp2_with fail
        go_ret
        exact ⟨by rw [E.out]; rfl, HW2.out⟩
      · by_cases kk : kind = 1 ∨ kind = 2 ∨ kind = 3
        · have hx : (al = false ∧ ((kind = 1 ∧ (kn : Int) < 2) ∨ (kind = 2 ∧ (kn : Int) < 2) ∨ (kind = 3 ∧ ((kn : Int) != 1) = true))) ∨ (al = true ∧ ((kind = 1 ∧ (2 : Int) ≤ kn) ∨ (kind = 2 ∧ (2 : Int) ≤ kn) ∨ (kind = 3 ∧ kn = 1))) := by
            rcases kk with k | k | k
            · have h := HA1.out (.inl k) rfl
              by_cases h2 : 2 ≤ kn
              · exact .inr ⟨by rw [h, decide_eq_true h2], .inl ⟨k, by omega⟩⟩
              · exact .inl ⟨by rw [h, decide_eq_false h2], .inl ⟨k, by omega⟩⟩
            · have h := HA1.out (.inr k) rfl
              by_cases h2 : 2 ≤ kn
              · exact .inr ⟨by rw [h, decide_eq_true h2], .inr (.inl ⟨k, by omega⟩)⟩
              · exact .inl ⟨by rw [h, decide_eq_false h2], .inr (.inl ⟨k, by omega⟩)⟩
            · have h := HA3.out k rfl
              by_cases h1 : kn = 1
              · exact .inr ⟨by rw [h, decide_eq_true h1], .inr (.inr ⟨k, h1⟩)⟩
              · exact .inl ⟨by rw [h, decide_eq_false h1], .inr (.inr ⟨k, by rw [bne_iff_ne]; omega⟩)⟩
          clear HA1 HA3 HAX HAB kk
          have bad : al = false → R = false := fun h => by rw [HFR.out, h]; rfl
          have good : al = true → R = finesR kids := fun h => by rw [HFR.out, h]; rfl
          have BAD := Lib.hid bad; have GOOD := Lib.hid good
          clear bad good HFR
          rcases hx with ⟨ha, hx⟩ | ⟨ha, hx⟩
          · have E := Lib.hid (BAD.out ha)
            clear ha BAD GOOD
            rcases hx with ⟨rfl, hn⟩ | ⟨rfl, hn⟩ | ⟨rfl, hn⟩
            all_goals
              go_enter Try.func20, Try.ntmps20
              go_wp2_with fail
              refine (HB.out _).mono ?_
              rintro e w2 ⟨rfl, hb2⟩
              have hnw2 := (hb2.block _ (lt_of_block HNW.out)).trans HNW.out
              have q0 := below_cell (Below.refl _ _) hnw2 0 rfl
              have q1 := below_cell (Below.refl _ _) hnw2 1 rfl
              have HW2 := Lib.hid (HW1.out.trans (hb2.mono HW1.out.size))
              clear hb2 hnw2
              go_wp2_with fail
              go_ret
              exact ⟨by rw [E.out]; rfl, HW2.out⟩
          have E := Lib.hid (GOOD.out ha)
          clear ha BAD GOOD
          have hx : ((kind = 1 ∧ (2 : Int) ≤ kn) ∨ (kind = 2 ∧ (2 : Int) ≤ kn) ∨ (kind = 3 ∧ ((kn : Int) != 1) = false)) := hx.imp id (Or.imp id (fun ⟨a, b⟩ => ⟨a, by rw [b]; rfl⟩))
          rcases hx with ⟨rfl, hn⟩ | ⟨rfl, hn⟩ | ⟨rfl, hn⟩
          all_goals
            go_enter Try.func20, Try.ntmps20
            go_wp2_with fail
            refine (HB.out _).mono ?_
            rintro e w2 ⟨rfl, hb2⟩
            have hnw2 := (hb2.block _ (lt_of_block HNW.out)).trans HNW.out
            have q0 := below_cell (Below.refl _ _) hnw2 0 rfl
            have q1 := below_cell (Below.refl _ _) hnw2 1 rfl
            have HW2 := Lib.hid (HW1.out.trans (hb2.mono HW1.out.size))
            clear hb2 hnw2
            go_wp2_with fail
            go_loopw [66] (fun z wr => ∃ j : Nat, z = .int .i64 (j : Nat) ∧ j ≤ kn ∧ finesR (kids.take j) = true ∧ Below w.heap.size w wr) (fun z _ => kn - (intOf z).toNat)
            case atStart => exact ⟨0, rfl, by omega, rfl, HW2.out⟩
            case round =>
              obtain ⟨j, rfl, hj, hfine, hwr⟩ := hrel
              clear q0 q1
              by_cases hlt : j < kn
              · obtain ⟨b, o, k2, rfl, ⟨a2, n2, c2, rfl⟩, hI, hcell⟩ := HLOAD.out wr hwr j hlt
                have hjI : (j : Int) < kn := by omega
                have hsz := HKID.out j hlt
                have htk := HTAKE.out j (by have := HKN.out; omega)
                have hfl := HFALSE.out j (by have := HKN.out; omega)
                rw [hfine, Bool.true_and] at htk
                generalize kids.getD j cndZ = cc at *
                have hw3 := (Below.refl wr.heap.size wr).alloc (Nat.le_refl _) (.cells (cc.cells (.slice a2 n2 c2)).toArray 25)
                have hnw3 := heap_alloc_new wr (.cells (cc.cells (.slice a2 n2 c2)).toArray 25)
                have hcall := ih cc hsz _ _ (hI.below hw3)
                have HC := Lib.hid hcall; have HW3 := Lib.hid (hwr.trans (hw3.mono hwr.size)); have HTK := Lib.hid htk; have HFL := Lib.hid hfl
                obtain ⟨fr, hfr⟩ : ∃ fr, cc.fineR = fr := ⟨_, rfl⟩
                rw [hfr] at HC HTK HFL
                have e0 := hcell 0 _ rfl
                have e1 := hcell 1 _ rfl
                have e2 := hcell 2 _ rfl
                have e3 := hcell 3 _ rfl
                have e4 := hcell 4 _ rfl
                have e5 := hcell 5 _ rfl
                rw [Nat.add_zero] at e0
                clear hsz htk hfl hcall hw3 hI hcell hfr hwr hfine
                obtain ⟨kind2, kids2, arg2, mask2, sign2, value2⟩ := cc
                simp only [Cnd.cells, Cnd.kind, Cnd.arg, Cnd.mask, Cnd.sign, Cnd.value] at e0 e1 e2 e3 e4 e5 HC HW3 hnw3
                have q0 := below_cell (Below.refl _ _) hnw3 0 rfl
                have q1 := below_cell (Below.refl _ _) hnw3 1 rfl
                have q2 := below_cell (Below.refl _ _) hnw3 2 rfl
                have q3 := below_cell (Below.refl _ _) hnw3 3 rfl
                have q4 := below_cell (Below.refl _ _) hnw3 4 rfl
                have q5 := below_cell (Below.refl _ _) hnw3 5 rfl
                clear hnw3
                go_wp2_with fail
                refine HC.out.mono ?_
                rintro e w4 ⟨rfl, hb4⟩
                have HW4 := Lib.hid (HW3.out.trans (hb4.mono HW3.out.size))
                clear hb4 q0 q1 q2 q3 q4 q5 e0 e1 e2 e3 e4 e5 HC
                cases fr
                · have hR := E.out.trans (HFL.out rfl)
                  have HR := Lib.hid hR
                  clear hR
                  go_wp2_with fail
                  go_ret
                  exact ⟨by rw [HR.out]; rfl, HW4.out⟩
                · go_wp2_with fail
                  go_roundw
                  case rel => exact ⟨j + 1, by go_num, by omega, HTK.out, HW4.out⟩
                  case measure => simp [intOf]; omega
              · obtain rfl : j = kn := by omega
                rw [List.take_of_length_le (by have := HKN.out; omega)] at hfine
                have hR := E.out.trans hfine
                have HR := Lib.hid hR
                clear hR hfine
                go_wp2_with fail
                go_ret
                exact ⟨by rw [HR.out]; rfl, hwr⟩
        · have e : R = false := by rw [HFR.out, HAX.out K4.out (by omega) (by omega) (by omega)]; rfl
          have E := Lib.hid e
          have b1 : (kind != 1) = true := by rw [bne_iff_ne]; omega
          have b2 : (kind != 2) = true := by rw [bne_iff_ne]; omega
          have b3 : (kind != 3) = true := by rw [bne_iff_ne]; omega
          clear kk e HFR HAB HA1 HA3 HAX
          go_enter Try.func20, Try.ntmps20
          go_wp2_with fail
          refine (HB.out _).mono ?_
          rintro e w2 ⟨rfl, hb2⟩
          have hnw2 := (hb2.block _ (lt_of_block HNW.out)).trans HNW.out
          have q0 := below_cell (Below.refl _ _) hnw2 0 rfl
          have HW2 := Lib.hid (HW1.out.trans (hb2.mono HW1.out.size))
          clear hb2 hnw2
          go_wp2_with fail
          go_ret
          exact ⟨by rw [E.out]; rfl, HW2.out⟩
end Go.Proofs.Ytbcoooaoofbboaa
