/- WlP, Wl1, Wl2, Wl3, Wl4, in one text. -/
import Derived.Test.YthnmnnlbglpjaaaGreatDoorPkA
import Derived.Test.YthnmnnlbglpjaaaGreatDoorPkB
import Derived.Deep.RegionWith
namespace Go.Proofs.YthnmnnlbglpjaaaGreatDoor
section SWlP
open Go.RowKit
set_option linter.unusedVariables false

structure Lg where
  secs : List ByteArray
  pend : List Wrt
  left : Int
  epoch : Int
  seq : Int
  used : Int
  dirty : List Wrt
def Lg.dsk (l : Lg) : Dsk := ⟨l.secs, l.pend⟩
def i64ok (n : Int) : Prop := -9223372036854775808 ≤ n ∧ n ≤ 9223372036854775807
def Lg.bounded (l : Lg) : Prop := i64ok l.left ∧ i64ok l.epoch ∧ i64ok l.seq ∧ i64ok l.used
def IsLog (w : World) (v : Value) (l : Lg) : Prop :=
  l.bounded ∧ ∃ sv pv dv, v = .agg #[sv, pv, .int .i64 l.left, .int .i64 l.epoch, .int .i64 l.seq, .int .i64 l.used, dv] ∧ IsStrs w sv l.secs ∧ IsWrts w pv l.pend ∧ IsWrts w dv l.dirty
theorem IsLog.below {w w' : World} {v : Value} {l : Lg} (h : IsLog w v l) (hb : Below w.heap.size w w') : IsLog w' v l := by
  obtain ⟨h0, sv, pv, dv, rfl, h1, h2, h3⟩ := h
  exact ⟨h0, sv, pv, dv, rfl, h1.below hb, h2.below hb, h3.below hb⟩
theorem IsWrts.form {w : World} {v : Value} {l : List Wrt} (h : IsWrts w v l) : ∃ a cap, v = .slice a l.length cap ∧ l.length ≤ cap ∧ cap ≤ 9223372036854775807 := by
  obtain ⟨a, len, cap, rfl, rfl, h1, h2, _⟩ := h
  exact ⟨a, cap, rfl, h1, h2⟩
theorem IsStrs.form {w : World} {v : Value} {l : List ByteArray} (h : IsStrs w v l) : ∃ a cap, v = .slice a l.length cap ∧ l.length ≤ cap ∧ cap ≤ 9223372036854775807 := by
  obtain ⟨a, len, cap, rfl, rfl, h1, h2, _⟩ := h
  exact ⟨a, cap, rfl, h1, h2⟩
theorem IsLog.form {w : World} {v : Value} {l : Lg} (h : IsLog w v l) : ∃ a c a' c' a2 c2, v = .agg #[.slice a l.secs.length c, .slice a' l.pend.length c', .int .i64 l.left, .int .i64 l.epoch, .int .i64 l.seq, .int .i64 l.used, .slice a2 l.dirty.length c2] ∧
    (l.secs.length ≤ c ∧ c ≤ 9223372036854775807) ∧ (l.pend.length ≤ c' ∧ c' ≤ 9223372036854775807) ∧ (l.dirty.length ≤ c2 ∧ c2 ≤ 9223372036854775807) ∧ IsStrs w (.slice a l.secs.length c) l.secs ∧ IsWrts w (.slice a' l.pend.length c') l.pend ∧ IsWrts w (.slice a2 l.dirty.length c2) l.dirty := by
  obtain ⟨h0, sv, pv, dv, rfl, h1, h2, h3⟩ := h
  obtain ⟨a, c, rfl, k1, k2⟩ := h1.form
  obtain ⟨a', c', rfl, k3, k4⟩ := h2.form
  obtain ⟨a2, c2, rfl, k5, k6⟩ := h3.form
  exact ⟨a, c, a', c', a2, c2, rfl, ⟨k1, k2⟩, ⟨k3, k4⟩, ⟨k5, k6⟩, h1, h2, h3⟩
theorem IsLog.disk {w : World} {sv pv dv : Value} {l : Lg} {x y z t : Int} (h : IsLog w (.agg #[sv, pv, .int .i64 x, .int .i64 y, .int .i64 z, .int .i64 t, dv]) l) : IsDisk w (.agg #[sv, pv]) l.dsk := by
  obtain ⟨h0, sv', pv', dv', hv, h1, h2, h3⟩ := h
  injection hv with hv
  injection hv with hv
  injection hv with e1 hv
  injection hv with e2 hv
  subst e1 e2
  exact ⟨_, _, rfl, h1, h2⟩
/-- is there such a home sector? -/
def homeB (n : Nat) (s : Int) : Bool := decide (53 ≤ s ∧ s < n)
/-- a write that is to be done: its place is behind the one ahead of it -/
def dirtyB (n : Nat) : Int → List Wrt → Bool
  | _, [] => true
  | p, x :: l => homeB n x.sector && decide (p < x.sector) && fitsB x.bytes && dirtyB n x.sector l
def rightL (l : Lg) : Bool :=
  rightD l.dsk && decide (64 ≤ l.secs.length) && decide ((1 ≤ l.epoch ∧ l.epoch ≤ 1099511627776) ∧ (0 ≤ l.seq ∧ l.seq ≤ 6) ∧ (0 ≤ l.used ∧ l.used ≤ 40)) && dirtyB l.secs.length (-1) l.dirty
/-- rising places -/
def risesB (p : Int) : List Wrt → Prop
  | [] => True
  | x :: l => p < x.sector ∧ risesB x.sector l
/-- what is to be done, with one write more -/
def withW (x : Wrt) : List Wrt → List Wrt
  | [] => [x]
  | y :: l => if y.sector < x.sector then y :: withW x l else if y.sector = x.sector then x :: l else x :: y :: l
theorem withW_at (x : Wrt) : ∀ (l : List Wrt) (k : Nat), k ≤ l.length → (∀ j, j < k → (l.getD j wrtZ).sector < x.sector) → (∀ j, k ≤ j → j < l.length → x.sector ≤ (l.getD j wrtZ).sector) →
    withW x l = if k < l.length ∧ (l.getD k wrtZ).sector = x.sector then l.set k x else l.take k ++ x :: l.drop k
  | [], k, h, _, _ => by
    obtain rfl : k = 0 := by simpa using h
    rfl
  | y :: l, 0, _, _, h2 => by
    have h := h2 0 (Nat.le_refl _) (by simp)
    simp only [List.getD_cons_zero] at h
    unfold withW
    rw [if_neg (by omega)]
    by_cases e : y.sector = x.sector
    · rw [if_pos e, if_pos ⟨by simp, by simpa using e⟩]; rfl
    · rw [if_neg e, if_neg (fun h => e (by simpa using h.2))]; rfl
  | y :: l, k + 1, hk, h1, h2 => by
    have h := h1 0 (by omega)
    simp only [List.getD_cons_zero] at h
    unfold withW
    rw [if_pos h, withW_at x l k (by simpa using hk) (fun j hj => by simpa using h1 (j + 1) (by omega)) (fun j hj hl => by simpa using h2 (j + 1) (by omega) (by simpa using hl))]
    by_cases e : k < l.length ∧ (l.getD k wrtZ).sector = x.sector
    · rw [if_pos e, if_pos ⟨by simpa using e.1, by simpa using e.2⟩]; rfl
    · rw [if_neg e, if_neg (fun h => e ⟨by simpa using h.1, by simpa using h.2⟩)]; rfl
end SWlP
section SWl1
open Go.RowKit
set_option linter.unusedVariables false

set_option maxRecDepth 100000 in
theorem wlHome (v : Value) (l : Lg) (n : Int) (w : World) (h : IsLog w v l) :
    Calls Tryz.prog 55 #[v, .int .i64 n] w fun e w' => e = .returned (.bool (homeB l.secs.length n)) ∧ Below w.heap.size w w' := by
  obtain ⟨a, c, a', c', a2, c2, rfl, ⟨h1, h2⟩, ⟨h3, h4⟩, ⟨h5, h6⟩, _⟩ := h.form
  clear h
  obtain ⟨secs, pend, left, epoch, seq, used, dirty⟩ := l
  simp only at h1 h2 h3 h4 h5 h6 ⊢
  generalize secs.length = N at *
  generalize pend.length = P at *
  generalize dirty.length = D at *
  have hb := (Below.refl w.heap.size w).alloc (Nat.le_refl _) (.cells #[.slice a N c, .slice a' P c', .int .i64 left, .int .i64 epoch, .int .i64 seq, .int .i64 used, .slice a2 D c2] 29)
  unfold homeB
  by_cases h0 : 53 ≤ n
  · by_cases hx : n < N
    · rw [decide_eq_true ⟨h0, hx⟩]
      go_enter Tryz.func55, Tryz.ntmps55
      go_wp2_with fail
      go_ret
      exact ⟨rfl, hb⟩
    · rw [decide_eq_false (fun h => hx h.2)]
      go_enter Tryz.func55, Tryz.ntmps55
      go_wp2_with fail
      go_ret
      exact ⟨rfl, hb⟩
  · rw [decide_eq_false (fun h => h0 h.1)]
    go_enter Tryz.func55, Tryz.ntmps55
    go_wp2_with fail
    go_ret
    exact ⟨rfl, hb⟩
def fitW (s : ByteArray) : Bool := decide ((trimS s).size ≤ 512)
set_option maxRecDepth 100000 in
theorem wlFits (s : ByteArray) (w : World) (hs : s.size ≤ 9223372036854775807) :
    Calls Tryz.prog 56 #[.string s] w fun e w' => e = .returned (.bool (fitW s)) ∧ w = w' := by
  have H := Lib.hid (fun u => leTrim_any s u hs)
  unfold fitW
  by_cases h5 : (trimS s).size ≤ 512
  · have h5I : ((trimS s).size : Int) ≤ 512 := by omega
    rw [decide_eq_true h5]
    generalize trimS s = T at *
    go_enter Tryz.func56, Tryz.ntmps56
    go_wp2_with (first | (go_at_call 57; refine (H.out _).mono ?_; rintro e w' ⟨rfl, rfl⟩))
    go_ret
    exact ⟨rfl, rfl⟩
  · have h5I : decide (((trimS s).size : Int) ≤ 512) = false := decide_eq_false (by omega)
    rw [decide_eq_false h5]
    generalize trimS s = T at *
    go_enter Tryz.func56, Tryz.ntmps56
    go_wp2_with (first | (go_at_call 57; refine (H.out _).mono ?_; rintro e w' ⟨rfl, rfl⟩))
    go_ret
    exact ⟨rfl, rfl⟩
set_option maxRecDepth 100000 in
theorem wlFindC (a n : Int) (s : ByteArray) (w : World) (ha : -1000000 ≤ a ∧ a ≤ 1000000) (hn : -1000000 ≤ n ∧ n ≤ 1000000) :
    Calls Tryz.prog 88 #[.agg #[.int .i64 a, .string s], .int .i64 n] w fun e w' => e = .returned (.int .i64 (a - n)) ∧ Below w.heap.size w w' := by
  have hw : wrap64 (a - n) = a - n := IntWalk.wrap64_in _ ⟨by omega, by omega⟩
  have hb := (Below.refl w.heap.size w).alloc (Nat.le_refl _) (.cells #[.int .i64 a, .string s] 46)
  go_enter Tryz.func88, Tryz.ntmps88
  go_wp2_with fail
  go_ret
  exact ⟨rfl, hb⟩
/-- where a place stands among rising ones -/
def FindAt (l : List Wrt) (n : Int) (k : Nat) : Prop := k ≤ l.length ∧ (∀ j, j < k → (l.getD j wrtZ).sector < n) ∧ (∀ j, k ≤ j → j < l.length → n ≤ (l.getD j wrtZ).sector)
def foundB (l : List Wrt) (n : Int) (k : Nat) : Bool := decide (k < l.length ∧ (l.getD k wrtZ).sector = n)
theorem half_in (I J : Nat) (h : I < J) (hJ : J ≤ 100000) : I ≤ (I + J) / 2 ∧ (I + J) / 2 < J := by omega
set_option maxRecDepth 100000 in
set_option maxHeartbeats 1000000 in
theorem wlSearch (v : Value) (l : List Wrt) (n : Int) (w : World) (h : IsWrts w v l) (hl : l.length ≤ 100000) (hn : -1000000 ≤ n ∧ n ≤ 1000000) (hb : ∀ j, j < l.length → -1000000 ≤ (l.getD j wrtZ).sector ∧ (l.getD j wrtZ).sector ≤ 1000000)
    (hm : ∀ i j, i < j → j < l.length → (l.getD i wrtZ).sector < (l.getD j wrtZ).sector) :
    Calls Tryz.prog 87 #[v, .int .i64 n, .func (.func 88) #[] #[]] w fun e w' => (∃ k : Nat, FindAt l n k ∧ e = .returned (.tuple #[.int .i64 k, .bool (foundB l n k)])) ∧ Below w.heap.size w w' := by
  obtain ⟨a, len, cap, rfl, hlen, hc1, hc2, hbd, hat⟩ := h
  subst hlen
  obtain ⟨m, hmm⟩ : ∃ m, l.length = m := ⟨_, rfl⟩
  have HF : Hid (∀ k, (k ≤ m ∧ (∀ j, j < k → (l.getD j wrtZ).sector < n) ∧ (∀ j, k ≤ j → j < m → n ≤ (l.getD j wrtZ).sector)) → FindAt l n k ∧ foundB l n k = decide (k < m ∧ (l.getD k wrtZ).sector = n)) := Lib.hid (fun k hk => by unfold FindAt foundB; rw [hmm]; exact ⟨hk, rfl⟩)
  rw [hmm] at hl hb hm hc1 hat ⊢
  have hmI : (m : Int) ≤ 100000 := by omega
  have HAT := Lib.hid hat; have HBB := Lib.hid hb; have HM := Lib.hid hm; have HN := Lib.hid hn
  clear hat hb hm hbd hmm hl hn
  go_enter Tryz.func87, Tryz.ntmps87
  go_wp2_with fail
  go_loopw [9, 10] (fun x y wr => ∃ I J : Nat, I ≤ J ∧ J ≤ m ∧ x = .int .i64 I ∧ y = .int .i64 J ∧ Hid ((∀ j, j < I → (l.getD j wrtZ).sector < n) ∧ (∀ j, J ≤ j → j < m → n ≤ (l.getD j wrtZ).sector) ∧ Below w.heap.size w wr)) (fun x y _ => (intOf y).toNat - (intOf x).toNat)
  case atStart => exact ⟨0, m, by omega, Nat.le_refl _, rfl, rfl, Lib.hid ⟨fun j hj => by omega, fun j h1 h2 => by omega, Below.refl _ _⟩⟩
  case round =>
    obtain ⟨I, J, hIJ, hJm, rfl, rfl, HR⟩ := hrel
    by_cases hlt : I < J
    · have hltI : (I : Int) < J := by omega
      obtain ⟨H, hH⟩ : ∃ H, (I + J) / 2 = H := ⟨_, rfl⟩
      have hH1 : I ≤ H ∧ H < J := by omega
      have hHI : ((I : Int) + J) / 2 = (H : Int) := by omega
      have hHm : (H : Int) < m := by omega
      obtain ⟨b, off, rfl, hbl, hat⟩ := HAT.out.resolve_left (by omega)
      obtain ⟨hw0, hw1⟩ := (hat H (by omega)).below HR.out.2.2 hbl
      have hB := HBB.out H (by omega)
      have hsec : ∀ t, t < H → (l.getD t wrtZ).sector < (l.getD H wrtZ).sector := fun t ht => HM.out t H ht (by omega)
      have hsec2 : ∀ t, H < t → t < m → (l.getD H wrtZ).sector < (l.getD t wrtZ).sector := fun t h1 h2 => HM.out H t h1 h2
      have HS1 := Lib.hid hsec; have HS2 := Lib.hid hsec2
      clear hat hsec hsec2
      obtain ⟨X, hX⟩ : ∃ X, l.getD H wrtZ = X := ⟨_, rfl⟩
      rw [hX] at hw0 hw1 hB HS1 HS2
      obtain ⟨xs, xb⟩ := X
      have HX : Hid ((l.getD H wrtZ).sector = xs) := Lib.hid (by rw [hX])
      clear hX
      simp only at hw0 hw1 hB HS1 HS2
      have HC := Lib.hid (fun u => wlFindC xs n xb u hB HN.out)
      clear hB hH
      by_cases hx : xs < n
      · have hneg : xs - n < 0 := by omega
        go_wp2_with (first | (go_at_call 88; refine (HC.out _).mono ?_; rintro e w2 ⟨rfl, hb2⟩))
        go_roundw
        case rel => exact ⟨H + 1, J, by omega, hJm, by go_num, rfl, Lib.hid ⟨fun j hj => by
            by_cases h : j = H
            · subst h; rw [HX.out]; exact hx
            · exact Int.lt_trans (HS1.out j (by omega)) hx, HR.out.2.1, HR.out.2.2.trans (hb2.mono HR.out.2.2.size)⟩⟩
        case measure => simp [intOf]; omega
      · have hneg : ¬ xs - n < 0 := by omega
        go_wp2_with (first | (go_at_call 88; refine (HC.out _).mono ?_; rintro e w2 ⟨rfl, hb2⟩))
        go_roundw
        case rel => exact ⟨I, H, hH1.1, by omega, rfl, rfl, Lib.hid ⟨HR.out.1, fun j h1 h2 => by
            by_cases h : j = H
            · subst h; rw [HX.out]; omega
            · exact Int.le_trans (by omega) (Int.le_of_lt (HS2.out j (by omega) h2)), HR.out.2.2.trans (hb2.mono HR.out.2.2.size)⟩⟩
        case measure => simp [intOf]; omega
    · obtain rfl : I = J := by omega
      have hnl : ¬ (I : Int) < I := by omega
      obtain ⟨h1, h2⟩ := HF.out I ⟨hJm, HR.out.1, HR.out.2.1⟩
      by_cases hIm : I < m
      · have hImI : (I : Int) < m := by omega
        obtain ⟨b, off, rfl, hbl, hat⟩ := HAT.out.resolve_left (by omega)
        obtain ⟨hw0, hw1⟩ := (hat I hIm).below HR.out.2.2 hbl
        have hB := HBB.out I hIm
        have H1 := Lib.hid h1
        have hd : foundB l n I = decide ((l.getD I wrtZ).sector = n) := by rw [h2]; simp [hIm]
        have HD := Lib.hid hd
        clear hat h1 h2 hd
        generalize l.getD I wrtZ = X at *
        obtain ⟨xs, xb⟩ := X
        simp only at hw0 hw1 hB HD
        have HC := Lib.hid (fun u => wlFindC xs n xb u hB HN.out)
        clear hB
        by_cases hx : xs = n
        · have hd2 : decide (xs = n) = true := decide_eq_true hx
          rw [hd2] at HD
          rw [show xs - n = 0 by omega] at HC
          clear hx hd2
          go_wp2_with (first | (go_at_call 88; refine (HC.out _).mono ?_; rintro e w2 ⟨rfl, hb2⟩))
          go_ret2
          exact ⟨⟨I, H1.out, by rw [HD.out]; rfl⟩, HR.out.2.2.trans (hb2.mono HR.out.2.2.size)⟩
        · have hz : ¬ xs - n = 0 := by omega
          have hz2 : (xs - n == 0) = false := beq_false_of_ne hz
          go_wp2_with (first | (go_at_call 88; refine (HC.out _).mono ?_; rintro e w2 ⟨rfl, hb2⟩))
          go_ret2
          exact ⟨⟨I, H1.out, by rw [HD.out, decide_eq_false hx]; rfl⟩, HR.out.2.2.trans (hb2.mono HR.out.2.2.size)⟩
      · have hImI : ¬ (I : Int) < m := by omega
        have H1 := Lib.hid h1
        have HD := Lib.hid (h2.trans (decide_eq_false (fun h => hIm h.1)))
        clear h1 h2
        go_wp2_with fail
        go_ret2
        exact ⟨⟨I, H1.out, by rw [HD.out]; rfl⟩, HR.out.2.2⟩
end SWl1
section SWl2
open Go.RowKit
set_option linter.unusedVariables false

theorem dirty_from {n : Nat} : ∀ {p : Int} {l : List Wrt}, dirtyB n p l = true → ∀ j, j < l.length → (53 ≤ (l.getD j wrtZ).sector ∧ (l.getD j wrtZ).sector < n) ∧ p < (l.getD j wrtZ).sector ∧ fitsB (l.getD j wrtZ).bytes = true
  | p, x :: l, h, 0, _ => by
    unfold dirtyB homeB at h
    simp only [Bool.and_eq_true, decide_eq_true_eq] at h
    exact ⟨h.1.1.1, h.1.1.2, h.1.2⟩
  | p, x :: l, h, j + 1, hj => by
    unfold dirtyB at h
    simp only [Bool.and_eq_true, decide_eq_true_eq] at h
    have := dirty_from h.2 j (by simpa using hj)
    simp only [List.getD_cons_succ]
    exact ⟨this.1, Int.lt_trans h.1.1.2 this.2.1, this.2.2⟩
theorem dirty_rises {n : Nat} : ∀ {p : Int} {l : List Wrt}, dirtyB n p l = true → ∀ i j, i < j → j < l.length → (l.getD i wrtZ).sector < (l.getD j wrtZ).sector
  | p, x :: l, h, 0, j + 1, _, hj => by
    unfold dirtyB at h
    simp only [Bool.and_eq_true, decide_eq_true_eq] at h
    have := dirty_from h.2 j (by simpa using hj)
    simpa using this.2.1
  | p, x :: l, h, i + 1, j + 1, hij, hj => by
    unfold dirtyB at h
    simp only [Bool.and_eq_true, decide_eq_true_eq] at h
    simpa using dirty_rises h.2 i j (by omega) (by simpa using hj)
theorem right_dirty {l : Lg} (h : rightL l = true) : dirtyB l.secs.length (-1) l.dirty = true ∧ l.secs.length ≤ 256 ∧ rightD l.dsk = true := by
  unfold rightL at h
  simp only [Bool.and_eq_true, decide_eq_true_eq] at h
  obtain ⟨⟨⟨h1, h2⟩, h3⟩, h4⟩ := h
  have := right_len l.dsk h1
  exact ⟨h4, this.2, h1⟩
theorem dirty_ge {n : Nat} : ∀ {p : Int} {l : List Wrt}, dirtyB n p l = true → ∀ j : Nat, j < l.length → p + 1 + j ≤ (l.getD j wrtZ).sector
  | p, x :: l, h, 0, _ => by
    unfold dirtyB at h
    simp only [Bool.and_eq_true, decide_eq_true_eq] at h
    have := h.1.1.2
    simp only [List.getD_cons_zero]
    omega
  | p, x :: l, h, j + 1, hj => by
    unfold dirtyB at h
    simp only [Bool.and_eq_true, decide_eq_true_eq] at h
    have h1 := dirty_ge h.2 j (by simpa using hj)
    have h2 := h.1.1.2
    simp only [List.getD_cons_succ]
    omega
theorem dirty_small {n : Nat} {l : List Wrt} (h : dirtyB n (-1) l = true) (hn : n ≤ 256) : l.length ≤ 256 := by
  by_cases h0 : l.length = 0
  · omega
  · have h1 := dirty_ge h (l.length - 1) (by omega)
    have h2 := (dirty_from h (l.length - 1) (by omega)).1.2
    omega
set_option maxRecDepth 100000 in
theorem wlFind (v : Value) (l : List Wrt) (n : Int) (w : World) (h : IsWrts w v l) (hl : l.length ≤ 100000) (hn : -1000000 ≤ n ∧ n ≤ 1000000) (hb : ∀ j, j < l.length → -1000000 ≤ (l.getD j wrtZ).sector ∧ (l.getD j wrtZ).sector ≤ 1000000)
    (hm : ∀ i j, i < j → j < l.length → (l.getD i wrtZ).sector < (l.getD j wrtZ).sector) :
    Calls Tryz.prog 61 #[v, .int .i64 n] w fun e w' => (∃ k : Nat, FindAt l n k ∧ e = .returned (.tuple #[.int .i64 k, .bool (foundB l n k)])) ∧ Below w.heap.size w w' := by
  have HS := Lib.hid (wlSearch v l n w h hl hn hb hm)
  clear h hb hm hn
  go_enter Tryz.func61, Tryz.ntmps61
  go_wp2_with (first | (go_at_call 87; refine HS.out.mono ?_; rintro e w2 ⟨⟨k, hk, rfl⟩, hb2⟩))
  go_ret2
  exact ⟨⟨k, hk, rfl⟩, hb2⟩
/-- of a log that may be -/
theorem wlFindD (v : Value) (l : Lg) (n : Int) (w : World) (h : IsWrts w v l.dirty) (hr : rightL l = true) (hn : -1000000 ≤ n ∧ n ≤ 1000000) :
    Calls Tryz.prog 61 #[v, .int .i64 n] w fun e w' => (∃ k : Nat, FindAt l.dirty n k ∧ e = .returned (.tuple #[.int .i64 k, .bool (foundB l.dirty n k)])) ∧ Below w.heap.size w w' := by
  obtain ⟨h1, h2, h3⟩ := right_dirty hr
  have h4 := dirty_small h1 h2
  exact wlFind v l.dirty n w h (by omega) hn (fun j hj => by have := (dirty_from h1 j hj).1; omega) (dirty_rises h1)
/-! which may be -/
def nextB (n : Nat) (p : Int) (x : Wrt) : Bool := homeB n x.sector && decide (p < x.sector) && fitsB x.bytes
def lastS (p : Int) : List Wrt → Int
  | [] => p
  | x :: l => lastS x.sector l
theorem dirtyB_snoc (n : Nat) (x : Wrt) : ∀ (p : Int) (l : List Wrt), dirtyB n p (l ++ [x]) = (dirtyB n p l && nextB n (lastS p l) x)
  | p, [] => by
    show (_ && true) = (true && _)
    rw [Bool.and_true, Bool.true_and]; rfl
  | p, y :: l => by
    show (_ && dirtyB n y.sector (l ++ [x])) = ((_ && dirtyB n y.sector l) && nextB n (lastS y.sector l) x)
    rw [dirtyB_snoc n x y.sector l, Bool.and_assoc, Bool.and_assoc, Bool.and_assoc]
    simp [Bool.and_assoc]
theorem lastS_snoc (x : Wrt) : ∀ (p : Int) (l : List Wrt), lastS p (l ++ [x]) = x.sector
  | p, [] => rfl
  | p, y :: l => lastS_snoc x y.sector l
theorem dirtyB_pre (n : Nat) : ∀ (p : Int) (l m : List Wrt), dirtyB n p l = false → dirtyB n p (l ++ m) = false
  | p, [], m, h => by cases h
  | p, y :: l, m, h => by
    unfold dirtyB at h ⊢
    rw [List.cons_append]
    simp only [Bool.and_eq_false_iff] at h ⊢
    rcases h with h | h
    · exact .inl h
    · exact .inr (dirtyB_pre n y.sector l m h)
end SWl2
section SWl3
open Go.RowKit
set_option linter.unusedVariables false
set_option linter.unusedSimpArgs false

def numsB (l : Lg) : Bool := decide ((1 ≤ l.epoch ∧ l.epoch ≤ 1099511627776) ∧ (0 ≤ l.seq ∧ l.seq ≤ 6) ∧ (0 ≤ l.used ∧ l.used ≤ 40))
theorem rightL_eq (l : Lg) : rightL l = (rightD l.dsk && decide (64 ≤ l.secs.length) && numsB l && dirtyB l.secs.length (-1) l.dirty) := rfl
theorem fitsB_or (b : ByteArray) : fitsB b = (fitW b && decide (trimS b = b)) := by
  unfold fitsB fitW
  by_cases h : trimS b = b
  · rw [h]; simp
  · simp [h]
theorem lastS_take (l : List Wrt) (j : Nat) (p : Int) (h : j < l.length) : lastS p (l.take (j + 1)) = (l.getD j wrtZ).sector := by
  rw [← List.take_append_getElem h, lastS_snoc, show l.getD j wrtZ = l[j] from by simp [List.getD, h]]
theorem lastS_bnd (l : List Wrt) (p : Int) (hp : i64ok p) (h : ∀ x ∈ l, x.bounded) : i64ok (lastS p l) := by
  induction l generalizing p with
  | nil => exact hp
  | cons x l ih => exact ih x.sector (h x (List.mem_cons_self)).1 (fun y hy => h y (List.mem_cons_of_mem _ hy))
/-- a log's box -/
def logC (sv pv : Value) (a b c d : Int) (dv : Value) : Array Value := #[sv, pv, .int .i64 a, .int .i64 b, .int .i64 c, .int .i64 d, dv]
set_option maxRecDepth 100000 in
set_option maxHeartbeats 4000000 in
theorem wlRight (v : Value) (l : Lg) (w : World) (h : IsLog w v l) :
    Calls Tryz.prog 24 #[v] w fun e w' => e = .returned (.bool (rightL l)) ∧ Below w.heap.size w w' := by
  obtain ⟨a, c, a', c', a2, c2, rfl, ⟨h1, h2⟩, ⟨h3, h4⟩, ⟨h5, h6⟩, hS, hP, hD⟩ := id h.form
  have hdk := IsLog.disk h
  have hbd := h.1
  have hEQ := rightL_eq l
  have hDB : ∀ x ∈ l.dirty, x.bounded := by obtain ⟨_, _, _, _, _, _, _, hb, _⟩ := hD; exact hb
  have HLG := Lib.hid h
  clear h
  obtain ⟨secs, pend, left, epoch, seq, used, dirty⟩ := l
  simp only [Lg.dsk] at *
  obtain ⟨N, hN⟩ : ∃ N, secs.length = N := ⟨_, rfl⟩
  obtain ⟨P, hP2⟩ : ∃ P, pend.length = P := ⟨_, rfl⟩
  obtain ⟨D, hD2⟩ : ∃ D, dirty.length = D := ⟨_, rfl⟩
  rw [hN] at hEQ h1 hS hdk
  rw [hP2] at h3 hP hdk
  rw [hD2] at h5 hD
  rw [hN, hP2, hD2] at HLG
  rw [hN, hP2, hD2]
  obtain ⟨R, hR⟩ : ∃ R, rightD ⟨secs, pend⟩ = R := ⟨_, rfl⟩
  obtain ⟨B, hB⟩ : ∃ B, dirtyB N (-1) dirty = B := ⟨_, rfl⟩
  rw [hR, hB] at hEQ
  unfold numsB at hEQ
  simp only at hEQ
  obtain ⟨_, _, _, hdv, hdl, _, _, _, hdat⟩ := hD
  injection hdv with t1 t2 t3
  subst t1 t2 t3
  obtain ⟨⟨bl1, bl2⟩, ⟨be1, be2⟩, ⟨bs1, bs2⟩, ⟨bu1, bu2⟩⟩ := hbd
  simp only at bl1 bl2 be1 be2 bs1 bs2 bu1 bu2
  have b0 := heap_alloc_new w (.cells #[.slice a N c, .slice a' P c', .int .i64 left, .int .i64 epoch, .int .i64 seq, .int .i64 used, .slice a2 D c2] 29)
  have hb0 := (Below.refl w.heap.size w).alloc (Nat.le_refl _) (.cells #[.slice a N c, .slice a' P c', .int .i64 left, .int .i64 epoch, .int .i64 seq, .int .i64 used, .slice a2 D c2] 29)
  obtain ⟨u, hU⟩ : ∃ u, w.alloc (.cells #[.slice a N c, .slice a' P c', .int .i64 left, .int .i64 epoch, .int .i64 seq, .int .i64 used, .slice a2 D c2] 29) = u := ⟨_, rfl⟩
  rw [hU] at b0 hb0
  have hdk2 := hdk.below hb0
  have HDR := Lib.hid (diskRight_any _ _ u hdk2)
  rw [hR] at HDR
  have HU := Lib.hid hU; have HB0 := Lib.hid b0; have HBB := Lib.hid hb0; have HEQ := Lib.hid hEQ; have HBQ := Lib.hid hB; have HDAT := Lib.hid hdat; have HDB := Lib.hid hDB; have HDL := Lib.hid hdl
  have HL2 := Lib.hid (fun x (hx : Below w.heap.size w x) => HLG.out.below hx)
  have c0 := below_cell (Below.refl _ u) b0 0 rfl
  have c1 := below_cell (Below.refl _ u) b0 1 rfl
  have c3 := below_cell (Below.refl _ u) b0 3 rfl
  have c4 := below_cell (Below.refl _ u) b0 4 rfl
  have c5 := below_cell (Below.refl _ u) b0 5 rfl
  have hNI : (N : Int) ≤ 9223372036854775807 := by omega
  clear hU b0 hb0 hdk hdk2 hEQ hB hdat hDB hS hP hdl HLG hR
  go_enter Tryz.func24, Tryz.ntmps24
  go_upto_region 1 with fail
  rw [HU.out]
  cases R with
  | false =>
    have HF : Hid (rightL ⟨secs, pend, left, epoch, seq, used, dirty⟩ = false) := Lib.hid (by rw [HEQ.out]; rfl)
    go_wp2_with (first | (go_at_call 42; refine HDR.out.mono ?_; rintro e w2 ⟨rfl, hb2⟩))
    go_ret
    exact ⟨by rw [HF.out]; rfl, HBB.out.trans (hb2.mono HBB.out.size)⟩
  | true =>
  by_cases g1 : 64 ≤ N
  case neg =>
    have HF : Hid (rightL ⟨secs, pend, left, epoch, seq, used, dirty⟩ = false) := Lib.hid (by rw [HEQ.out, decide_eq_false g1]; rfl)
    have g1I : (N : Int) < 64 := by omega
    go_wp2_with (first | (go_at_call 42; refine HDR.out.mono ?_; rintro e w2 ⟨rfl, hb2⟩; have e0 := below_cell hb2 HB0.out 0 rfl))
    go_ret
    exact ⟨by rw [HF.out]; rfl, HBB.out.trans (hb2.mono HBB.out.size)⟩
  have g1I : ¬ (N : Int) < 64 := by omega
  have hgz : ¬ ((1 ≤ epoch ∧ epoch ≤ 1099511627776) ∧ (0 ≤ seq ∧ seq ≤ 6) ∧ (0 ≤ used ∧ used ≤ 40)) → rightL ⟨secs, pend, left, epoch, seq, used, dirty⟩ = false := fun h => by
    rw [HEQ.out, decide_eq_false h]; simp
  have HGZ := Lib.hid hgz
  clear hgz
  go_upto_region 3 with (first | (go_at_call 42; refine HDR.out.mono ?_; rintro e w2 ⟨rfl, hb2⟩; have e0 := below_cell hb2 HB0.out 0 rfl))
  have d3 := below_cell hb2 HB0.out 3 rfl
  have d4 := below_cell hb2 HB0.out 4 rfl
  have d5 := below_cell hb2 HB0.out 5 rfl
  have d6 := below_cell hb2 HB0.out 6 rfl
  have d1 := below_cell hb2 HB0.out 1 rfl
  have d2 := below_cell hb2 HB0.out 2 rfl
  have HB2 := Lib.hid (HBB.out.trans (hb2.mono HBB.out.size))
  have HK2 := Lib.hid ((hb2.block _ (lt_of_block HB0.out)).trans HB0.out)
  clear c0 c1 c3 c4 c5 hb2 HDR HB0 HBB e0
  by_cases k1 : 1 ≤ epoch
  case neg =>
    have HF := Lib.hid (HGZ.out (fun h => k1 h.1.1))
    have k1I : epoch < 1 := by omega
    clear HGZ
    go_wp2_with fail
    go_ret
    exact ⟨by rw [HF.out]; rfl, HB2.out⟩
  have k1I : ¬ epoch < 1 := by omega
  by_cases k2 : epoch ≤ 1099511627776
  case neg =>
    have HF := Lib.hid (HGZ.out (fun h => k2 h.1.2))
    have k2I : 1099511627776 < epoch := by omega
    clear HGZ
    go_wp2_with fail
    go_ret
    exact ⟨by rw [HF.out]; rfl, HB2.out⟩
  have k2I : ¬ 1099511627776 < epoch := by omega
  by_cases k3 : 0 ≤ seq
  case neg =>
    have HF := Lib.hid (HGZ.out (fun h => k3 h.2.1.1))
    have k3I : seq < 0 := by omega
    clear HGZ
    go_wp2_with fail
    go_ret
    exact ⟨by rw [HF.out]; rfl, HB2.out⟩
  have k3I : ¬ seq < 0 := by omega
  by_cases k4 : seq ≤ 6
  case neg =>
    have HF := Lib.hid (HGZ.out (fun h => k4 h.2.1.2))
    have k4I : 6 < seq := by omega
    clear HGZ
    go_wp2_with fail
    go_ret
    exact ⟨by rw [HF.out]; rfl, HB2.out⟩
  have k4I : ¬ 6 < seq := by omega
  by_cases k5 : 0 ≤ used
  case neg =>
    have HF := Lib.hid (HGZ.out (fun h => k5 h.2.2.1))
    have k5I : used < 0 := by omega
    clear HGZ
    go_wp2_with fail
    go_ret
    exact ⟨by rw [HF.out]; rfl, HB2.out⟩
  have k5I : ¬ used < 0 := by omega
  by_cases k6 : used ≤ 40
  case neg =>
    have HF := Lib.hid (HGZ.out (fun h => k6 h.2.2.2))
    have k6I : 40 < used := by omega
    clear HGZ
    go_wp2_with fail
    go_ret
    exact ⟨by rw [HF.out]; rfl, HB2.out⟩
  have k6I : ¬ 40 < used := by omega
  have HEB : Hid (rightL ⟨secs, pend, left, epoch, seq, used, dirty⟩ = B) := Lib.hid (by rw [HEQ.out, decide_eq_true g1, decide_eq_true ⟨⟨k1, k2⟩, ⟨k3, k4⟩, ⟨k5, k6⟩⟩]; simp)
  clear HGZ HEQ
  go_wp2_with fail
  clear k1 k2 k3 k4 k5 k6 k1I k2I k3I k4I k5I k6I d1 d2 d3 d4 d5 d6 g1 g1I be1 be2 bs1 bs2 bu1 bu2
  have hDI : (D : Int) ≤ 9223372036854775807 := by omega
  go_loopw [3, 50] (fun av z wr => ∃ j : Nat, j ≤ D ∧ z = .int .i64 j ∧ av = .int .i64 (lastS (-1) (dirty.take j)) ∧ dirtyB N (-1) (dirty.take j) = true ∧ Hid (Below w.heap.size w wr ∧ Below w2.heap.size w2 wr)) (fun _ z _ => D - (intOf z).toNat)
  case atStart => exact ⟨0, Nat.zero_le _, rfl, rfl, rfl, Lib.hid ⟨HB2.out, Below.refl _ _⟩⟩
  case round =>
    obtain ⟨j, hj, rfl, rfl, hpre, HW⟩ := hrel
    by_cases hlt : j < D
    · have hjI : (j : Int) < D := by omega
      have hjl : j < dirty.length := by rw [hD2]; exact hlt
      obtain ⟨b, off, rfl, hbl, hat⟩ := HDAT.out.resolve_left (by omega)
      obtain ⟨e0, e1⟩ := (hat j hlt).below HW.out.1 hbl
      have hbx := HDB.out _ (List.getElem_mem hjl)
      have hsn : dirtyB N (-1) (dirty.take (j + 1)) = nextB N (lastS (-1) (dirty.take j)) (dirty.getD j wrtZ) := by
        rw [← List.take_append_getElem hjl, dirtyB_snoc, hpre, show dirty.getD j wrtZ = dirty[j] from by simp [List.getD, hjl]]; rfl
      have hno : nextB N (lastS (-1) (dirty.take j)) (dirty.getD j wrtZ) = false → B = false := fun h => by
        rw [← hsn] at h
        have := dirtyB_pre N (-1) _ (dirty.drop (j + 1)) h
        rw [List.take_append_drop, HBQ.out] at this
        exact this
      have hls := lastS_take dirty j (-1) hjl
      have hpb := lastS_bnd (dirty.take j) (-1) ⟨by decide, by decide⟩ (fun x hx => HDB.out x (List.mem_of_mem_take hx))
      rw [show dirty[j] = dirty.getD j wrtZ from by simp [List.getD, hjl]] at hbx
      have HSN := Lib.hid hsn; have HNO := Lib.hid hno; have HLS := Lib.hid hls
      generalize lastS (-1) (dirty.take j) = la at *
      generalize dirty.getD j wrtZ = X at *
      obtain ⟨xs, xb⟩ := X
      obtain ⟨⟨bx1, bx2⟩, bx3⟩ := hbx
      obtain ⟨bp1, bp2⟩ := hpb
      simp only at e0 e1 bx1 bx2 bx3 HLS
      clear hsn hno hls hat hpre
      have hn := heap_alloc_new wr (.cells #[.int .i64 xs, .string xb] 46)
      have hal := (Below.refl wr.heap.size wr).alloc (Nat.le_refl _) (.cells #[.int .i64 xs, .string xb] 46)
      have HN := Lib.hid hn; have HAL := Lib.hid hal
      clear hn hal
      go_upto_region 9 with fail
      obtain ⟨wz, hW⟩ : ∃ wz, wr.alloc (.cells #[.int .i64 xs, .string xb] 46) = wz := ⟨_, rfl⟩
      obtain ⟨V, hV⟩ : ∃ V, wr.heap.size = V := ⟨_, rfl⟩
      have HWW := Lib.hid (HW.out.1.trans (HAL.out.mono HW.out.1.size))
      have HWX := Lib.hid (HW.out.2.trans (HAL.out.mono HW.out.2.size))
      rw [hW] at HN HWW HWX ⊢
      rw [hV] at HN
      (try rw [hV])
      clear hW hV e0 e1 HAL HW
      have hlk := (HWX.out.block _ (lt_of_block HK2.out)).trans HK2.out
      have q0 := keep_at HN.out 0 rfl
      have q1 := keep_at HN.out 1 rfl
      have r0 := keep_at hlk 0 rfl
      have r1 := keep_at hlk 1 rfl
      have r2 := keep_at hlk 2 rfl
      have r3 := keep_at hlk 3 rfl
      have r4 := keep_at hlk 4 rfl
      have r5 := keep_at hlk 5 rfl
      have r6 := keep_at hlk 6 rfl
      have HH := Lib.hid (fun x : KeepT wz => wlHome _ _ xs x.val (HL2.out x.val (HWW.out.trans (x.below.mono HWW.out.size))))
      rw [show (Lg.mk secs pend left epoch seq used dirty).secs.length = N from hN] at HH
      have HFT := Lib.hid (fun u => wlFits xb u bx3)
      have HTR := Lib.hid (fun u => leTrim_any xb u bx3)
      unfold nextB at HSN HNO
      simp only at HSN HNO
      rw [fitsB_or] at HSN HNO
      clear hlk
      cases hh : homeB N xs with
      | false =>
        rw [hh] at HH
        have HF := Lib.hid (HEB.out.trans (HNO.out (by rw [hh]; rfl)))
        clear HNO HSN hh
        refine wp_region_keep (w0 := wz) (by kernel_rfl) (by kernel_rfl) (Below.refl _ _) ?_
        repeat (go_big_quiet_step ((first
          | (go_at_call 55; exact keepCall (HH.out _))
          | (go_at_call 56; exact keepSame (HFT.out _))
          | (go_at_call 57; exact keepSame (HTR.out _)))))
        refine wpQuiet_nil ?_
        intro _ hw'
        obtain ⟨x, rfl⟩ := hw'
        have HX := Lib.hid (HWW.out.trans (x.below.mono HWW.out.size))
        have HY := Lib.hid (HWX.out.trans (x.below.mono HWX.out.size))
        go_wp2_with fail
        go_ret
        exact ⟨by rw [HF.out]; rfl, HX.out⟩
      | true =>
      rw [hh] at HH
      by_cases hp : la < xs
      case neg =>
        have hpI : xs ≤ la := by omega
        have hpd : decide (xs ≤ la) = true := decide_eq_true hpI
        have HF := Lib.hid (HEB.out.trans (HNO.out (by rw [hh, decide_eq_false hp]; rfl)))
        clear HNO HSN hh
        refine wp_region_keep (w0 := wz) (by kernel_rfl) (by kernel_rfl) (Below.refl _ _) ?_
        repeat (go_big_quiet_step ((first
          | (go_at_call 55; exact keepCall (HH.out _))
          | (go_at_call 56; exact keepSame (HFT.out _))
          | (go_at_call 57; exact keepSame (HTR.out _)))))
        refine wpQuiet_nil ?_
        intro _ hw'
        obtain ⟨x, rfl⟩ := hw'
        have HX := Lib.hid (HWW.out.trans (x.below.mono HWW.out.size))
        have HY := Lib.hid (HWX.out.trans (x.below.mono HWX.out.size))
        go_wp2_with fail
        go_ret
        exact ⟨by rw [HF.out]; rfl, HX.out⟩
      have hpI : ¬ xs ≤ la := by omega
      have hpd : decide (xs ≤ la) = false := decide_eq_false hpI
      cases hf : fitW xb with
      | false =>
        rw [hf] at HFT
        have HF := Lib.hid (HEB.out.trans (HNO.out (by rw [hf]; simp)))
        clear HNO HSN hh hf
        refine wp_region_keep (w0 := wz) (by kernel_rfl) (by kernel_rfl) (Below.refl _ _) ?_
        repeat (go_big_quiet_step ((first
          | (go_at_call 55; exact keepCall (HH.out _))
          | (go_at_call 56; exact keepSame (HFT.out _))
          | (go_at_call 57; exact keepSame (HTR.out _)))))
        refine wpQuiet_nil ?_
        intro _ hw'
        obtain ⟨x, rfl⟩ := hw'
        have HX := Lib.hid (HWW.out.trans (x.below.mono HWW.out.size))
        have HY := Lib.hid (HWX.out.trans (x.below.mono HWX.out.size))
        go_wp2_with fail
        go_ret
        exact ⟨by rw [HF.out]; rfl, HX.out⟩
      | true =>
      rw [hf] at HFT
      by_cases ht : trimS xb = xb
      case neg =>
        have hne := ba_tne ht
        have HF := Lib.hid (HEB.out.trans (HNO.out (by rw [decide_eq_false ht]; try simp)))
        generalize trimS xb = T at *
        clear HNO HSN hh hf
        refine wp_region_keep (w0 := wz) (by kernel_rfl) (by kernel_rfl) (Below.refl _ _) ?_
        repeat (go_big_quiet_step ((first
          | (go_at_call 55; exact keepCall (HH.out _))
          | (go_at_call 56; exact keepSame (HFT.out _))
          | (go_at_call 57; exact keepSame (HTR.out _)))))
        refine wpQuiet_nil ?_
        intro _ hw'
        obtain ⟨x, rfl⟩ := hw'
        have HX := Lib.hid (HWW.out.trans (x.below.mono HWW.out.size))
        have HY := Lib.hid (HWX.out.trans (x.below.mono HWX.out.size))
        go_wp2_with fail
        go_ret
        exact ⟨by rw [HF.out]; rfl, HX.out⟩
      have HS2 := Lib.hid (HSN.out.trans (by rw [hh, hf, decide_eq_true ht, decide_eq_true hp]; try rfl))
      rw [ht] at HTR
      have hsq : (xb.toList == xb.toList) = true := by simp
      clear HNO HSN hh hf ht
      refine wp_region_keep (w0 := wz) (by kernel_rfl) (by kernel_rfl) (Below.refl _ _) ?_
      repeat (go_big_quiet_step ((first
        | (go_at_call 55; exact keepCall (HH.out _))
        | (go_at_call 56; exact keepSame (HFT.out _))
        | (go_at_call 57; exact keepSame (HTR.out _)))))
      refine wpQuiet_nil ?_
      intro _ hw'
      obtain ⟨x, rfl⟩ := hw'
      have HX := Lib.hid (HWW.out.trans (x.below.mono HWW.out.size))
      have HY := Lib.hid (HWX.out.trans (x.below.mono HWX.out.size))
      have p0 := below_cell x.below HN.out 0 rfl
      generalize x.val = wy at *
      clear q0 q1 r0 r1 r2 r3 r4 r5 r6
      go_wp2_with fail
      go_roundw
      case rel => exact ⟨j + 1, by omega, by go_num, by rw [HLS.out], HS2.out, Lib.hid ⟨HX.out, HY.out⟩⟩
      case measure => simp [intOf]; omega
    · obtain rfl : j = D := by omega
      have hnl : ¬ (j : Int) < j := by omega
      have hB : B = true := by rw [← HBQ.out, ← hpre, List.take_of_length_le (by omega)]
      have HF := Lib.hid (HEB.out.trans hB)
      clear hpre hB
      go_wp2_with fail
      go_ret
      exact ⟨by rw [HF.out]; rfl, HW.out.1⟩
end SWl3
section SWl4
open Go.RowKit
set_option linter.unusedVariables false
set_option linter.unusedSimpArgs false

def isAt (n : Int) (x : Wrt) : Bool := x.sector == n
/-- what a home sector tells -/
def tellsW (l : Lg) (n : Int) : ByteArray := match l.dirty.find? (isAt n) with
  | some x => x.bytes
  | none => tells l.dsk n.toNat
def readWE (l : Lg) (n : Int) : Int := if rightL l = true then (if homeB l.secs.length n = true then 0 else 20) else 1
def readWS (l : Lg) (n : Int) : ByteArray := if readWE l n = 0 then tellsW l n else ⟨#[]⟩
theorem find_at (n : Int) : ∀ (l : List Wrt) (k : Nat), (∀ j, j < k → (l.getD j wrtZ).sector ≠ n) → k < l.length → (l.getD k wrtZ).sector = n → l.find? (isAt n) = some (l.getD k wrtZ)
  | x :: l, 0, _, _, h => by
    simp only [List.getD_cons_zero] at h ⊢
    rw [List.find?_cons_of_pos (by simp [isAt, h])]
  | x :: l, k + 1, h1, hk, h => by
    have h0 := h1 0 (by omega)
    simp only [List.getD_cons_zero] at h0
    rw [List.find?_cons_of_neg (by simp [isAt, h0]), find_at n l k (fun j hj => by simpa using h1 (j + 1) (by omega)) (by simpa using hk) (by simpa using h)]
    simp
theorem find_no (n : Int) (l : List Wrt) (h : ∀ j, j < l.length → (l.getD j wrtZ).sector ≠ n) : l.find? (isAt n) = none := by
  rw [List.find?_eq_none]
  intro x hx
  obtain ⟨i, hi, rfl⟩ := List.mem_iff_getElem.1 hx
  have := h i hi
  rw [show l.getD i wrtZ = l[i] from by simp [List.getD, hi]] at this
  simp [isAt, this]
theorem found_yes {l : List Wrt} {n : Int} {k : Nat} (h : FindAt l n k) (hf : foundB l n k = true) : k < l.length ∧ l.find? (isAt n) = some (l.getD k wrtZ) := by
  unfold foundB at hf
  rw [decide_eq_true_eq] at hf
  exact ⟨hf.1, find_at n l k (fun j hj => by have := h.2.1 j hj; omega) hf.1 hf.2⟩
theorem found_no {l : List Wrt} {n : Int} {k : Nat} (h : FindAt l n k) (hf : foundB l n k = false) (hm : ∀ i j, i < j → j < l.length → (l.getD i wrtZ).sector < (l.getD j wrtZ).sector) : l.find? (isAt n) = none := by
  unfold foundB at hf
  rw [decide_eq_false_iff_not] at hf
  refine find_no n l (fun j hj he => ?_)
  by_cases h1 : j < k
  · have := h.2.1 j h1; omega
  · by_cases h2 : j = k
    · subst h2; exact hf ⟨hj, he⟩
    · have h3 := hm k j (by omega) hj
      have h4 := h.2.2 k (Nat.le_refl _) (by omega)
      omega
theorem home_bnd {n : Nat} {s : Int} (h : homeB n s = true) (hn : n ≤ 256) : 53 ≤ s ∧ s < n ∧ s ≤ 256 := by
  unfold homeB at h
  rw [decide_eq_true_eq] at h
  omega
set_option maxRecDepth 100000 in
set_option maxHeartbeats 2000000 in
theorem wlRead (v : Value) (l : Lg) (n : Int) (w : World) (h : IsLog w v l) (hp : l.pend.length ≤ 1000000) :
    Calls Tryz.prog 39 #[v, .int .i64 n] w fun e w' => e = .returned (.tuple #[.string (readWS l n), .int .i64 (readWE l n)]) ∧ Below w.heap.size w w' := by
  obtain ⟨a, c, a', c', a2, c2, rfl, ⟨h1, h2⟩, ⟨h3, h4⟩, ⟨h5, h6⟩, hS, hP, hD⟩ := id h.form
  have hal := (Below.refl w.heap.size w).alloc (Nat.le_refl _) (.cells #[.slice a l.secs.length c, .slice a' l.pend.length c', .int .i64 l.left, .int .i64 l.epoch, .int .i64 l.seq, .int .i64 l.used, .slice a2 l.dirty.length c2] 29)
  have b0 := heap_alloc_new w (.cells #[.slice a l.secs.length c, .slice a' l.pend.length c', .int .i64 l.left, .int .i64 l.epoch, .int .i64 l.seq, .int .i64 l.used, .slice a2 l.dirty.length c2] 29)
  have HL := Lib.hid (fun x (hx : Below w.heap.size w x) => h.below hx)
  have HR := Lib.hid (fun x (hx : Below w.heap.size w x) => wlRight _ l x (h.below hx))
  have HH := Lib.hid (fun x (hx : Below w.heap.size w x) => wlHome _ l n x (h.below hx))
  have HD := Lib.hid (fun x (hx : Below w.heap.size w x) => hD.below hx)
  have HDK := Lib.hid (fun x (hx : Below w.heap.size w x) => IsLog.disk (h.below hx))
  have hE : readWE l n = if rightL l = true then (if homeB l.secs.length n = true then 0 else 20) else 1 := rfl
  have hSS : readWS l n = if readWE l n = 0 then tellsW l n else ⟨#[]⟩ := rfl
  have hTW : tellsW l n = match l.dirty.find? (isAt n) with | some x => x.bytes | none => tells l.dsk n.toNat := rfl
  have hRF := fun hr => right_dirty (l := l) hr
  have HF := Lib.hid (fun x (hx : Below w.heap.size w x) hr hn => wlFindD (.slice a2 l.dirty.length c2) l n x (hD.below hx) hr hn)
  have HRD := Lib.hid (fun x (hx : Below w.heap.size w x) => diskRead_any _ l.dsk n x (IsLog.disk (h.below hx)) (show l.dsk.pend.length ≤ 1000000 from hp))
  have HBD := Lib.hid h.1
  have hDat : ∀ x, Below w.heap.size w x → ∀ k, k < l.dirty.length → ∃ b off, a2 = some ⟨b, off, none⟩ ∧ WrtAt x b (off + k * 2) (l.dirty.getD k wrtZ) := by
    obtain ⟨a9, n9, c9, hv, hl9, _, _, _, hat⟩ := id hD
    injection hv with t1 t2 t3
    subst t1 t2 t3
    intro x hx k hk
    obtain ⟨b, off, rfl, hb, hat⟩ := hat.resolve_left (by omega)
    exact ⟨b, off, rfl, (hat k hk).below hx hb⟩
  have HDAT := Lib.hid hDat
  have HRF := Lib.hid hRF
  have hdl : (l.dirty.length : Int) ≤ 9223372036854775807 := by omega
  clear hS hP hD h h1 h3 h5 hDat hRF
  generalize hrl : rightL l = r at *
  generalize hhb : homeB l.secs.length n = hb at *
  have HHB := Lib.hid hhb; have HRL := Lib.hid hrl
  have HE := Lib.hid hE; have HSS := Lib.hid hSS; have HTW := Lib.hid hTW
  clear hhb hrl hE hSS hTW
  obtain ⟨u, hU⟩ : ∃ u, w.alloc (.cells #[.slice a l.secs.length c, .slice a' l.pend.length c', .int .i64 l.left, .int .i64 l.epoch, .int .i64 l.seq, .int .i64 l.used, .slice a2 l.dirty.length c2] 29) = u := ⟨_, rfl⟩
  rw [hU] at hal b0
  have HU := Lib.hid hU; have HAL := Lib.hid hal; have HB0 := Lib.hid b0
  clear hU hal b0
  obtain ⟨secs, pend, left, epoch, seq, used, dirty⟩ := l
  simp only [Lg.dsk] at *
  generalize hNN : secs.length = N at *
  generalize pend.length = P at *
  generalize hDD : dirty.length = D at *
  have c0 := below_cell (Below.refl _ u) HB0.out 0 rfl
  have c1 := below_cell (Below.refl _ u) HB0.out 1 rfl
  have c2' := below_cell (Below.refl _ u) HB0.out 2 rfl
  have c3 := below_cell (Below.refl _ u) HB0.out 3 rfl
  have c4 := below_cell (Below.refl _ u) HB0.out 4 rfl
  have c5 := below_cell (Below.refl _ u) HB0.out 5 rfl
  have c6 := below_cell (Below.refl _ u) HB0.out 6 rfl
  have HR1 := Lib.hid (HR.out u HAL.out)
  go_enter Tryz.func39, Tryz.ntmps39
  go_upto_region 1 with fail
  rw [HU.out]
  go_upto_if 10 with (first | (go_at_call 24; refine HR1.out.mono ?_; rintro e u1 ⟨rfl, hb1⟩))
  have HA1 := Lib.hid (HAL.out.trans (hb1.mono HAL.out.size))
  have HB1 := Lib.hid ((hb1.block _ (lt_of_block HB0.out)).trans HB0.out)
  clear c0 c1 c2' c3 c4 c5 c6 hb1 HB0 HAL HR HR1
  cases r with
  | false =>
    have hx1 : readWE ⟨secs, pend, left, epoch, seq, used, dirty⟩ n = 1 := by rw [HE.out]; rfl
    have hx2 : readWS ⟨secs, pend, left, epoch, seq, used, dirty⟩ n = ⟨#[]⟩ := by rw [HSS.out, hx1]; rfl
    have X1 := Lib.hid hx1; have X2 := Lib.hid hx2
    clear hx1 hx2
    go_wp2_with fail
    go_ret2
    exact ⟨by rw [X1.out, X2.out]; rfl, HA1.out⟩
  | true =>
  have c0 := below_cell (Below.refl _ u1) HB1.out 0 rfl
  have c1 := below_cell (Below.refl _ u1) HB1.out 1 rfl
  have c2' := below_cell (Below.refl _ u1) HB1.out 2 rfl
  have c3 := below_cell (Below.refl _ u1) HB1.out 3 rfl
  have c4 := below_cell (Below.refl _ u1) HB1.out 4 rfl
  have c5 := below_cell (Below.refl _ u1) HB1.out 5 rfl
  have c6 := below_cell (Below.refl _ u1) HB1.out 6 rfl
  have HH1 := Lib.hid (HH.out u1 HA1.out)
  go_upto_if 14 with (first | (go_at_call 55; refine HH1.out.mono ?_; rintro e u2 ⟨rfl, hb2⟩))
  have HA2 := Lib.hid (HA1.out.trans (hb2.mono HA1.out.size))
  have HB2 := Lib.hid ((hb2.block _ (lt_of_block HB1.out)).trans HB1.out)
  clear c0 c1 c2' c3 c4 c5 c6 hb2 HB1 HA1 HH HH1
  cases hb with
  | false =>
    have hx1 : readWE ⟨secs, pend, left, epoch, seq, used, dirty⟩ n = 20 := by rw [HE.out]; rfl
    have hx2 : readWS ⟨secs, pend, left, epoch, seq, used, dirty⟩ n = ⟨#[]⟩ := by rw [HSS.out, hx1]; rfl
    have X1 := Lib.hid hx1; have X2 := Lib.hid hx2
    clear hx1 hx2
    go_wp2_with fail
    go_ret2
    exact ⟨by rw [X1.out, X2.out]; rfl, HA2.out⟩
  | true =>
  obtain ⟨hr1, hr2, hr3⟩ := HRF.out (by first | trivial | rfl)
  have hnb := home_bnd HHB.out hr2
  have HF2 := Lib.hid (HF.out u2 HA2.out (by first | trivial | rfl) (by omega))
  have hm := dirty_rises hr1
  have HM := Lib.hid hm
  have HX1 : Hid (readWE ⟨secs, pend, left, epoch, seq, used, dirty⟩ n = 0) := Lib.hid (by rw [HE.out]; rfl)
  have HX2 : Hid (readWS ⟨secs, pend, left, epoch, seq, used, dirty⟩ n = match dirty.find? (isAt n) with | some x => x.bytes | none => tells ⟨secs, pend⟩ n.toNat) := Lib.hid (by rw [HSS.out, HX1.out, if_pos rfl, HTW.out])
  have HD3 := Lib.hid hr3; have HNB := Lib.hid hnb
  clear hr1 hr2 hr3 hnb hm HRF HE HSS HTW HHB HF
  have c0 := below_cell (Below.refl _ u2) HB2.out 0 rfl
  have c1 := below_cell (Below.refl _ u2) HB2.out 1 rfl
  have c6 := below_cell (Below.refl _ u2) HB2.out 6 rfl
  go_upto_region 6 with (first | (go_at_call 61; refine HF2.out.mono ?_; rintro e u3 ⟨⟨k, hk, rfl⟩, hb3⟩))
  have HA3 := Lib.hid (HA2.out.trans (hb3.mono HA2.out.size))
  have HB3 := Lib.hid ((hb3.block _ (lt_of_block HB2.out)).trans HB2.out)
  clear c0 c1 c6 hb3 HB2 HA2 HF2
  have c0 := below_cell (Below.refl _ u3) HB3.out 0 rfl
  have c1 := below_cell (Below.refl _ u3) HB3.out 1 rfl
  have c6 := below_cell (Below.refl _ u3) HB3.out 6 rfl
  cases hf : foundB dirty n k with
  | true =>
    obtain ⟨hkl, hfd⟩ := found_yes hk hf
    rw [hDD] at hkl
    have hkI : (k : Int) < D := by omega
    obtain ⟨b, off, rfl, hw0, hw1⟩ := HDAT.out u3 HA3.out k hkl
    have HX3 := Lib.hid (HX2.out.trans (by rw [hfd]))
    generalize dirty.getD k wrtZ = X at *
    obtain ⟨xs, xb⟩ := X
    simp only at hw0 hw1
    clear hfd hf hk HX2
    go_wp2_with fail
    go_ret2
    exact ⟨by rw [HX1.out, HX3.out]; rfl, HA3.out⟩
  | false =>
    have hfd := found_no hk hf HM.out
    have HX3 := Lib.hid (HX2.out.trans (by rw [hfd]))
    have hre : readE ⟨secs, pend⟩ n = 0 := by unfold readE; rw [if_pos HD3.out, if_pos ⟨by have := HNB.out; omega, by have := HNB.out.2.1; show n < (secs.length : Int); rw [hNN]; exact this⟩]
    have hrs : readS ⟨secs, pend⟩ n = tells ⟨secs, pend⟩ n.toNat := by unfold readS; rw [hre, if_pos rfl]
    have HRD3 := Lib.hid (HRD.out u3 HA3.out)
    rw [hre, hrs] at HRD3
    generalize tells ⟨secs, pend⟩ n.toNat = TT at *
    clear hfd hf hk HX2 hre hrs HRD
    go_wp2_with (first | (go_at_call 71; refine HRD3.out.mono ?_; rintro e u4 ⟨rfl, hb4⟩))
    go_ret2
    exact ⟨by rw [HX1.out, HX3.out]; rfl, HA3.out.trans (hb4.mono HA3.out.size)⟩
end SWl4
end Go.Proofs.YthnmnnlbglpjaaaGreatDoor
