/- wal.home, wal.fits, wal.find. -/
import Derived.Test.YtimiooiaohfelaaDoorWlP
import Derived.Test.YtimiooiaohfelaaDoorDiskR
import Derived.Deep.RegionWith
namespace Go.Proofs.YtimiooiaohfelaaDoor
open Go.RowKit
set_option linter.unusedVariables false

set_option maxRecDepth 100000 in
theorem wlHome (v : Value) (l : Lg) (n : Int) (w : World) (h : IsLog w v l) :
    Calls Tryd.prog 18 #[v, .int .i64 n] w fun e w' => e = .returned (.bool (homeB l.secs.length n)) ∧ Below w.heap.size w w' := by
  obtain ⟨a, c, a', c', a2, c2, rfl, ⟨h1, h2⟩, ⟨h3, h4⟩, ⟨h5, h6⟩, _⟩ := h.form
  clear h
  obtain ⟨secs, pend, left, epoch, seq, used, dirty⟩ := l
  simp only at h1 h2 h3 h4 h5 h6 ⊢
  generalize secs.length = N at *
  generalize pend.length = P at *
  generalize dirty.length = D at *
  have hb := (Below.refl w.heap.size w).alloc (Nat.le_refl _) (.cells #[.slice a N c, .slice a' P c', .int .i64 left, .int .i64 epoch, .int .i64 seq, .int .i64 used, .slice a2 D c2] 29)
  unfold homeB
  by_cases h0 : 53 ≤ n
  · by_cases hx : n < N
    · rw [decide_eq_true ⟨h0, hx⟩]
      go_enter Tryd.func18, Tryd.ntmps18
      go_wp2_with fail
      go_ret
      exact ⟨rfl, hb⟩
    · rw [decide_eq_false (fun h => hx h.2)]
      go_enter Tryd.func18, Tryd.ntmps18
      go_wp2_with fail
      go_ret
      exact ⟨rfl, hb⟩
  · rw [decide_eq_false (fun h => h0 h.1)]
    go_enter Tryd.func18, Tryd.ntmps18
    go_wp2_with fail
    go_ret
    exact ⟨rfl, hb⟩
def fitW (s : ByteArray) : Bool := decide ((trimS s).size ≤ 512)
set_option maxRecDepth 100000 in
theorem wlFits (s : ByteArray) (w : World) (hs : s.size ≤ 9223372036854775807) :
    Calls Tryd.prog 19 #[.string s] w fun e w' => e = .returned (.bool (fitW s)) ∧ w = w' := by
  have H := Lib.hid (fun u => leTrim_any s u hs)
  unfold fitW
  by_cases h5 : (trimS s).size ≤ 512
  · have h5I : ((trimS s).size : Int) ≤ 512 := by omega
    rw [decide_eq_true h5]
    generalize trimS s = T at *
    go_enter Tryd.func19, Tryd.ntmps19
    go_wp2_with (first | (go_at_call 20; refine (H.out _).mono ?_; rintro e w' ⟨rfl, rfl⟩))
    go_ret
    exact ⟨rfl, rfl⟩
  · have h5I : decide (((trimS s).size : Int) ≤ 512) = false := decide_eq_false (by omega)
    rw [decide_eq_false h5]
    generalize trimS s = T at *
    go_enter Tryd.func19, Tryd.ntmps19
    go_wp2_with (first | (go_at_call 20; refine (H.out _).mono ?_; rintro e w' ⟨rfl, rfl⟩))
    go_ret
    exact ⟨rfl, rfl⟩
set_option maxRecDepth 100000 in
theorem wlFindC (a n : Int) (s : ByteArray) (w : World) (ha : -1000000 ≤ a ∧ a ≤ 1000000) (hn : -1000000 ≤ n ∧ n ≤ 1000000) :
    Calls Tryd.prog 59 #[.agg #[.int .i64 a, .string s], .int .i64 n] w fun e w' => e = .returned (.int .i64 (a - n)) ∧ Below w.heap.size w w' := by
  have hw : wrap64 (a - n) = a - n := IntWalk.wrap64_in _ ⟨by omega, by omega⟩
  have hb := (Below.refl w.heap.size w).alloc (Nat.le_refl _) (.cells #[.int .i64 a, .string s] 49)
  go_enter Tryd.func59, Tryd.ntmps59
  go_wp2_with fail
  go_ret
  exact ⟨rfl, hb⟩
/-- where a place stands among rising ones -/
def FindAt (l : List Wrt) (n : Int) (k : Nat) : Prop := k ≤ l.length ∧ (∀ j, j < k → (l.getD j wrtZ).sector < n) ∧ (∀ j, k ≤ j → j < l.length → n ≤ (l.getD j wrtZ).sector)
def foundB (l : List Wrt) (n : Int) (k : Nat) : Bool := decide (k < l.length ∧ (l.getD k wrtZ).sector = n)
theorem half_in (I J : Nat) (h : I < J) (hJ : J ≤ 100000) : I ≤ (I + J) / 2 ∧ (I + J) / 2 < J := by omega
set_option maxRecDepth 100000 in
set_option maxHeartbeats 1000000 in
theorem wlSearch (v : Value) (l : List Wrt) (n : Int) (w : World) (h : IsWrts w v l) (hl : l.length ≤ 100000) (hn : -1000000 ≤ n ∧ n ≤ 1000000) (hb : ∀ j, j < l.length → -1000000 ≤ (l.getD j wrtZ).sector ∧ (l.getD j wrtZ).sector ≤ 1000000)
    (hm : ∀ i j, i < j → j < l.length → (l.getD i wrtZ).sector < (l.getD j wrtZ).sector) :
    Calls Tryd.prog 58 #[v, .int .i64 n, .func (.func 59) #[] #[]] w fun e w' => (∃ k : Nat, FindAt l n k ∧ e = .returned (.tuple #[.int .i64 k, .bool (foundB l n k)])) ∧ Below w.heap.size w w' := by
  obtain ⟨a, len, cap, rfl, hlen, hc1, hc2, hbd, hat⟩ := h
  subst hlen
  obtain ⟨m, hmm⟩ : ∃ m, l.length = m := ⟨_, rfl⟩
  have HF : Hid (∀ k, (k ≤ m ∧ (∀ j, j < k → (l.getD j wrtZ).sector < n) ∧ (∀ j, k ≤ j → j < m → n ≤ (l.getD j wrtZ).sector)) → FindAt l n k ∧ foundB l n k = decide (k < m ∧ (l.getD k wrtZ).sector = n)) := Lib.hid (fun k hk => by unfold FindAt foundB; rw [hmm]; exact ⟨hk, rfl⟩)
  rw [hmm] at hl hb hm hc1 hat ⊢
  have hmI : (m : Int) ≤ 100000 := by omega
  have HAT := Lib.hid hat; have HBB := Lib.hid hb; have HM := Lib.hid hm; have HN := Lib.hid hn
  clear hat hb hm hbd hmm hl hn
  go_enter Tryd.func58, Tryd.ntmps58
  go_wp2_with fail
  go_loopw [9, 10] (fun x y wr => ∃ I J : Nat, I ≤ J ∧ J ≤ m ∧ x = .int .i64 I ∧ y = .int .i64 J ∧ Hid ((∀ j, j < I → (l.getD j wrtZ).sector < n) ∧ (∀ j, J ≤ j → j < m → n ≤ (l.getD j wrtZ).sector) ∧ Below w.heap.size w wr)) (fun x y _ => (intOf y).toNat - (intOf x).toNat)
  case atStart => exact ⟨0, m, by omega, Nat.le_refl _, rfl, rfl, Lib.hid ⟨fun j hj => by omega, fun j h1 h2 => by omega, Below.refl _ _⟩⟩
  case round =>
    obtain ⟨I, J, hIJ, hJm, rfl, rfl, HR⟩ := hrel
    by_cases hlt : I < J
    · have hltI : (I : Int) < J := by omega
      obtain ⟨H, hH⟩ : ∃ H, (I + J) / 2 = H := ⟨_, rfl⟩
      have hH1 : I ≤ H ∧ H < J := by omega
      have hHI : ((I : Int) + J) / 2 = (H : Int) := by omega
      have hHm : (H : Int) < m := by omega
      obtain ⟨b, off, rfl, hbl, hat⟩ := HAT.out.resolve_left (by omega)
      obtain ⟨hw0, hw1⟩ := (hat H (by omega)).below HR.out.2.2 hbl
      have hB := HBB.out H (by omega)
      have hsec : ∀ t, t < H → (l.getD t wrtZ).sector < (l.getD H wrtZ).sector := fun t ht => HM.out t H ht (by omega)
      have hsec2 : ∀ t, H < t → t < m → (l.getD H wrtZ).sector < (l.getD t wrtZ).sector := fun t h1 h2 => HM.out H t h1 h2
      have HS1 := Lib.hid hsec; have HS2 := Lib.hid hsec2
      clear hat hsec hsec2
      obtain ⟨X, hX⟩ : ∃ X, l.getD H wrtZ = X := ⟨_, rfl⟩
      rw [hX] at hw0 hw1 hB HS1 HS2
      obtain ⟨xs, xb⟩ := X
      have HX : Hid ((l.getD H wrtZ).sector = xs) := Lib.hid (by rw [hX])
      clear hX
      simp only at hw0 hw1 hB HS1 HS2
      have HC := Lib.hid (fun u => wlFindC xs n xb u hB HN.out)
      clear hB hH
      by_cases hx : xs < n
      · have hneg : xs - n < 0 := by omega
        go_wp2_with (first | (go_at_call 59; refine (HC.out _).mono ?_; rintro e w2 ⟨rfl, hb2⟩))
        go_roundw
        case rel => exact ⟨H + 1, J, by omega, hJm, by go_num, rfl, Lib.hid ⟨fun j hj => by
            by_cases h : j = H
            · subst h; rw [HX.out]; exact hx
            · exact Int.lt_trans (HS1.out j (by omega)) hx, HR.out.2.1, HR.out.2.2.trans (hb2.mono HR.out.2.2.size)⟩⟩
        case measure => simp [intOf]; omega
      · have hneg : ¬ xs - n < 0 := by omega
        go_wp2_with (first | (go_at_call 59; refine (HC.out _).mono ?_; rintro e w2 ⟨rfl, hb2⟩))
        go_roundw
        case rel => exact ⟨I, H, hH1.1, by omega, rfl, rfl, Lib.hid ⟨HR.out.1, fun j h1 h2 => by
            by_cases h : j = H
            · subst h; rw [HX.out]; omega
            · exact Int.le_trans (by omega) (Int.le_of_lt (HS2.out j (by omega) h2)), HR.out.2.2.trans (hb2.mono HR.out.2.2.size)⟩⟩
        case measure => simp [intOf]; omega
    · obtain rfl : I = J := by omega
      have hnl : ¬ (I : Int) < I := by omega
      obtain ⟨h1, h2⟩ := HF.out I ⟨hJm, HR.out.1, HR.out.2.1⟩
      by_cases hIm : I < m
      · have hImI : (I : Int) < m := by omega
        obtain ⟨b, off, rfl, hbl, hat⟩ := HAT.out.resolve_left (by omega)
        obtain ⟨hw0, hw1⟩ := (hat I hIm).below HR.out.2.2 hbl
        have hB := HBB.out I hIm
        have H1 := Lib.hid h1
        have hd : foundB l n I = decide ((l.getD I wrtZ).sector = n) := by rw [h2]; simp [hIm]
        have HD := Lib.hid hd
        clear hat h1 h2 hd
        generalize l.getD I wrtZ = X at *
        obtain ⟨xs, xb⟩ := X
        simp only at hw0 hw1 hB HD
        have HC := Lib.hid (fun u => wlFindC xs n xb u hB HN.out)
        clear hB
        by_cases hx : xs = n
        · have hd2 : decide (xs = n) = true := decide_eq_true hx
          rw [hd2] at HD
          rw [show xs - n = 0 by omega] at HC
          clear hx hd2
          go_wp2_with (first | (go_at_call 59; refine (HC.out _).mono ?_; rintro e w2 ⟨rfl, hb2⟩))
          go_ret2
          exact ⟨⟨I, H1.out, by rw [HD.out]; rfl⟩, HR.out.2.2.trans (hb2.mono HR.out.2.2.size)⟩
        · have hz : ¬ xs - n = 0 := by omega
          have hz2 : (xs - n == 0) = false := beq_false_of_ne hz
          go_wp2_with (first | (go_at_call 59; refine (HC.out _).mono ?_; rintro e w2 ⟨rfl, hb2⟩))
          go_ret2
          exact ⟨⟨I, H1.out, by rw [HD.out, decide_eq_false hx]; rfl⟩, HR.out.2.2.trans (hb2.mono HR.out.2.2.size)⟩
      · have hImI : ¬ (I : Int) < m := by omega
        have H1 := Lib.hid h1
        have HD := Lib.hid (h2.trans (decide_eq_false (fun h => hIm h.1)))
        clear h1 h2
        go_wp2_with fail
        go_ret2
        exact ⟨⟨I, H1.out, by rw [HD.out]; rfl⟩, HR.out.2.2⟩
end Go.Proofs.YtimiooiaohfelaaDoor
