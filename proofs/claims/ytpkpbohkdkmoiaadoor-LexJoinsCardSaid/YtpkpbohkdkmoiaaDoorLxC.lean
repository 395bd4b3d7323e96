/- Two sources with an end of line between; blanks and remarks between two tokens; plain. -/
import Derived.Test.YtpkpbohkdkmoiaaDoorLxB
namespace Go.Proofs.YtpkpbohkdkmoiaaDoor
set_option linter.unusedVariables false

theorem fstl_le (l : List UInt8) (h : l ≠ []) : (fstl l).2 ≤ l.length := by
  have h0 : l.length ≠ 0 := fun e => h (List.length_eq_zero_iff.1 e)
  have h1 := runl_len l notLine
  have h2 := runl_len l wrdB
  have h3 := signl_le l
  unfold fstl
  repeat' split
  all_goals simp only
  all_goals omega
theorem mem_takeWhile (l : List UInt8) (p : UInt8 → Bool) {c : UInt8} (h : c ∈ l.takeWhile p) : p c = true := by
  induction l with
  | nil => simp at h
  | cons a l ih =>
    rw [List.takeWhile_cons] at h
    by_cases ha : p a = true
    · rw [if_pos ha] at h
      rcases List.mem_cons.1 h with rfl | h
      · exact ha
      · exact ih h
    · rw [if_neg ha] at h; simp at h
theorem fstl_line (l : List UInt8) : (fstl l).1 = 4 ↔ (l.headD 0).toNat = 10 := by
  constructor
  · intro h
    unfold fstl at h
    repeat' split at h
    all_goals first | assumption | (simp at h)
  · intro h
    unfold fstl
    rw [h]
    simp
theorem fstl_ten (t : List UInt8) : fstl (10 :: t) = (4, 1) := by unfold fstl; simp
theorem lexq_ten (t : List UInt8) (p : Nat) : lexq (10 :: t) p = (lexq t (p + 1)).pre [⟨4, ⟨#[10]⟩, p⟩] := by
  rw [lexq_step (by simp) (by rw [fstl_ten]; decide), fstl_ten]
  rfl
/-- two sources, with an end of line between -/
theorem lexq_join (v : List UInt8) (hv : (v.headD 0).toNat = 10) : ∀ n s p, List.length s ≤ n → lexq (s ++ v) p = match lexq s p with | .bad q => .bad q | .ok a => (lexq v (p + s.length)).pre a := by
  intro n
  induction n with
  | zero =>
    intro s p hn
    obtain rfl := List.length_eq_zero_iff.1 (by omega : s.length = 0)
    rw [lexq_nil]
    simp [Lx.pre_nil]
  | succ n ih =>
    intro s p hn
    by_cases hs : s = []
    · subst hs; rw [lexq_nil]; simp [Lx.pre_nil]
    have h0 : s.length ≠ 0 := fun e => hs (List.length_eq_zero_iff.1 e)
    have hf : fstl (s ++ v) = fstl s := fstl_appB s v hs (.inr ⟨by rw [hv]; rfl, by rw [hv]; decide⟩) (fun _ => .inr (.inr hv))
    have hle := fstl_le s hs
    have hne : s ++ v ≠ [] := by simp [hs]
    by_cases hz : (fstl s).2 = 0
    · rw [lexq_bad hs hz, lexq_bad hne (by rw [hf]; exact hz)]
    · rw [lexq_step hs hz, lexq_step hne (by rw [hf]; exact hz), hf, List.drop_append_of_le_length hle, List.take_append_of_le_length hle, ih _ _ (by simp; omega)]
      cases lexq (s.drop (fstl s).2) (p + (fstl s).2) with
      | bad q => rfl
      | ok a =>
        show _ = Lx.pre (_ ++ a) _
        rw [← Lx.pre_pre]
        simp only [List.length_drop]
        rw [show p + (fstl s).2 + (s.length - (fstl s).2) = p + s.length by omega]
/-- the way from a place on to where v stands, with the tokens on it -/
inductive Pth (v : List UInt8) : List UInt8 → Nat → List Tk → Prop where
  | here (p : Nat) : Pth v [] p []
  | step (u : List UInt8) (p : Nat) (a : List Tk) (hu : u ≠ []) (hz : (fstl (u ++ v)).2 ≠ 0) (hle : (fstl (u ++ v)).2 ≤ u.length) (h : Pth v (u.drop (fstl (u ++ v)).2) (p + (fstl (u ++ v)).2) a) :
      Pth v u p ((if (fstl (u ++ v)).1 = -1 then [] else [⟨(fstl (u ++ v)).1, ⟨(u.take (fstl (u ++ v)).2).toArray⟩, p⟩]) ++ a)
def placeOf (ts : List Tk) (e i : Nat) : Nat := ((ts[i]?).map (·.pos)).getD e
theorem path_of : ∀ n l p ts i, List.length l ≤ n → lexq l p = .ok ts → i ≤ ts.length →
    ∃ u v, l = u ++ v ∧ p + u.length = placeOf ts (p + l.length) i ∧ Pth v u p (ts.take i) ∧ lexq v (placeOf ts (p + l.length) i) = .ok (ts.drop i) ∧ (i < ts.length → v ≠ [] ∧ (fstl v).1 ≠ -1) ∧ (i = ts.length → v = []) := by
  intro n
  induction n with
  | zero =>
    intro l p ts i hn h hi
    obtain rfl := List.length_eq_zero_iff.1 (by omega : l.length = 0)
    rw [lexq_nil] at h
    injection h with h; subst h
    obtain rfl : i = 0 := by simpa using hi
    exact ⟨[], [], rfl, rfl, .here p, by rw [lexq_nil]; rfl, fun h => absurd h (by simp), fun _ => rfl⟩
  | succ n ih =>
    intro l p ts i hn h hi
    by_cases hl : l = []
    · subst hl
      rw [lexq_nil] at h
      injection h with h; subst h
      obtain rfl : i = 0 := by simpa using hi
      exact ⟨[], [], rfl, rfl, .here p, by rw [lexq_nil]; rfl, fun h => absurd h (by simp), fun _ => rfl⟩
    have h0 : l.length ≠ 0 := fun e => hl (List.length_eq_zero_iff.1 e)
    have hle := fstl_le l hl
    have hlex := h
    by_cases hz : (fstl l).2 = 0
    · rw [lexq_bad hl hz] at h; cases h
    rw [lexq_step hl hz] at h
    cases hr : lexq (l.drop (fstl l).2) (p + (fstl l).2) with
    | bad q => rw [hr] at h; cases h
    | ok r =>
      rw [hr] at h
      injection h with h
      have hlen : p + (fstl l).2 + (l.drop (fstl l).2).length = p + l.length := by simp; omega
      by_cases hk : (fstl l).1 = -1
      · rw [if_pos hk, List.nil_append] at h
        subst h
        obtain ⟨u, v, e1, e2, e3, e4, e5, e6⟩ := ih _ _ r i (by simp; omega) hr hi
        rw [hlen] at e2 e4
        have hluv : l = (l.take (fstl l).2 ++ u) ++ v := by rw [List.append_assoc, ← e1, List.take_append_drop]
        have hul : (l.take (fstl l).2 ++ u).length = (fstl l).2 + u.length := by simp; omega
        refine ⟨l.take (fstl l).2 ++ u, v, hluv, by rw [hul]; omega, ?_, e4, e5, e6⟩
        have hd : (l.take (fstl l).2 ++ u).drop (fstl l).2 = u := by
          rw [List.drop_append_of_le_length (by simp; omega), List.drop_eq_nil_of_le (by simp; omega), List.nil_append]
        have := Pth.step (v := v) (l.take (fstl l).2 ++ u) p (r.take i) (by intro e; have := congrArg List.length e; rw [hul] at this; simp at this; omega) (by rw [← hluv]; exact hz) (by rw [← hluv, hul]; omega) (by rw [← hluv, hd]; exact e3)
        rw [← hluv, if_pos hk, List.nil_append] at this
        exact this
      · rw [if_neg hk] at h
        cases i with
        | zero =>
          subst h
          exact ⟨[], l, rfl, rfl, .here p, hlex, fun _ => ⟨hl, hk⟩, fun e => by simp at e⟩
        | succ j =>
          subst h
          have hj : j ≤ r.length := by simpa using hi
          obtain ⟨u, v, e1, e2, e3, e4, e5, e6⟩ := ih _ _ r j (by simp; omega) hr hj
          rw [hlen] at e2 e4
          have hpl : ∀ t : Tk, placeOf (t :: r) (p + l.length) (j + 1) = placeOf r (p + l.length) j := fun t => rfl
          have hluv : l = (l.take (fstl l).2 ++ u) ++ v := by rw [List.append_assoc, ← e1, List.take_append_drop]
          have hul : (l.take (fstl l).2 ++ u).length = (fstl l).2 + u.length := by simp; omega
          refine ⟨l.take (fstl l).2 ++ u, v, hluv, by rw [hul]; show _ = placeOf r (p + l.length) j; omega, ?_, e4, fun hh => e5 (by simpa using hh), fun hh => e6 (by simpa using hh)⟩
          have hd : (l.take (fstl l).2 ++ u).drop (fstl l).2 = u := by
            rw [List.drop_append_of_le_length (by simp; omega), List.drop_eq_nil_of_le (by simp; omega), List.nil_append]
          have hta : (l.take (fstl l).2 ++ u).take (fstl l).2 = l.take (fstl l).2 := by
            rw [List.take_append_of_le_length (by simp; omega), List.take_of_length_le (by simp; omega)]
          have := Pth.step (v := v) (l.take (fstl l).2 ++ u) p (r.take j) (by intro e; have := congrArg List.length e; rw [hul] at this; simp at this; omega) (by rw [← hluv]; exact hz) (by rw [← hluv, hul]; omega) (by rw [← hluv, hd]; exact e3)
          rw [← hluv, if_neg hk, hta] at this
          exact this
/-- what may be put ahead of what v begins with -/
def Puts (w v : List UInt8) : Prop := (w = [32, 9] ∧ v ≠ [] ∧ (v.headD 0).toNat ≠ 10) ∨ (∃ r, w = 32 :: 35 :: r ∧ (∀ c ∈ r, notLine c.toNat = true) ∧ (v = [] ∨ (v.headD 0).toNat = 10))
theorem runl_all (u v : List UInt8) (p : Nat → Bool) (h : ∀ c ∈ u, p c.toNat = true) : runl (u ++ v) p = u.length + runl v p := by
  induction u with
  | nil => simp
  | cons a u ih =>
    have := ih (fun c hc => h c (by simp [hc]))
    unfold runl at *
    rw [List.cons_append, List.takeWhile_cons, if_pos (h a (by simp)), List.length_cons, List.length_cons, this]
    omega
theorem fstl_blank (l : List UInt8) : fstl (32 :: l) = (-1, 1) := by unfold fstl; simp
theorem fstl_tab (l : List UInt8) : fstl (9 :: l) = (-1, 1) := by unfold fstl; simp
theorem fstl_mark (l : List UInt8) : fstl (35 :: l) = (-1, runl (35 :: l) notLine) := by unfold fstl; simp
theorem puts_lex {w v : List UInt8} (h : Puts w v) (p : Nat) : lexq (w ++ v) p = lexq v (p + w.length) := by
  rcases h with ⟨rfl, _⟩ | ⟨r, rfl, hr, hv⟩
  · show lexq (32 :: 9 :: v) p = _
    rw [lexq_step (by simp) (by rw [fstl_blank]; decide), fstl_blank]
    show (lexq (9 :: v) (p + 1)).pre [] = _
    rw [Lx.pre_nil, lexq_step (by simp) (by rw [fstl_tab]; decide), fstl_tab]
    show (lexq v (p + 1 + 1)).pre [] = _
    rw [Lx.pre_nil]; rfl
  · have hrun : runl (35 :: (r ++ v)) notLine = 1 + r.length := by
      have := runl_all (35 :: r) v notLine (by
        intro c hc
        rcases List.mem_cons.1 hc with rfl | hc
        · rfl
        · exact hr c hc)
      rw [runl_zero v notLine (hv.imp id (fun e => by rw [e]; rfl))] at this
      rw [List.length_cons] at this
      rw [← List.cons_append, this]; omega
    show lexq (32 :: 35 :: (r ++ v)) p = _
    rw [lexq_step (by simp) (by rw [fstl_blank]; decide), fstl_blank]
    show (lexq (35 :: (r ++ v)) (p + 1)).pre [] = _
    rw [Lx.pre_nil, lexq_step (by simp) (by rw [fstl_mark, hrun]; simp), fstl_mark, hrun]
    rw [if_pos rfl, Lx.pre_nil]
    simp only [List.length_cons]
    rw [show (35 :: (r ++ v)).drop (1 + r.length) = v by rw [Nat.add_comm, List.drop_succ_cons, List.drop_left], show p + 1 + (1 + r.length) = p + (r.length + 1 + 1) by omega]
theorem puts_path {w v : List UInt8} (h : Puts w v) {u : List UInt8} {p : Nat} {a : List Tk} (hp : Pth v u p a) : lexq (u ++ (w ++ v)) p = (lexq v (p + u.length + w.length)).pre a := by
  induction hp with
  | here p => rw [List.nil_append, puts_lex h, Lx.pre_nil]; rfl
  | step u p a hu hz hle hp ih =>
    have hfA := fstl_appA u v hu hz hle
    rw [hfA] at hz hle hp ih ⊢
    have hwv : ∃ t, w ++ v = 32 :: t := by
      rcases h with ⟨rfl, _⟩ | ⟨r, rfl, _⟩
      · exact ⟨_, rfl⟩
      · exact ⟨_, rfl⟩
    obtain ⟨t, ht⟩ := hwv
    have hhd : ((w ++ v).headD 0).toNat = 32 := by rw [ht]; rfl
    have hne : u ++ (w ++ v) ≠ [] := by simp [hu]
    by_cases hr : (u.headD 0).toNat = 35 ∧ ¬ runl u notLine < u.length
    case neg =>
      have hfB : fstl (u ++ (w ++ v)) = fstl u := fstl_appB u (w ++ v) hu (.inr ⟨by rw [hhd]; rfl, by rw [hhd]; decide⟩) (fun e => .inl (Nat.lt_of_not_le fun hh => hr ⟨e, by omega⟩))
      rw [lexq_step hne (by rw [hfB]; exact hz), hfB, List.drop_append_of_le_length hle, List.take_append_of_le_length hle, ih, ← Lx.pre_pre]
      simp only [List.length_drop]
      rw [show p + (fstl u).2 + (u.length - (fstl u).2) + w.length = p + u.length + w.length by omega]
    case pos =>
      obtain ⟨h1, h2⟩ := hr
      have hrl := runl_len u notLine
      have hru : runl u notLine = u.length := by omega
      have hfu : fstl u = (-1, u.length) := by
        unfold fstl
        rw [h1, hru]
        simp
      have ha : a = [] := by
        rw [hfu] at hp
        simp only [List.drop_length] at hp
        cases hp with
        | here => rfl
        | step _ _ _ hu' => exact absurd rfl hu'
      subst ha
      have hall : ∀ c ∈ u, notLine c.toNat = true := by
        have : u.takeWhile (fun c => notLine c.toNat) = u := by
          have hpre := List.takeWhile_prefix (fun c : UInt8 => notLine c.toNat) (l := u)
          exact hpre.eq_of_length hru
        intro c hc
        rw [← this] at hc
        exact mem_takeWhile _ _ hc
      rcases h with ⟨rfl, hv1, hv2⟩ | ⟨r, rfl, hr', hv⟩
      · exfalso
        have hh : ((u ++ v).headD 0).toNat = 35 := by
          cases u with
          | nil => exact absurd rfl hu
          | cons b u => exact h1
        have e : fstl (u ++ v) = (-1, runl (u ++ v) notLine) := by
          unfold fstl
          rw [hh]; simp
        have := congrArg Prod.snd (e.symm.trans hfA)
        rw [hfu] at this
        simp only at this
        rw [runl_all u v notLine hall] at this
        have hv3 : 0 < runl v notLine := by
          cases v with
          | nil => exact absurd rfl hv1
          | cons b v =>
            unfold runl
            rw [List.takeWhile_cons, if_pos (by simpa [notLine] using hv2)]
            simp
        omega
      · have hh : ((u ++ (32 :: 35 :: r ++ v)).headD 0).toNat = 35 := by
          cases u with
          | nil => exact absurd rfl hu
          | cons b u => exact h1
        have hrun : runl (u ++ (32 :: 35 :: r ++ v)) notLine = u.length + (32 :: 35 :: r).length := by
          rw [← List.append_assoc, runl_all (u ++ 32 :: 35 :: r) v notLine, runl_zero v notLine (hv.imp id (fun e => by rw [e]; rfl))]
          · simp
          · intro c hc
            rcases List.mem_append.1 hc with hc | hc
            · exact hall c hc
            · rcases List.mem_cons.1 hc with rfl | hc
              · rfl
              · rcases List.mem_cons.1 hc with rfl | hc
                · rfl
                · exact hr' c hc
        have e : fstl (u ++ (32 :: 35 :: r ++ v)) = (-1, u.length + (32 :: 35 :: r).length) := by
          unfold fstl
          rw [hh, hrun]; simp
        rw [lexq_step hne (by rw [e]; simp), e, hfu]
        simp only [if_true, Lx.pre_nil, List.nil_append]
        rw [← List.append_assoc, List.drop_left' (by simp)]
        rw [Nat.add_assoc]
/-- blanks and remarks between two tokens -/
theorem lex_blanks {l : List UInt8} {ts : List Tk} {i : Nat} (h : lexq l 0 = .ok ts) (hi : i ≤ ts.length) (w : List UInt8)
    (hw : (w = [32, 9] ∧ i < ts.length ∧ (ts[i]?.map (·.kind)) ≠ some 4) ∨ (∃ r, w = 32 :: 35 :: r ∧ (∀ c ∈ r, notLine c.toNat = true) ∧ (i = ts.length ∨ ts[i]?.map (·.kind) = some 4))) :
    placeOf ts l.length i ≤ l.length ∧ ∃ ts', lexq (l.take (placeOf ts l.length i) ++ (w ++ l.drop (placeOf ts l.length i))) 0 = .ok ts' ∧ ts'.map (fun t => (t.kind, t.text)) = ts.map (fun t => (t.kind, t.text)) := by
  obtain ⟨u, v, e1, e2, e3, e4, e5, e6⟩ := path_of _ l 0 ts i (Nat.le_refl _) h hi
  rw [Nat.zero_add, Nat.zero_add] at e2
  rw [Nat.zero_add] at e4
  rw [← e2] at e4 ⊢
  have hfirst : i < ts.length → ∃ t, ts[i]? = some t ∧ t.kind = (fstl v).1 := by
    intro hlt
    obtain ⟨hv, hk⟩ := e5 hlt
    by_cases hz : (fstl v).2 = 0
    · rw [lexq_bad hv hz] at e4; cases e4
    rw [lexq_step hv hz, if_neg hk] at e4
    cases hr : lexq (v.drop (fstl v).2) (u.length + (fstl v).2) with
    | bad q => rw [hr] at e4; cases e4
    | ok r =>
      rw [hr] at e4
      injection e4 with e4
      have := congrArg (fun l : List Tk => l[0]?) e4
      simp only [List.getElem?_drop, Nat.add_zero] at this
      exact ⟨_, this.symm, rfl⟩
  have hP : Puts w v := by
    rcases hw with ⟨rfl, hlt, hk⟩ | ⟨r, rfl, hr, hk⟩
    · refine .inl ⟨rfl, (e5 hlt).1, fun e => hk ?_⟩
      obtain ⟨t, ht, hkt⟩ := hfirst hlt
      rw [ht, Option.map_some, hkt, (fstl_line v).2 e]
    · refine .inr ⟨r, rfl, hr, ?_⟩
      rcases hk with hk | hk
      · exact .inl (e6 hk)
      · by_cases hlt : i < ts.length
        · obtain ⟨t, ht, hkt⟩ := hfirst hlt
          rw [ht, Option.map_some] at hk
          injection hk with hk
          exact .inr ((fstl_line v).1 (by rw [← hkt, hk]))
        · exact .inl (e6 (by omega))
  have hul : u.length ≤ l.length := by rw [e1]; simp
  refine ⟨hul, ?_⟩
  have ht : l.take u.length = u := by rw [e1, List.take_left]
  have hd : l.drop u.length = v := by rw [e1, List.drop_left]
  rw [ht, hd, puts_path hP e3, lexq_shift]
  rw [lexq_shift] at e4
  cases hr : lexq v 0 with
  | bad q => rw [hr] at e4; cases e4
  | ok r =>
    rw [hr] at e4
    injection e4 with e4
    refine ⟨_, rfl, ?_⟩
    conv => rhs; rw [← List.take_append_drop i ts, ← e4]
    simp [Tk.at, Function.comp_def]
end Go.Proofs.YtpkpbohkdkmoiaaDoor
