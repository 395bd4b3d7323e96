/- Lists of names: plain. -/
import Derived.Test.YtfpfcjgdihlieaaBytes
namespace Go.Proofs.Ytfpfcjgdihlieaa
set_option linter.unusedVariables false

/-- a version -/
structure Vr where
  no : Int
  src : Int
  flt : Int
  byt : Int
  ins : Int
deriving DecidableEq
/-- a name with its versions -/
structure En where
  name : ByteArray
  cur : Int
  nxt : Int
  vers : List Vr
deriving DecidableEq
def vrZ : Vr := ⟨0, 0, 0, 0, 0⟩
def enZ : En := ⟨ByteArray.empty, 0, 0, []⟩
def secOk (n : Int) : Bool := decide (54 ≤ n ∧ n ≤ 255)
def verOk (v : Vr) : Bool := decide (1 ≤ v.no ∧ v.no ≤ 65534 ∧ secOk v.src = true ∧ secOk v.flt = true ∧ v.src ≠ v.flt ∧ 0 ≤ v.byt ∧ v.byt ≤ 2000 ∧ 1 ≤ v.ins ∧ v.ins ≤ 4096)
/-- versions from the last number on, and whether one of them counts -/
def verLoop (cur nxt : Int) : Int → Bool → List Vr → Bool
  | last, c, [] => c && decide (last < nxt ∧ nxt ≤ 65535)
  | last, c, v :: l => verOk v && decide (last < v.no) && verLoop cur nxt v.no (c || decide (v.no = cur)) l
def entOk (e : En) : Bool := decide (1 ≤ e.name.size ∧ e.name.size ≤ 12 ∧ 1 ≤ e.vers.length ∧ e.vers.length ≤ 6) && verLoop e.cur e.nxt 0 false e.vers
def ltB (a b : ByteArray) : Bool := Op.bytesLess a.toList b.toList
def headOk? : Option ByteArray → ByteArray → Bool
  | none, _ => true
  | some n, m => ltB n m
/-- names from the last one on -/
def okE : Option ByteArray → List En → Bool
  | _, [] => true
  | p, e :: l => entOk e && headOk? p e.name && okE (some e.name) l
def rightE (l : List En) : Bool := decide (l.length ≤ 8) && okE none l
/-- the reference's -/
def verLoopR (cur nxt : Int) : Option Int → Bool → List Vr → Bool
  | _, c, [] => c
  | p, c, v :: l => verOk v && decide (v.no < nxt) && (match p with | none => true | some n => decide (n < v.no)) && verLoopR cur nxt (some v.no) (c || decide (v.no = cur)) l
theorem verLoopR_some (cur nxt : Int) (hn : nxt ≤ 65535) : ∀ (l : List Vr) (p : Int) (c : Bool), p < nxt → verLoopR cur nxt (some p) c l = verLoop cur nxt p c l
  | [], p, c, h => by simp [verLoopR, verLoop, h, hn]
  | v :: l, p, c, h => by
    rw [verLoopR, verLoop]
    by_cases h1 : v.no < nxt
    · rw [verLoopR_some cur nxt hn l v.no _ h1]
      simp [h1]
    · have : ∀ (l : List Vr) (q : Int) c', nxt ≤ q → verLoop cur nxt q c' l = false := by
        intro l
        induction l with
        | nil => intro q c' hq; simp [verLoop]; intro _ h2; omega
        | cons a l ih =>
          intro q c' hq
          rw [verLoop]
          by_cases h3 : q < a.no
          · rw [ih a.no _ (by omega)]; simp
          · simp [h3]
      rw [this l v.no _ (by omega)]
      simp [h1]
theorem verLoopR_eq (cur nxt : Int) (hn : nxt ≤ 65535) (l : List Vr) (h : l ≠ []) : verLoopR cur nxt none false l = verLoop cur nxt 0 false l := by
  cases l with
  | nil => exact absurd rfl h
  | cons v l =>
    rw [verLoopR, verLoop]
    by_cases h1 : v.no < nxt
    · rw [verLoopR_some cur nxt hn l v.no _ h1]
      by_cases h2 : verOk v = true
      · have h3 : 0 < v.no := by unfold verOk at h2; simp only [decide_eq_true_eq] at h2; omega
        simp [h1, h3]
      · simp [h2]
    · rw [decide_eq_false h1]
      have := verLoopR_some cur nxt hn (v :: l) 0 false
      by_cases h2 : verOk v = true
      · have h3 : 0 < v.no := by unfold verOk at h2; simp only [decide_eq_true_eq] at h2; omega
        by_cases h4 : 0 < nxt
        · rw [verLoopR, verLoop] at this
          rw [← this h4, decide_eq_false h1]; simp
        · have : ∀ (l : List Vr) (q : Int) c', nxt ≤ q → verLoop cur nxt q c' l = false := by
            intro l
            induction l with
            | nil => intro q c' hq; simp [verLoop]; intro _ h2; omega
            | cons a l ih =>
              intro q c' hq
              rw [verLoop]
              by_cases h3 : q < a.no
              · rw [ih a.no _ (by omega)]; simp
              · simp [h3]
          rw [this l v.no _ (by omega)]; simp
      · simp [h2]
theorem verLoop_long (cur nxt : Int) (hn : ¬ nxt ≤ 65535) : ∀ (l : List Vr) (p : Int) (c : Bool), verLoop cur nxt p c l = false
  | [], p, c => by simp [verLoop, hn]
  | v :: l, p, c => by rw [verLoop, verLoop_long cur nxt hn l]; simp
/-- an entry, the reference's way -/
def entOkR (e : En) : Bool := decide (1 ≤ e.name.size ∧ e.name.size ≤ 12 ∧ 1 ≤ e.vers.length ∧ e.vers.length ≤ 6 ∧ e.nxt ≤ 65535) && verLoopR e.cur e.nxt none false e.vers
theorem entOkR_eq (e : En) : entOkR e = entOk e := by
  unfold entOkR entOk
  by_cases h : e.nxt ≤ 65535
  · by_cases h2 : e.vers = []
    · simp [h2]
    · rw [verLoopR_eq _ _ h _ h2]; simp [h]
  · rw [verLoop_long _ _ h]; simp [h]
/-! the order of texts -/
theorem bl_irrefl : ∀ (a : List UInt8), Op.bytesLess a a = false
  | [] => rfl
  | a :: l => by simp [Op.bytesLess, bl_irrefl l]
theorem bl_trans : ∀ (a b c : List UInt8), Op.bytesLess a b = true → Op.bytesLess b c = true → Op.bytesLess a c = true
  | [], [], _, h, _ => by simp [Op.bytesLess] at h
  | [], _ :: _, [], _, h => by simp [Op.bytesLess] at h
  | [], _ :: _, _ :: _, _, _ => rfl
  | _ :: _, [], _, h, _ => by simp [Op.bytesLess] at h
  | _ :: _, _ :: _, [], _, h => by simp [Op.bytesLess] at h
  | a :: x, b :: y, c :: z, h1, h2 => by
    simp only [Op.bytesLess, Bool.or_eq_true, Bool.and_eq_true, decide_eq_true_eq, beq_iff_eq] at h1 h2 ⊢
    rcases h1 with h1 | ⟨rfl, h1⟩
    · rcases h2 with h2 | ⟨rfl, h2⟩
      · exact .inl (UInt8.lt_trans h1 h2)
      · exact .inl h1
    · rcases h2 with h2 | ⟨rfl, h2⟩
      · exact .inl h2
      · exact .inr ⟨rfl, bl_trans x y z h1 h2⟩
theorem bl_total : ∀ (a b : List UInt8), Op.bytesLess a b = false → Op.bytesLess b a = false → a = b
  | [], [], _, _ => rfl
  | [], _ :: _, h, _ => by simp [Op.bytesLess] at h
  | _ :: _, [], _, h => by simp [Op.bytesLess] at h
  | a :: x, b :: y, h1, h2 => by
    simp only [Op.bytesLess, Bool.or_eq_false_iff, Bool.and_eq_false_iff, decide_eq_false_iff_not, beq_eq_false_iff_ne] at h1 h2
    have hab : a = b := UInt8.le_antisymm (UInt8.not_lt.1 h2.1) (UInt8.not_lt.1 h1.1)
    subst hab
    rw [bl_total x y (h1.2.resolve_left (by simp)) (h2.2.resolve_left (by simp))]
theorem ltB_irrefl (a : ByteArray) : ltB a a = false := bl_irrefl _
theorem ltB_trans {a b c : ByteArray} (h1 : ltB a b = true) (h2 : ltB b c = true) : ltB a c = true := bl_trans _ _ _ h1 h2
theorem ltB_asymm {a b : ByteArray} (h : ltB a b = true) : ltB b a = false := by
  cases hb : ltB b a with
  | false => rfl
  | true => have := ltB_trans h hb; rw [ltB_irrefl] at this; cases this
theorem ltB_total {a b : ByteArray} (h1 : ltB a b = false) (h2 : ltB b a = false) : a = b := by
  have := bl_total _ _ h1 h2
  rw [ByteArray.toList_eq, ByteArray.toList_eq] at this
  exact ba_ext this
theorem ltB_ne {a b : ByteArray} (h : ltB a b = true) : a ≠ b := by
  rintro rfl; rw [ltB_irrefl] at h; cases h
/-! what comes of a list that may be -/
theorem okE_drop : ∀ (l : List En) (p : Option ByteArray) (i : Nat), okE p l = true → ∃ q, okE q (l.drop i) = true
  | l, p, 0, h => ⟨p, h⟩
  | [], p, i + 1, h => ⟨p, h⟩
  | e :: l, p, i + 1, h => by
    rw [okE, Bool.and_eq_true] at h
    exact okE_drop l _ i h.2
theorem okE_take : ∀ (l : List En) (p : Option ByteArray) (i : Nat), okE p l = true → okE p (l.take i) = true
  | l, p, 0, h => rfl
  | [], p, i + 1, h => h
  | e :: l, p, i + 1, h => by
    rw [List.take_succ_cons, okE, Bool.and_eq_true]
    rw [okE, Bool.and_eq_true] at h
    exact ⟨h.1, okE_take l _ i h.2⟩
theorem okE_none : ∀ (l : List En) (p : Option ByteArray), okE p l = true → okE none l = true
  | [], p, h => rfl
  | e :: l, p, h => by
    rw [okE, Bool.and_eq_true, Bool.and_eq_true] at h ⊢
    exact ⟨⟨h.1.1, rfl⟩, h.2⟩
theorem rightE_part (l : List En) (a n : Nat) (h : rightE l = true) : rightE ((l.drop a).take n) = true := by
  unfold rightE at h ⊢
  rw [Bool.and_eq_true, decide_eq_true_eq] at h ⊢
  obtain ⟨q, hq⟩ := okE_drop l none a h.2
  exact ⟨by rw [List.length_take, List.length_drop]; omega, okE_none _ _ (okE_take _ _ n hq)⟩
/-- names rise -/
def risesN : Option ByteArray → List En → Bool
  | _, [] => true
  | p, e :: l => headOk? p e.name && risesN (some e.name) l
theorem okE_rises : ∀ (l : List En) (p : Option ByteArray), okE p l = true → risesN p l = true
  | [], _, _ => rfl
  | e :: l, p, h => by
    rw [okE, Bool.and_eq_true, Bool.and_eq_true] at h
    rw [risesN, Bool.and_eq_true]
    exact ⟨h.1.2, okE_rises l _ h.2⟩
theorem okE_mem : ∀ (l : List En) (p : Option ByteArray), okE p l = true → ∀ e ∈ l, entOk e = true
  | [], _, _, _, hm => by cases hm
  | a :: l, p, h, e, hm => by
    rw [okE, Bool.and_eq_true, Bool.and_eq_true] at h
    rcases List.mem_cons.1 hm with rfl | hm
    · exact h.1.1
    · exact okE_mem l _ h.2 e hm
theorem rises_all : ∀ (l : List En) (n : ByteArray), risesN (some n) l = true → ∀ e ∈ l, ltB n e.name = true
  | [], _, _, _, hm => by cases hm
  | a :: l, n, h, e, hm => by
    rw [risesN, Bool.and_eq_true] at h
    rcases List.mem_cons.1 hm with rfl | hm
    · exact h.1
    · exact ltB_trans h.1 (rises_all l _ h.2 e hm)
theorem rises_lt : ∀ (l : List En) (p : Option ByteArray), risesN p l = true → ∀ i j, i < j → j < l.length → ltB (l.getD i enZ).name (l.getD j enZ).name = true
  | [], _, _, i, j, _, hj => by simp at hj
  | e :: l, p, h, i, j, hij, hj => by
    rw [risesN, Bool.and_eq_true] at h
    cases j with
    | zero => omega
    | succ j =>
      have hj' : j < l.length := by simpa using hj
      cases i with
      | zero =>
        have := rises_all l _ h.2 (l.getD j enZ) (by simp [List.getD, hj'])
        simpa [List.getD] using this
      | succ i =>
        have := rises_lt l _ h.2 i j (by omega) hj'
        simpa [List.getD] using this
end Go.Proofs.Ytfpfcjgdihlieaa
