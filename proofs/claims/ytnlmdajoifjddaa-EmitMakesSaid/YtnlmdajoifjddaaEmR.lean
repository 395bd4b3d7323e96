/- What the instructions of steps do: plain facts. -/
import Derived.Test.YtnlmdajoifjddaaEmS
import Derived.Test.YtnlmdajoifjddaaWordWalk
import Derived.Test.YtnlmdajoifjddaaVmA
namespace Go.Proofs.Ytnlmdajoifjddaa
open Go.RowKit
set_option linter.unusedVariables false

theorem runF_go' {l : List Ins} {rec : ByteArray} {f : Nat} {m m' : Mach} {s : Nat} (h1 : m.next < l.length) (h2 : insKnown (l.getD m.next insZ).code = true) (h3 : stepM l rec m = (true, m')) (h4 : m'.ret = false) :
    runF l rec (f + 1) m s = runF l rec f m' (s + 1) := by
  show (if m.next < l.length then _ else _) = _
  rw [if_pos h1, if_pos h2, h3]
  show (if m'.ret = true then _ else _) = _
  rw [h4]
  rfl
theorem runF_ret' {l : List Ins} {rec : ByteArray} {f : Nat} {m m' : Mach} {s : Nat} (h1 : m.next < l.length) (h2 : insKnown (l.getD m.next insZ).code = true) (h3 : stepM l rec m = (true, m')) (h4 : m'.ret = true) :
    runF l rec (f + 1) m s = (m'.ans, s, 0) := by
  show (if m.next < l.length then _ else _) = _
  rw [if_pos h1, if_pos h2, h3]
  show (if m'.ret = true then _ else _) = _
  rw [h4]
  rfl
theorem runF_bad' {l : List Ins} {rec : ByteArray} {f : Nat} {m m' : Mach} {s : Nat} (h1 : m.next < l.length) (h2 : insKnown (l.getD m.next insZ).code = true) (h3 : stepM l rec m = (false, m')) :
    runF l rec (f + 1) m s = (0, 0, 51) := by
  show (if m.next < l.length then _ else _) = _
  rw [if_pos h1, if_pos h2, h3]
  rfl
theorem runF_over' (l : List Ins) (rec : ByteArray) (f : Nat) (m : Mach) (s : Nat) (h : l.length ≤ m.next) : runF l rec f m s = (0, 0, 51) := by
  cases f with
  | zero => rfl
  | succ f =>
    show (if m.next < l.length then _ else _) = _
    rw [if_neg (by omega)]
theorem pre_get (pre rest : List Ins) (i : Ins) : (pre ++ i :: rest).getD pre.length insZ = i := by simp [List.getD]
theorem stepM_pre (pre rest : List Ins) (i : Ins) (rec : ByteArray) (m : Mach) (h : m.next = pre.length) : stepM (pre ++ i :: rest) rec m = (deedD m i.code.toNat i.k.toNat i.jt i.jf).run rec (pre ++ i :: rest).length { m with next := pre.length + 1 } := by
  unfold stepM
  rw [h, pre_get]
theorem known_em : ∀ c ∈ [5, 6, 21, 32, 37, 53, 84], insKnown (c : Int) = true := by decide +kernel
/-- one instruction that goes on -/
theorem go_pre {pre rest : List Ins} {i : Ins} {rec : ByteArray} {f st : Nat} {m m' : Mach} (h : m.next = pre.length) (hk : insKnown i.code = true) (hr : (deedD m i.code.toNat i.k.toNat i.jt i.jf).run rec (pre ++ i :: rest).length { m with next := pre.length + 1 } = (true, m')) (hret : m'.ret = false) :
    runF (pre ++ i :: rest) rec (f + 1) m st = runF (pre ++ i :: rest) rec f m' (st + 1) :=
  runF_go' (by rw [h]; simp) (by rw [h, pre_get]; exact hk) (by rw [stepM_pre _ _ _ _ _ h]; exact hr) hret
theorem way_env {s s' : Asm} {T : Int} (hw : s.way T = some s') : ∃ e, s.env T = some e ∧ s' = s.add ⟨5, 0, 0, ((s.c.length - e : Nat) : Int)⟩ := by
  unfold Asm.way at hw
  cases he : s.env T with
  | none => rw [he] at hw; cases hw
  | some e => rw [he] at hw; exact ⟨e, rfl, by injection hw with hw; exact hw.symm⟩
theorem test_env {s s' : Asm} {code : Int} {o : Stp} (hw : s.test code o = some s') : ∃ e1 e2, s.env o.f = some e1 ∧ s.env o.t = some e2 ∧
    s' = ⟨⟨code, 0, 1, (o.k : Int)⟩ :: ⟨5, 0, 0, ((s.c.length + 1 - e2 : Nat) : Int)⟩ :: ⟨5, 0, 0, ((s.c.length - e1 : Nat) : Int)⟩ :: s.c, s.env⟩ := by
  unfold Asm.test at hw
  cases h1 : s.way o.f with
  | none => rw [h1] at hw; cases hw
  | some s1 =>
    rw [h1] at hw
    have hw : (s1.way o.t).map (fun s2 => s2.add ⟨code, 0, 1, (o.k : Int)⟩) = some s' := hw
    obtain ⟨e1, a1, rfl⟩ := way_env h1
    cases h2 : (s.add ⟨5, 0, 0, ((s.c.length - e1 : Nat) : Int)⟩).way o.t with
    | none => rw [h2] at hw; cases hw
    | some s2 =>
      rw [h2] at hw
      obtain ⟨e2, a2, rfl⟩ := way_env h2
      refine ⟨e1, e2, a1, a2, ?_⟩
      injection hw with hw
      exact hw.symm
theorem step_env {s s' : Asm} {o : Stp} (hw : s.step o = some s') (h6 : o.kind ≠ 6) : s'.env = s.env := by
  unfold Asm.step at hw
  rw [if_neg h6] at hw
  split at hw
  · injection hw with hw; subst hw; rfl
  split at hw
  · injection hw with hw; subst hw; rfl
  split at hw
  · injection hw with hw; subst hw; rfl
  split at hw
  · obtain ⟨e, _, rfl⟩ := way_env hw; rfl
  split at hw
  · obtain ⟨_, _, _, _, rfl⟩ := test_env hw; rfl
  split at hw
  · obtain ⟨_, _, _, _, rfl⟩ := test_env hw; rfl
  split at hw
  · obtain ⟨_, _, _, _, rfl⟩ := test_env hw; rfl
  cases hw
theorem drop_step (l : List Stp) (p : Nat) (sp : Asm) (hp : p < l.length) (h : asmA (l.drop p) = some sp) : ∃ s1, asmA (l.drop (p + 1)) = some s1 ∧ s1.step (l.getD p stpZ) = some sp := by
  rw [asmA_drop l p hp] at h
  cases h1 : asmA (l.drop (p + 1)) with
  | none => rw [h1] at h; cases h
  | some s1 => rw [h1] at h; exact ⟨s1, rfl, h⟩
theorem env_beh (l : List Stp) : ∀ n p, l.length - p = n → p ≤ l.length → ∀ sp, asmA (l.drop p) = some sp → ∀ T e, sp.env T = some e → ∃ j sj, behL l p T n = some j ∧ asmA (l.drop (j + 1)) = some sj ∧ sj.c.length = e := by
  intro n
  induction n with
  | zero =>
    intro p hn hp sp h T e he
    rw [List.drop_of_length_le (by omega)] at h
    injection h with h
    subst h
    cases he
  | succ n ih =>
    intro p hn hp sp h T e he
    obtain ⟨s1, h1, h2⟩ := drop_step l p sp (by omega) h
    rw [behL]
    by_cases h6 : (l.getD p stpZ).kind = 6
    · have h2 : (if (l.getD p stpZ).kind = 6 then _ else _) = some sp := h2
      rw [if_pos h6] at h2
      injection h2 with h2
      subst h2
      have he : (if T = (l.getD p stpZ).t then some s1.c.length else s1.env T) = some e := he
      by_cases hT : (l.getD p stpZ).t = T
      · rw [if_pos hT.symm] at he
        injection he with he
        rw [if_pos ⟨h6, hT⟩]
        exact ⟨p, s1, rfl, h1, he⟩
      · rw [if_neg (fun h => hT h.symm)] at he
        rw [if_neg (fun h => hT h.2)]
        exact ih (p + 1) (by omega) (by omega) s1 h1 T e he
    · rw [step_env h2 h6] at he
      rw [if_neg (fun h => h6 h.1)]
      exact ih (p + 1) (by omega) (by omega) s1 h1 T e he
/-- what a run tells of a walk's end -/
def Tells (E : Fin4) (r : Nat × Nat × Int) : Prop := if E.told then r.2.2 = 0 ∧ r.1 = E.answer else r = (0, 0, 51)
theorem app_split {pre pre2 a b : List Ins} (h : pre ++ a = pre2 ++ b) (hl : pre.length = pre2.length) : a = b := (List.append_inj h hl).2
theorem suffix_of (l : List Stp) (s : Asm) (hs : asmA l = some s) : ∀ p, p ≤ l.length → ∃ sp, asmA (l.drop p) = some sp ∧ ∃ pre, s.c = pre ++ sp.c := by
  intro p
  induction p with
  | zero => intro _; exact ⟨s, hs, [], rfl⟩
  | succ p ih =>
    intro hp
    obtain ⟨sp, h1, pre, h2⟩ := ih (by omega)
    obtain ⟨s1, h3, h4⟩ := drop_step l p sp (by omega) h1
    refine ⟨s1, h3, ?_⟩
    have : ∃ new, sp.c = new ++ s1.c := by
      unfold Asm.step at h4
      split at h4
      · injection h4 with h4; subst h4; exact ⟨[], rfl⟩
      split at h4
      · injection h4 with h4; subst h4; exact ⟨[_], rfl⟩
      split at h4
      · injection h4 with h4; subst h4; exact ⟨[_], rfl⟩
      split at h4
      · injection h4 with h4; subst h4; exact ⟨[_], rfl⟩
      split at h4
      · obtain ⟨e, _, rfl⟩ := way_env h4; exact ⟨[_], rfl⟩
      split at h4
      · obtain ⟨_, _, _, _, rfl⟩ := test_env h4; exact ⟨[_, _, _], rfl⟩
      split at h4
      · obtain ⟨_, _, _, _, rfl⟩ := test_env h4; exact ⟨[_, _, _], rfl⟩
      split at h4
      · obtain ⟨_, _, _, _, rfl⟩ := test_env h4; exact ⟨[_, _, _], rfl⟩
      cases h4
    obtain ⟨new, hn⟩ := this
    exact ⟨pre ++ new, by rw [h2, hn, List.append_assoc]⟩
/-- a jump that is done -/
theorem over_run (rec : ByteArray) (n k : Nat) (m : Mach) (h : k ≤ n) : (Deed.over (k : Int)).run rec n m = (true, { m with next := m.next + k }) := by
  have : (min (max (k : Int) 0) n).toNat = k := by omega
  unfold Deed.run
  simp only [this]
theorem ja_go {c pre rest : List Ins} {k : Nat} {rec : ByteArray} {f st : Nat} {m : Mach} (hc : c = pre ++ ⟨5, 0, 0, (k : Int)⟩ :: rest) (h : m.next = pre.length) (hk : k ≤ rest.length) (hret : m.ret = false) :
    runF c rec (f + 1) m st = runF c rec f { m with next := pre.length + 1 + k } (st + 1) := by
  subst hc
  refine go_pre h (known_em 5 (by decide)) ?_ hret
  show (deedD m 5 k 0 0).run _ _ _ = _
  have : deedD m 5 k 0 0 = .over (k : Int) := by simp [deedD, jumpD]
  rw [this, over_run _ _ _ _ (by simp; omega)]
theorem sim (l : List Stp) (s : Asm) (hs : asmA l = some s) (hk : ∀ o ∈ l, o.k ≤ 4294967295) (hlen : l.length ≤ 100000) (rec : ByteArray) :
    ∀ n p a, l.length - p = n → p ≤ l.length → ∀ sp pre, asmA (l.drop p) = some sp → s.c = pre ++ sp.c → ∀ m f st, m.a = a → m.ret = false → m.next = pre.length → sp.c.length ≤ f → Tells (walkW l rec p a) (runF s.c rec f m st) := by
  intro n
  induction n using Nat.strongRecOn with
  | _ n ih =>
    intro p a hn hp sp pre hsp hpre m f st ha hret hnx hf
    by_cases hlt : p < l.length
    · obtain ⟨s1, h1, hst⟩ := drop_step l p sp hlt hsp
      have hok1 := (asmA_ok (l.drop (p + 1)) s1 (fun o ho => hk o (List.mem_of_mem_drop ho)) (by simp; omega) h1).1
      have henv := fun T e he => env_beh l (l.length - (p + 1)) (p + 1) rfl (by omega) s1 h1 T e he
      have u1 := walkW.eq_1 l rec p a
      rw [dif_pos hlt] at u1
      have hjmp := fun o (ho : o = l.getD p stpZ) hj => walkW_jump l rec p a hlt o ho hj
      generalize l.getD p stpZ = o at *
      -- going on behind a label
      have land : ∀ T e, s1.env T = some e → ∃ j, beh l p T = some j ∧ ∀ m' f' st', m'.a = a → m'.ret = false → m'.next + e = s.c.length → e ≤ f' → Tells (walkW l rec (j + 1) a) (runF s.c rec f' m' st') := by
        intro T e he
        obtain ⟨j, sj, hj, hsj, hje⟩ := henv T e he
        have hj' : beh l p T = some j := hj
        have hb := beh_bound l p T j hj'
        obtain ⟨sj', hsj', prej, hprej⟩ := suffix_of l s hs (j + 1) (by omega)
        rw [hsj] at hsj'
        injection hsj' with hsj'
        subst hsj'
        refine ⟨j, hj', fun m' f' st' h1 h2 h3 h4 => ih (l.length - (j + 1)) (by omega) (j + 1) a rfl (by omega) sj prej hsj hprej m' f' st' h1 h2 ?_ (by omega)⟩
        rw [hprej, List.length_append] at h3
        omega
      unfold Asm.step at hst
      by_cases k6 : o.kind = 6
      · rw [if_pos k6] at hst
        injection hst with hst
        have hc : sp.c = s1.c := by rw [← hst]
        rw [if_neg (by omega), if_neg (by omega), if_pos k6] at u1
        rw [u1]
        exact ih (l.length - (p + 1)) (by omega) (p + 1) a rfl (by omega) s1 pre h1 (by rw [hpre, hc]) m f st ha hret hnx (by rw [← hc]; exact hf)
      rw [if_neg k6] at hst
      by_cases k1 : o.kind = 1
      · rw [if_pos k1] at hst u1
        injection hst with hst
        have hc : sp.c = ⟨32, 0, 0, (o.k : Int)⟩ :: s1.c := by rw [← hst]; rfl
        rw [hc] at hpre hf
        obtain ⟨f, rfl⟩ : ∃ g, f = g + 1 := ⟨f - 1, by simp at hf; omega⟩
        have hd : deedD m 32 o.k 0 0 = .abs o.k := by simp [deedD, moveD]
        cases hw : wordOk o.k
        · rw [hw] at u1
          rw [u1]
          show runF s.c rec (f + 1) m st = (0, 0, 51)
          rw [hpre]
          refine runF_bad' (m' := { m with next := pre.length + 1, a := 0 }) (by rw [hnx]; simp) (by rw [hnx, pre_get]; exact known_em 32 (by decide)) ?_
          rw [stepM_pre _ _ _ _ _ hnx]
          show (deedD m 32 o.k 0 0).run _ _ _ = _
          rw [hd]
          show (if wordOk o.k then _ else _) = _
          rw [hw]; rfl
        · rw [hw] at u1
          rw [u1]
          show Tells (walkW l rec (p + 1) _) _
          have hgo : runF s.c rec (f + 1) m st = runF s.c rec f { m with next := pre.length + 1, a := getL (cutL rec o.k 4) } (st + 1) := by
            rw [hpre]
            refine go_pre hnx (known_em 32 (by decide)) ?_ hret
            show (deedD m 32 o.k 0 0).run _ _ _ = _
            rw [hd]
            show (if wordOk o.k then _ else _) = _
            rw [hw]; rfl
          rw [hgo]
          exact ih (l.length - (p + 1)) (by omega) (p + 1) _ rfl (by omega) s1 (pre ++ [⟨32, 0, 0, (o.k : Int)⟩]) h1 (by rw [hpre]; simp) _ f (st + 1) rfl hret (by simp) (by simpa using hf)
      rw [if_neg k1] at hst u1
      by_cases k2 : o.kind = 2
      · rw [if_pos k2] at hst u1
        injection hst with hst
        have hc : sp.c = ⟨84, 0, 0, (o.k : Int)⟩ :: s1.c := by rw [← hst]; rfl
        rw [hc] at hpre hf
        obtain ⟨f, rfl⟩ : ∃ g, f = g + 1 := ⟨f - 1, by simp at hf; omega⟩
        have hd : deedD m 84 o.k 0 0 = .setA (m.a &&& o.k) := by simp [deedD, sumD, sumV]
        rw [u1]
        have hgo : runF s.c rec (f + 1) m st = runF s.c rec f { m with next := pre.length + 1, a := m.a &&& o.k } (st + 1) := by
          rw [hpre]
          refine go_pre hnx (known_em 84 (by decide)) ?_ hret
          show (deedD m 84 o.k 0 0).run _ _ _ = _
          rw [hd]
          rfl
        rw [hgo]
        exact ih (l.length - (p + 1)) (by omega) (p + 1) _ rfl (by omega) s1 (pre ++ [⟨84, 0, 0, (o.k : Int)⟩]) h1 (by rw [hpre]; simp) _ f (st + 1) (by show m.a &&& o.k = _; rw [ha]) hret (by simp) (by simpa using hf)
      rw [if_neg k2] at hst u1
      rw [if_neg k6] at u1
      by_cases k8 : o.kind = 8
      · rw [if_pos k8] at hst u1
        injection hst with hst
        have hc : sp.c = ⟨6, 0, 0, (o.k : Int)⟩ :: s1.c := by rw [← hst]; rfl
        rw [hc] at hpre hf
        obtain ⟨f, rfl⟩ : ∃ g, f = g + 1 := ⟨f - 1, by simp at hf; omega⟩
        have hd : deedD m 6 o.k 0 0 = .answer o.k := by simp [deedD]
        rw [u1]
        have hgo : runF s.c rec (f + 1) m st = (o.k, st, 0) := by
          rw [hpre]
          refine runF_ret' (m' := { m with next := pre.length + 1, ans := o.k, ret := true }) (by rw [hnx]; simp) (by rw [hnx, pre_get]; exact known_em 6 (by decide)) ?_ rfl
          rw [stepM_pre _ _ _ _ _ hnx]
          show (deedD m 6 o.k 0 0).run _ _ _ = _
          rw [hd]
          rfl
        rw [hgo]
        exact ⟨rfl, rfl⟩
      rw [if_neg k8] at hst u1
      by_cases k7 : o.kind = 7
      · rw [if_pos k7] at hst
        rw [hjmp o rfl (by unfold isJump; simp [k7])]
        obtain ⟨e, he, rfl⟩ := way_env hst
        obtain ⟨j, hj, hl⟩ := land o.t e he
        have hg : o.goal a = o.t := by
          have : o.yes a = true := by unfold Stp.yes; rw [if_neg (by omega), if_neg (by omega), if_neg (by omega)]
          unfold Stp.goal; rw [this]; rfl
        rw [hg, hj]
        have hel := hok1.1 o.t e he
        have hpre : s.c = pre ++ ⟨5, 0, 0, ((s1.c.length - e : Nat) : Int)⟩ :: s1.c := hpre
        have hf : s1.c.length + 1 ≤ f := hf
        obtain ⟨f, rfl⟩ : ∃ g, f = g + 1 := ⟨f - 1, by omega⟩
        rw [ja_go hpre hnx (by omega) hret]
        refine hl _ f _ ha hret ?_ (by omega)
        have := congrArg List.length hpre
        simp only [List.length_append, List.length_cons] at this
        show pre.length + 1 + (s1.c.length - e) + e = _
        omega
      rw [if_neg k7] at hst
      -- a test
      have tests : ∀ code : Nat, (code = 21 ∨ code = 37 ∨ code = 53) → (∀ v, jumpB code v o.k = o.yes v) → isJump o.kind = true → s1.test code o = some sp → Tells (walkW l rec p a) (runF s.c rec f m st) := by
        intro code hcode hyes hij hst
        rw [hjmp o rfl hij]
        obtain ⟨e1, e2, he1, he2, rfl⟩ := test_env hst
        have hel1 := hok1.1 o.f e1 he1
        have hel2 := hok1.1 o.t e2 he2
        have hpre : s.c = pre ++ ⟨code, 0, 1, (o.k : Int)⟩ :: ⟨5, 0, 0, ((s1.c.length + 1 - e2 : Nat) : Int)⟩ :: ⟨5, 0, 0, ((s1.c.length - e1 : Nat) : Int)⟩ :: s1.c := hpre
        have hf : s1.c.length + 3 ≤ f := hf
        obtain ⟨f, rfl⟩ : ∃ g, f = g + 1 + 1 := ⟨f - 2, by omega⟩
        have hNl := congrArg List.length hpre
        simp only [List.length_append, List.length_cons] at hNl
        have hd : deedD m code o.k 0 1 = .over (if o.yes a then 0 else 1) := by
          rw [← hyes, ← ha]
          rcases hcode with rfl | rfl | rfl <;> simp [deedD, jumpD]
        have hkn : insKnown (code : Int) = true := by
          rcases hcode with rfl | rfl | rfl
          · exact known_em 21 (by decide)
          · exact known_em 37 (by decide)
          · exact known_em 53 (by decide)
        cases hy : o.yes a
        · have hg : o.goal a = o.f := by unfold Stp.goal; rw [hy]; rfl
          obtain ⟨j, hj, hl⟩ := land o.f e1 he1
          rw [hg, hj]
          have hgo : runF s.c rec (f + 1 + 1) m st = runF s.c rec (f + 1) { m with next := pre.length + 1 + 1 } (st + 1) := by
            rw [hpre]
            refine go_pre hnx hkn ?_ hret
            show (deedD m code o.k 0 1).run _ _ _ = _
            rw [hd, hy]
            exact over_run rec _ 1 _ (by simp; omega)
          rw [hgo, ja_go (c := s.c) (rec := rec) (f := f) (st := st + 1) (m := { m with next := pre.length + 1 + 1 }) (pre := pre ++ [⟨code, 0, 1, (o.k : Int)⟩, ⟨5, 0, 0, ((s1.c.length + 1 - e2 : Nat) : Int)⟩]) (k := s1.c.length - e1) (rest := s1.c) (by rw [hpre]; simp) (by simp) (by omega) hret]
          refine hl _ f _ ha hret ?_ (by omega)
          show (pre ++ [_, _]).length + 1 + (s1.c.length - e1) + e1 = _
          rw [List.length_append]
          simp only [List.length_cons, List.length_nil]
          omega
        · have hg : o.goal a = o.t := by unfold Stp.goal; rw [hy]; rfl
          obtain ⟨j, hj, hl⟩ := land o.t e2 he2
          rw [hg, hj]
          have hgo : runF s.c rec (f + 1 + 1) m st = runF s.c rec (f + 1) { m with next := pre.length + 1 } (st + 1) := by
            rw [hpre]
            refine go_pre hnx hkn ?_ hret
            show (deedD m code o.k 0 1).run _ _ _ = _
            rw [hd, hy]
            exact over_run rec _ 0 _ (by simp)
          rw [hgo, ja_go (c := s.c) (rec := rec) (f := f) (st := st + 1) (m := { m with next := pre.length + 1 }) (pre := pre ++ [⟨code, 0, 1, (o.k : Int)⟩]) (k := s1.c.length + 1 - e2) (rest := ⟨5, 0, 0, ((s1.c.length - e1 : Nat) : Int)⟩ :: s1.c) (by rw [hpre]; simp) (by simp) (by simp) hret]
          refine hl _ f _ ha hret ?_ (by omega)
          show (pre ++ [_]).length + 1 + (s1.c.length + 1 - e2) + e2 = _
          rw [List.length_append]
          simp only [List.length_cons, List.length_nil]
          omega
      by_cases k3 : o.kind = 3
      · rw [if_pos k3] at hst
        exact tests 21 (.inl rfl) (fun v => by unfold jumpB Stp.yes; rw [if_pos rfl, if_pos k3]) (by unfold isJump; simp [k3]) hst
      rw [if_neg k3] at hst
      by_cases k4 : o.kind = 4
      · rw [if_pos k4] at hst
        exact tests 37 (.inr (.inl rfl)) (fun v => by unfold jumpB Stp.yes; rw [if_neg (by decide), if_pos rfl, if_neg k3, if_pos k4]) (by unfold isJump; simp [k4]) hst
      rw [if_neg k4] at hst
      by_cases k5 : o.kind = 5
      · rw [if_pos k5] at hst
        exact tests 53 (.inr (.inr rfl)) (fun v => by unfold jumpB Stp.yes; rw [if_neg (by decide), if_neg (by decide), if_pos rfl, if_neg k3, if_neg k4, if_pos k5]) (by unfold isJump; simp [k5]) hst
      rw [if_neg k5] at hst
      cases hst
    · obtain rfl : p = l.length := by omega
      rw [walkW_end _ _ _ _ (by omega)]
      rw [List.drop_of_length_le (Nat.le_refl _)] at hsp
      injection hsp with hsp
      subst hsp
      have hpre : s.c = pre ++ [] := hpre
      exact runF_over' _ _ _ _ _ (by rw [hpre, hnx]; simp)
theorem sim_all (l : List Stp) (s : Asm) (hs : asmA l = some s) (hk : ∀ o ∈ l, o.k ≤ 4294967295) (hlen : l.length ≤ 100000) (rec : ByteArray) (h64 : rec.size = 64) : Tells (walkR l rec) (runR s.c rec) := by
  unfold walkR runR
  rw [if_pos h64, if_pos h64]
  exact sim l s hs hk hlen rec l.length 0 0 (by omega) (by omega) s [] hs rfl mach0 s.c.length 1 rfl rfl rfl (Nat.le_refl _)
end Go.Proofs.Ytnlmdajoifjddaa
