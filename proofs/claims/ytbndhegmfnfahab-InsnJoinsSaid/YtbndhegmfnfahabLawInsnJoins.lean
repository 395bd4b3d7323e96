/- The walk of InsnJoins. -/
import Derived.Test.YtbndhegmfnfahabInsnMath
import Derived.Laws.AppendOwnNone
import Derived.Outline
namespace Go.Proofs.Ytbndhegmfnfahab.lawInsnJoins
open Go.ChangeShapes Go.WideShapes Go.ChangeAt Go.RowKit Go.Joins Go.Deep
set_option linter.unusedVariables false

/-- 's = append(s, t...)': s is the call's own, t is whatever can be read. -/
theorem wpList_extend {P : Program} {ops : Array Oper} {rest : List Oper} {o : Oper} {a : Act} {Q : Exit → Act → World → Prop} {w w0 : World}
    (s x : Operand) (t : TypeId) (e : TypeId) {i : TypeInfo} {z : Value} {size bytes m c : Nat} {base : Nat} {v : Value} {n : Nat} {xs : List Value} {A : Option Addr} (news : List Value)
    (hown : w.ownsRow base e size v n xs) (hbel : Below base w0 w) (hbase : base ≤ w0.heap.size)
    (ht : P.underlying t = some (.slice e)) (hi : P.info? e = some i) (hz : i.zero = some z)
    (hsize : i.size = size) (hby : i.bytes = bytes) (hzs : z.cells.size = size) (hsz : 0 < size)
    (hgd : o.guard = none) (ho : o.op = .call { callee := .builtin .append, args := #[s, x], argTypes := #[t, t] })
    (hs : a.eval s = v) (hx : a.eval x = .slice A m c)
    (hA : (A = none ∧ m = 0 ∧ c = 0 ∧ news = []) ∨ ∃ ad, A = some ad ∧ ∀ j u, news[j]? = some u → w.cell? (ad.add j) = some u)
    (hl : news.length = m * size) (h1 : ∀ u ∈ news, u.oneCell' = true)
    (hroom : n + m ≤ 17592186044416 ∧ (n + m) * bytes ≤ 140737488355328)
    (h : ∀ v' w', w'.ownsRow base e size v' (n + m) (xs ++ news) → Below base w0 w' → wpList P ops Q rest (a.put o.dst v') w') :
    wpList P ops Q (o :: rest) a w := by
  rcases hA with ⟨rfl, rfl, rfl, rfl⟩ | ⟨ad, rfl, hc⟩
  · refine wpList_append_own_none hgd s x t ho base e i size ht hi v n xs hs hown hx ?_
    refine h v w ?_ hbel
    rw [List.append_nil]
    exact hown
  · refine wpList_append_own (w := w) hgd s x t ho base e i z size bytes ht hi hz hsize hby hzs hsz v n xs hs hown ad m c news hx hl hc h1 (by unfold maxLen; omega) hroom.2 (Nat.le_trans hbase hbel.size) ?_
    intro v' w' h2 h3 _
    exact h v' w' h2 (hbel.grown h3 (Nat.le_trans hbase hbel.size) (fun k hk => (hown.lt k hk).1))

def IsIns (w : World) (v : Value) (l : List Ins) : Prop := IsInsns w v l ∧ ∀ len cap, v = .slice none len cap → cap = 0
theorem openInsns {H : Type} {enc : TypeId × Value → H} {W : World} {base : Nat} {v : Value} {d : DataW H} {p : List MemPlace}
    (hok : Value.okWide Try.prog W .any base 22 v) (h : DataW.Trod enc Try.prog W 0 (fun _ => true) true 22 v d p) : ∃ l, IsIns W v l := by
  obtain ⟨l, hl⟩ := Ytbndhegmfnfahab.openInsns hok h
  refine ⟨l, hl, ?_⟩
  rintro len cap rfl
  obtain ⟨fuel, hf⟩ := h
  rcases open_slice Try.underlying22 hf with ⟨hcs, _⟩ | ⟨x, l', c, m, n, D, Pl, hcs, _⟩
  · simp [Value.cells] at hcs
    exact hcs.2
  · simp [Value.cells] at hcs

theorem cells_of {w : World} {A : Option Addr} {len cap : Nat} {l : List Ins} (h : IsIns w (.slice A len cap) l) (m : Nat) (hm : m ≤ len) :
    (A = none ∧ m = 0 ∧ cap = 0 ∧ insCells (l.take m) = []) ∨ ∃ ad, A = some ad ∧ ∀ j u, (insCells (l.take m))[j]? = some u → w.cell? (ad.add j) = some u := by
  obtain ⟨⟨a, len', cap', hv, hlen, hc1, hc2, hbd, hat⟩, hn⟩ := h
  injection hv with h1 h2 h3
  subst h1 h2 h3
  cases A with
  | none =>
    left
    have := hn _ _ rfl
    subst this
    obtain rfl : m = 0 := by omega
    exact ⟨rfl, rfl, rfl, rfl⟩
  | some ad =>
    refine .inr ⟨ad, rfl, fun j u hj => ?_⟩
    have hlt : j < (insCells (l.take m)).length := (List.getElem?_eq_some_iff.1 hj).1
    rw [insCells_len, List.length_take] at hlt
    rcases hat with h0 | ⟨b, off, hab, hb, hat⟩
    · omega
    · injection hab with hab
      subst hab
      have hdiv : j = j / 4 * 4 + j % 4 := by omega
      have hi : j / 4 < (l.take m).length := by rw [List.length_take]; omega
      rw [hdiv, insCells_at (l.take m) (j / 4) (j % 4) hi (by omega)] at hj
      rw [show (l.take m).getD (j / 4) insZ = l.getD (j / 4) insZ from by rw [List.length_take] at hi; simp [List.getD, show j / 4 < m by omega]] at hj
      obtain ⟨c0, c1, c2, c3⟩ := hat (j / 4) (by rw [List.length_take] at hi; omega)
      rw [addr_add, hdiv, ← Nat.add_assoc]
      have h4 : j % 4 = 0 ∨ j % 4 = 1 ∨ j % 4 = 2 ∨ j % 4 = 3 := by omega
      rcases h4 with h4 | h4 | h4 | h4 <;> rw [h4] at hj ⊢ <;> (simp only [Ins.cells] at hj; injection hj with hj; subst hj; assumption)
theorem IsIns.below {w w' : World} {v : Value} {l : List Ins} (h : IsIns w v l) (hb : Below w.heap.size w w') : IsIns w' v l := ⟨h.1.below hb, h.2⟩

theorem insCells_one (l : List Ins) : ∀ u ∈ insCells l, u.oneCell' = true := by
  intro u hu
  obtain ⟨i, _, hi⟩ := List.mem_flatMap.1 hu
  simp only [Ins.cells, List.mem_cons, List.not_mem_nil, or_false] at hi
  rcases hi with rfl | rfl | rfl | rfl <;> rfl
theorem fit_append (l m : List Ins) : allFit (l ++ m) ↔ allFit l ∧ allFit m := by
  unfold allFit
  constructor
  · intro h; exact ⟨fun i hi => h i (List.mem_append_left _ hi), fun i hi => h i (List.mem_append_right _ hi)⟩
  · rintro ⟨h1, h2⟩ i hi
    rcases List.mem_append.1 hi with hi | hi
    · exact h1 i hi
    · exact h2 i hi
theorem all_few (l : List Ins) (h : l.length ≤ 400) : (allFit l ∧ insAllE l = 0 ∧ insAllS l = allB l) ∨ (¬ allFit l ∧ insAllE l = 1 ∧ insAllS l = ⟨#[]⟩) := by
  unfold insAllS
  by_cases hf : allFit l
  · have : insAllE l = 0 := by unfold insAllE; rw [if_neg (by omega), if_pos hf]
    exact .inl ⟨hf, this, by rw [if_pos this]; rfl⟩
  · have : insAllE l = 1 := by unfold insAllE; rw [if_neg (by omega), if_neg hf]
    exact .inr ⟨hf, this, by rw [if_neg (by rw [this]; decide)]⟩
theorem allB_append (l m : List Ins) : allB (l ++ m) = allB l ++ allB m := by
  apply ba_ext
  rw [ba_append_list, allB_list, allB_list, allB_list, allL, List.flatMap_append]; rfl
theorem kn_append (l m : List Ins) : allKn (l ++ m) = (allKn l && allKn m) := by simp [allKn]

set_option maxRecDepth 100000 in
set_option maxHeartbeats 1000000 in
theorem walk (v0 : Value) (l0 : List Ins) (v1 : Value) (m0 : List Ins) (w : World) (w0 : IsIns w v0 l0) (w1 : IsIns w v1 m0) :
    Calls Try.prog 3 #[v0, v1] w fun e w' => e = .returned (.bool true) ∧ Below w.heap.size w w' := by
  obtain ⟨i0, hinf, hz0, hz1, hz2⟩ := info_parts infoInsn
  obtain ⟨a, len, cap, rfl, hlen, hc1, hc2, htk⟩ := w0.1.take
  obtain ⟨a', len', cap', rfl, hlen', hc1', hc2', htk'⟩ := w1.1.take
  obtain ⟨n, hn, hn1, hn2, hn3⟩ := min_if len 200 (by omega)
  obtain ⟨n', hn', hn1', hn2', hn3'⟩ := min_if len' 200 (by omega)
  have hmi : min (len : Int) 200 = n := by omega
  have hmi' : min (len' : Int) 200 = n' := by omega
  have hl := htk n (by omega)
  have hl' := htk' n' (by omega)
  have hcl := fun u (hu : Below w.heap.size w u) => cells_of (w0.below hu) n hn1
  have hcl' := fun u (hu : Below w.heap.size w u) => cells_of (w1.below hu) n' hn1'
  have hll : (l0.take n).length = n := by rw [List.length_take]; omega
  have hll' : (m0.take n').length = n' := by rw [List.length_take]; omega
  have hlI : (n : Int) ≤ cap := by omega
  have hlI' : (n' : Int) ≤ cap' := by omega
  have hcI : (cap : Int) ≤ 9223372036854775807 := by omega
  have hcI' : (cap' : Int) ≤ 9223372036854775807 := by omega
  have hleI : (len : Int) ≤ 9223372036854775807 := by omega
  have hleI' : (len' : Int) ≤ 9223372036854775807 := by omega
  generalize l0.take n = l at *
  generalize m0.take n' = l' at *
  have hlb : ∀ i ∈ l, i.bounded := by obtain ⟨_, _, _, _, _, _, _, h, _⟩ := hl; exact h
  have hlb' : ∀ i ∈ l', i.bounded := by obtain ⟨_, _, _, _, _, _, _, h, _⟩ := hl'; exact h
  have HL := Lib.hid hl; have HL' := Lib.hid hl'; have HC := Lib.hid hcl; have HC' := Lib.hid hcl'; have HLB := Lib.hid hlb; have HLB' := Lib.hid hlb'
  have HN := Lib.hid hll; have HN' := Lib.hid hll'
  have hA := fun u (hu : Below w.heap.size w u) => insnAll_any l _ u (hl.below hu)
  have hA' := fun u (hu : Below w.heap.size w u) => insnAll_any l' _ u (hl'.below hu)
  have HF := Lib.hid (all_few l (by omega)); have HF' := Lib.hid (all_few l' (by omega)); have HFF := Lib.hid (all_few (l ++ l') (by rw [List.length_append]; omega))
  obtain ⟨E, eE⟩ : ∃ E, E = insAllE l := ⟨_, rfl⟩
  obtain ⟨S, eS⟩ : ∃ E, E = insAllS l := ⟨_, rfl⟩
  obtain ⟨E', eE'⟩ : ∃ E, E = insAllE l' := ⟨_, rfl⟩
  obtain ⟨S', eS'⟩ : ∃ E, E = insAllS l' := ⟨_, rfl⟩
  rw [← eE, ← eS] at hA HF
  rw [← eE', ← eS'] at hA' HF'
  have HA := Lib.hid hA; have HA' := Lib.hid hA'
  clear hl hl' hcl hcl' htk htk' w0 w1 hlen hlen' hll hll' hlb hlb' hn hn' hn3 hn3' hA hA' eE eS eE' eS'
  go_enter Try.func3, Try.ntmps3
  go_wp2_with fail
  go_quiet (fail)
  go_wp2_with fail
  have hw0 : Below w.heap.size w (w.drewN nq) := belowN (Below.refl _ _) _
  refine (keep hw0 (HA.out _ hw0)).mono ?_
  rintro e w2 ⟨rfl, hw2⟩
  clear hw0
  go_wp2_with fail
  refine (keep hw2 (HA'.out _ hw2)).mono ?_
  rintro e w3 ⟨rfl, hw3⟩
  clear hw2
  have hown0 : (w3.alloc (.cells #[] 32)).ownsRow w.heap.size 32 4 (.slice (some ⟨w3.heap.size, 0, none⟩) 0 0) 0 [] := World.ownsRow_made w3 #[] 0 hw3.size (by unfold maxLen; omega) rfl
  have hw4 := hw3.alloc hw3.size (.cells #[] 32)
  have hcA := HC.out _ hw4
  have hlen1 : (insCells l).length = n * 4 := by rw [insCells_len, HN.out]
  have hlen2 : (insCells l').length = n' * 4 := by rw [insCells_len, HN'.out]
  have HLN := Lib.hid hlen1; have HLN' := Lib.hid hlen2; have HOW := Lib.hid hown0; have HCA := Lib.hid hcA
  clear hown0 hcA hlen1 hlen2 hw3
  go_wp2_with (first | (at_builtin; go_must (refine wpList_extend _ _ 22 32 (insCells l) HOW.out hw4 (Nat.le_refl _) Try.underlying22 hinf hz0 hz1 hz2 rfl (by decide) rfl rfl rfl rfl HCA.out HLN.out (insCells_one l) ?c2 ?_)))
  case c2 => omega
  intro v4 w4 hown4 hb4
  have HOW4 := Lib.hid hown4; have HCB := Lib.hid (HC'.out _ hb4)
  clear hw4 HOW HCA hown4
  go_wp2_with (first | (at_builtin; go_must (refine wpList_extend _ _ 22 32 (insCells l') HOW4.out hb4 (Nat.le_refl _) Try.underlying22 hinf hz0 hz1 hz2 rfl (by decide) rfl rfl rfl rfl HCB.out HLN'.out (insCells_one l') ?c3 ?_)))
  case c3 => omega
  intro v5 w5 hown5 hw5
  have hO5 : OwnIns w5 w.heap.size v5 (l ++ l') := by
    unfold OwnIns
    rw [List.length_append, HN.out, HN'.out, insCells, List.flatMap_append]
    exact hown5
  have hlb5 : ∀ i ∈ l ++ l', i.bounded := fun i hi => by
    rcases List.mem_append.1 hi with hi | hi
    · exact HLB.out i hi
    · exact HLB'.out i hi
  have HA5 := Lib.hid (insnAll_any _ _ w5 (hO5.reads hlb5))
  clear hown5 hO5 HOW4 HCB hb4
  go_wp2_with fail
  refine (keep hw5 HA5.out).mono ?_
  rintro e w6 ⟨rfl, hw6⟩
  clear HA5 hw5
  have hff := HFF.out
  rcases HF.out with ⟨hf, rfl, rfl⟩ | ⟨hf, rfl, rfl⟩ <;> rcases HF'.out with ⟨hf', rfl, rfl⟩ | ⟨hf', rfl, rfl⟩
  · have hff2 : allFit (l ++ l') := (fit_append l l').2 ⟨hf, hf'⟩
    rcases hff with ⟨_, e1, e2⟩ | ⟨h, _⟩
    · rw [e1, e2]
      have r1 := read_all l (by unfold insAllE; rw [if_neg (by rw [HN.out]; omega), if_pos hf]) HLB.out
      have r2 := read_all (l ++ l') e1 hlb5
      have HR1 := Lib.hid r1; have HR2 := Lib.hid r2
      have hz1 : (allB l).size = 8 * n := by rw [allB_size, HN.out]
      have hz2 : (allB l').size = 8 * n' := by rw [allB_size, HN'.out]
      have HRA := Lib.hid (fun u => insnRead_any (allB l) u (by omega))
      have HRB := Lib.hid (fun u => insnRead_any (allB (l ++ l')) u (by rw [allB_size, List.length_append, HN.out, HN'.out]; omega))
      unfold ReadPost at HRA HRB
      have hadd := fun u => add_run (P := Try.prog) (allB l) (allB l') _ (allB_append l l') (by omega) u
      have HKN := Lib.hid (kn_append l l')
      have HEQ := Lib.hid (show (allB (l ++ l')).toList = (allB l ++ allB l').toList by rw [allB_append])
      clear e1 e2 r1 r2 hz1 hz2 hff2 hf hf'
      go_wp2_with fail
      have hr1 := HR1.out.2
      have hr2 := HR2.out.2
      rw [HKN.out] at hr2
      have hkt : (l ++ l').take n = l := by rw [← HN.out, List.take_left]
      have HKT := Lib.hid hkt
      have hll : (l ++ l').length = n + n' := by rw [List.length_append, HN.out, HN'.out]
      have HLL := Lib.hid hll
      have HL5 := Lib.hid hlb5
      clear HR1 HR2 HKN hkt hll HFF HF HF' HA HA' HLN HLN' HL HL' HC HC' HLB' hlb5 hmi hmi' hlI hlI' hcI hcI' hleI hleI'
      generalize insReadE (allB l) = E1 at *
      generalize insReadE (allB (l ++ l')) = E2 at *
      generalize insReadL (allB l) = L1 at *
      generalize insReadL (allB (l ++ l')) = L2 at *
      generalize allB l = BA at *
      generalize allB l' = BB at *
      generalize allB (l ++ l') = BC at *
      cases hB : allKn l <;> cases hB' : allKn l' <;> rw [hB, hB'] at hr2 <;> rw [hB] at hr1 <;> obtain ⟨rfl, h1⟩ := hr1 <;> obtain ⟨rfl, h2⟩ := hr2
      case true.true =>
        obtain rfl := h1 rfl
        obtain rfl := h2 rfl
        clear h1 h2 hB hB'
        refine (HRA.out _).mono ?_
        rintro e w7 ⟨v6, rfl, hown6, hb7⟩
        have hw7 := hw6.trans (hb7.mono hw6.size)
        have hi6 := hown6.reads HLB.out
        clear hown6 hb7 HRA hw6
        go_wp2_with fail
        refine (HRB.out _).mono ?_
        rintro e w8 ⟨v7, rfl, hown7, hb8⟩
        have hw8 := hw7.trans (hb8.mono hw7.size)
        have hi6' := hi6.below hb8
        have hi7 := hown7.reads HL5.out
        clear hown7 hb8 HRB hw7 hi6
        obtain ⟨a7, len7, cap7, rfl, hlen7, hc71, hc72, htk7⟩ := hi7.take
        have htk := htk7 n (by have := HLL.out; omega)
        rw [HKT.out] at htk
        obtain ⟨a6, len6, cap6, rfl, hlen6, hc61, hc62, htk6⟩ := hi6'.take
        obtain rfl : len6 = n := by rw [← hlen6, HN.out]
        obtain rfl : len7 = len6 + n' := by rw [← hlen7, HLL.out]
        have hT := Lib.hid htk; have H6 := Lib.hid hi6'
        have g1 : (len6 : Int) + n' ≤ cap7 := by omega
        have g2 : (cap7 : Int) ≤ 9223372036854775807 := by omega
        clear htk hi7 hi6' htk7 htk6 hlen6 hlen7
        go_wp2_with fail
        refine (insnAlive _).mono ?_
        rintro e w9 ⟨rfl, hb9⟩
        have hw9 := hw8.trans (hb9.mono hw8.size)
        have hlk := refLike_any _ _ _ _ w9 (hT.out.below hb9) (H6.out.below hb9)
        rw [decide_eq_true rfl] at hlk
        have HLK := Lib.hid hlk
        clear hlk hb9 hw8 hT H6
        go_wp2_with fail
        refine (keep hw9 HLK.out).mono ?_
        rintro e w10 ⟨rfl, hw10⟩
        go_wp2_with fail
        go_ret
        exact ⟨rfl, hw10⟩
      all_goals
        clear h1 h2 hB hB'
        refine (HRA.out _).mono ?_
        rintro e w7 ⟨v6, rfl, hown6, hb7⟩
        have hw7 := hw6.trans (hb7.mono hw6.size)
        clear hown6 hb7 HRA hw6
        go_wp2_with fail
        refine (HRB.out _).mono ?_
        rintro e w8 ⟨v7, rfl, hown7, hb8⟩
        have hw8 := hw7.trans (hb8.mono hw7.size)
        clear hown7 hb8 HRB hw7
        go_wp2_with fail
        refine (keep hw8 (insnAlive _)).mono ?_
        rintro e w9 ⟨rfl, hw9⟩
        clear hw8
        go_wp2_with fail
        go_ret
        exact ⟨rfl, hw9⟩
    · exact absurd hff2 h
  all_goals
    rcases hff with ⟨h, _, _⟩ | ⟨_, e1, e2⟩
    · exact absurd ((fit_append l l').1 h) (fun hh => by first | exact hf hh.1 | exact hf' hh.2)
    · rw [e1, e2]
      clear e1 e2 hf hf' hlb5
      go_wp2_with fail
      refine (keep hw6 (insnAlive _)).mono ?_
      rintro e w7 ⟨rfl, hw7⟩
      go_wp2_with fail
      go_ret
      exact ⟨rfl, hw7⟩
end Go.Proofs.Ytbndhegmfnfahab.lawInsnJoins
