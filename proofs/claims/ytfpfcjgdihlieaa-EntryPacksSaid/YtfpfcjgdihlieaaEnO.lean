/- doorwardref08.Unpack. -/
import Derived.Test.YtfpfcjgdihlieaaEnM
import Derived.Test.YtfpfcjgdihlieaaEnJ
import Derived.Test.YtfpfcjgdihlieaaEnS
namespace Go.Proofs.Ytfpfcjgdihlieaa
open Go.RowKit
set_option linter.unusedVariables false

/-- 's = append(s, x)': x lies alone in the block that was laid last; s is the call's own; which block turns. -/
theorem wpList_pushG {P : Program} {ops : Array Oper} {rest : List Oper} {o : Oper} {a : Act} {Q : Exit → Act → World → Prop} {w w0 : World}
    (s x : Operand) (t : TypeId) (e : TypeId) {i : TypeInfo} {z : Value} {size bytes : Nat} {base : Nat} {v : Value} {n : Nat} {xs news : List Value}
    (hown : w.ownsRow base e size v n xs) (hbel : Below base w0 w) (hbase : base ≤ w0.heap.size)
    (ht : P.underlying t = some (.slice e)) (hi : P.info? e = some i) (hz : i.zero = some z)
    (hsize : i.size = size) (hby : i.bytes = bytes) (hzs : z.cells.size = size) (hsz : 0 < size)
    (hgd : o.guard = none) (ho : o.op = .call { callee := .builtin .append, args := #[s, x], argTypes := #[t, t] })
    (hs : a.eval s = v) (hx : a.eval x = .slice (some ⟨w.heap.size, 0, none⟩) 1 1)
    (hl : news.length = size) (h1 : ∀ u ∈ news, u.oneCell' = true)
    (hroom : n ≤ 17592186044416 ∧ n * bytes + bytes ≤ 140737488355328)
    (h : ∀ v' w', w'.ownsRow base e size v' (n + 1) (xs ++ news) → Below base w0 w' → w.grownBy w' v.ownBlock → wpList P ops Q rest (a.put o.dst v') w') :
    wpList P ops Q (o :: rest) a (w.alloc (.cells news.toArray e)) := by
  refine wpList_append_own (w := w.alloc (.cells news.toArray e)) hgd s x t ho base e i z size bytes ht hi hz hsize hby hzs hsz v n xs hs (hown.alloc _) ⟨w.heap.size, 0, none⟩ 1 1 news hx (by simpa using hl) (cells_new w news e) h1
    (by unfold maxLen; omega) (by rw [Nat.add_mul]; omega) (by have := hbel.size; simp; omega) ?_
  intro v' w' h2 h3 h4
  refine h v' w' h2 ?_ (grown_trans (World.grownBy_alloc w _ _) h3)
  have hb1 : Below base w0 (w.alloc (.cells news.toArray e)) := hbel.alloc (by have := hbel.size; omega) _
  refine hb1.grown h3 (by have := hbel.size; simp; omega) ?_
  intro k hk
  exact (hown.lt k hk).1
def finE (s : ByteArray) (o : Option (List En × Nat)) : Option (List En) := match o with
  | none => none
  | some (l, r) => if rightE l = true ∧ r = s.size then some l else none
theorem unpE_fin (s : ByteArray) : unpE s = finE s (parseE s) := by
  unfold unpE finE
  cases h : parseE s with
  | none => rfl
  | some x =>
    obtain ⟨l, r⟩ := x
    simp only
    have := pack_end s r l h
    by_cases h1 : rightE l = true
    · by_cases h2 : r = s.size
      · rw [if_pos ⟨h1, this.2 h2⟩, if_pos ⟨h1, h2⟩]
      · rw [if_neg (fun hh => h2 (this.1 hh.2)), if_neg (fun hh => h2 hh.2)]
    · rw [if_neg (fun hh => h1 hh.1), if_neg (fun hh => h1 hh.1)]
theorem prEnts_len {s : ByteArray} {l : List En} {n p r : Nat} (hp : p ≤ s.size) (h : prEnts s n p = some (l, r)) : l.length = n := (entsB_at s n p r l hp h).2.2.1
theorem nN_byte (s : ByteArray) : nN s 0 0 1 ≤ 255 := by
  unfold nN getN
  rw [if_pos rfl]
  split
  · have h1 := getL_lt (cutL s (0 : Int).toNat (1 : Int).toNat)
    have h2 : (cutL s (0 : Int).toNat (1 : Int).toNat).length ≤ 1 := by unfold cutL; rw [List.length_take]; exact Nat.min_le_left _ _
    have h3 : 256 ^ (cutL s (0 : Int).toNat (1 : Int).toNat).length ≤ 256 ^ 1 := Nat.pow_le_pow_right (by omega) h2
    omega
  · omega
set_option maxRecDepth 100000 in
set_option maxHeartbeats 4000000 in
theorem refUnpack (s : ByteArray) (w : World) (hs : s.size ≤ 3000) : Calls Try.prog 10 #[.string s] w (UnpPost s w) := by
  obtain ⟨iI, hNI, hzI0, hzI1, hzI2⟩ := info_parts infoEn
  have hal := (Below.refl w.heap.size w).alloc (Nat.le_refl _) (.cells #[.string s, .int .i64 0, .int .i64 0] 55)
  have hr0 : RdR w.heap.size s 0 0 (w.alloc (.cells #[.string s, .int .i64 0, .int .i64 0] 55)) := heap_alloc_new w _
  have hz0 : (w.alloc (.cells #[.string s, .int .i64 0, .int .i64 0] 55)).heap.size = w.heap.size + 1 := World.size_alloc _ _
  -- the first number
  obtain ⟨g0, hg0⟩ : ∃ g, nN s 0 0 1 = g := ⟨_, rfl⟩
  obtain ⟨p0, hp0⟩ : ∃ p, nT s 0 0 1 = p := ⟨_, rfl⟩
  obtain ⟨x0, hx0⟩ : ∃ x, nE s 0 0 1 = x := ⟨_, rfl⟩
  have kb : 0 ≤ g0 ∧ g0 ≤ 65535 := by rw [← hg0]; exact nN_small _ _ _ _ (by omega)
  have kb5 : g0 ≤ 255 := by rw [← hg0]; exact nN_byte s
  have hv0 := u64_i64 g0 kb
  have HN := Lib.hid (fun u hu => rNext s 0 0 1 w.heap.size u hu hs (by omega))
  rw [hg0, hp0, hx0] at HN
  obtain ⟨n, hn⟩ := Int.eq_ofNat_of_zero_le kb.1
  have hK : (x0 ≠ 0 ∧ unpE s = none) ∨ (x0 = 0 ∧ p0 = ((1 : Nat) : Int) ∧ 1 ≤ s.size ∧ parseE s = prEnts s n 1) := by
    by_cases h1 : 1 ≤ s.size
    · obtain ⟨u1, u2, u3⟩ := n_ok s 0 1 (by omega) (by omega) (by omega)
      have u1 : nN s 0 0 1 = numA s 0 1 := u1
      have u2 : nT s 0 0 1 = ((0 + 1 : Nat) : Int) := u2
      have u3 : nE s 0 0 1 = 0 := u3
      refine .inr ⟨hx0.symm.trans u3, hp0.symm.trans u2, h1, ?_⟩
      have hcc : getL (cutL s 0 1) = n := by
        have : (getL (cutL s 0 1) : Int) = n := by rw [← hn, ← hg0, u1]; rfl
        omega
      unfold parseE
      rw [if_pos h1, hcc]
    · refine .inl ⟨?_, by unfold unpE parseE; rw [if_neg h1]⟩
      rw [← hx0]
      exact n_bad s 0 1 (by omega)
  have HK := Lib.hid hK; have HAL := Lib.hid hal
  subst hn
  clear hK hg0 hp0 hx0 hal
  go_enter Try.func10, Try.ntmps10
  go_upto_region 2 with fail
  obtain ⟨w1, hW⟩ : ∃ w1, w.alloc (.cells #[.string s, .int .i64 0, .int .i64 0] 55) = w1 := ⟨_, rfl⟩
  rw [hW] at HAL hr0 hz0 ⊢
  clear hW
  obtain ⟨R, hR⟩ : ∃ R, w.heap.size = R := ⟨_, rfl⟩
  have hRI : w.heap.size ≤ R := by omega
  rw [hR] at hr0 hz0 HN ⊢
  clear hR
  have hown0 : (w1.alloc (.cells #[] 36)).ownsRow (R + 1) 36 4 (.slice (some ⟨w1.heap.size, 0, none⟩) 0 0) 0 [] := World.ownsRow_made w1 #[] 0 (by omega) (by unfold maxLen; omega) rfl
  have hr2 : RdR R s 0 0 (w1.alloc (.cells #[] 36)) := (heap_alloc_old w1 _ (lt_of_block hr0)).trans hr0
  have HB2 := Lib.hid (HAL.out.alloc HAL.out.size (.cells #[] 36))
  have hz2 : R + 1 ≤ (w1.alloc (.cells #[] 36)).heap.size := by rw [World.size_alloc]; omega
  have HO2 := Lib.hid hown0
  clear hown0 HAL hr0
  go_upto_region 3 with fail
  obtain ⟨w2, hW⟩ : ∃ w2, w1.alloc (.cells #[] 36) = w2 := ⟨_, rfl⟩
  obtain ⟨r0, hr0⟩ : ∃ r0, w1.heap.size = r0 := ⟨_, rfl⟩
  rw [hW] at HO2 HB2 hr2 hz2 ⊢
  rw [hr0] at HO2
  (try rw [hr0])
  (try rw [← hz0, hr0])
  clear hW hr0 hz0
  go_wp2_with fail
  refine (HN.out _ hr2).mono ?_
  rintro e' w3 ⟨rfl, hr3, hg3⟩
  have HO3 := Lib.hid (World.ownsRow.kept HO2.out hg3 (.inr (fun e => absurd (HO2.out.lt R e).1 (by omega))))
  have HB3 := Lib.hid (HB2.out.grown hg3 HB2.out.size (fun k hk => by injection hk with hk; omega))
  have hz3 := Nat.le_trans hz2 hg3.size
  clear hg3 HO2 HB2 hr2 hz2 HN
  go_wp2_with fail
  go_loopw [5, 7] (fun ov z wr => ∃ (i : Nat) (v : Value) (xs : List Value) (p x : Int), i ≤ n ∧ z = .int .i64 i ∧ ov = v ∧ RdR R s p x wr ∧ R + 1 ≤ wr.heap.size ∧ Hid (wr.ownsRow (R + 1) 36 4 v i xs) ∧ Hid (Below w.heap.size w wr) ∧
      Hid ((x ≠ 0 ∧ unpE s = none) ∨ (x = 0 ∧ ∃ (pn : Nat) (acc : List En), p = (pn : Int) ∧ pn ≤ s.size ∧ acc.length = i ∧ parseE s = conc acc (prEnts s (n - i) pn) ∧ RowV wr (R + 1) xs acc))) (fun _ z _ => n - (intOf z).toNat)
  case atStart => exact ⟨0, _, [], p0, x0, Nat.zero_le _, rfl, rfl, hr3, hz3, HO3, HB3, Lib.hid (by
    rcases HK.out with h | ⟨h1, h2, h3, h4⟩
    · exact .inl h
    · refine .inr ⟨h1, 1, [], h2, h3, rfl, ?_, ⟨rfl, fun j hj => by simp at hj⟩⟩
      rw [h4, Nat.sub_zero]
      cases prEnts s n 1 with
      | none => rfl
      | some q => rfl)⟩
  case round =>
    clear HO3 HB3 hr3 hz3 HK
    obtain ⟨i, v, xs, p, x, hin, rfl, rfl, hrd, hz, hO, hB, hK⟩ := hrel
    obtain ⟨ta, tc, rfl, _⟩ := own_formS hO.out
    have cR := below_cell (Below.refl _ wr) (show wr.heap[R]? = _ from hrd) 2 rfl
    by_cases hgo : i < n ∧ x = 0
    · obtain ⟨hlt, rfl⟩ := hgo
      have hltI : (i : Int) < n := by omega
      obtain ⟨pn, acc, hpn, hps, hacc, hpar, hrow⟩ : ∃ (pn : Nat) (acc : List En), p = (pn : Int) ∧ pn ≤ s.size ∧ acc.length = i ∧ parseE s = conc acc (prEnts s (n - i) pn) ∧ RowV wr (R + 1) xs acc := by
        rcases hK.out with ⟨h, _⟩ | ⟨_, h⟩
        · exact absurd rfl h
        · exact h
      subst hpn
      have HRE := Lib.hid (refRead s pn R wr hrd hs (by omega))
      have hni : n - i = (n - (i + 1)) + 1 := by omega
      have HACC := Lib.hid hacc; have HROW := Lib.hid hrow; have HPAR := Lib.hid hpar
      clear hacc hrow hpar hK
      go_wp2_with fail
      refine HRE.out.mono ?_
      intro e' w4 hpost
      clear HRE
      cases hpr : prEnt s pn with
      | none =>
        rw [hpr] at hpost
        obtain ⟨nm, c1, c2, ka, kn, kc, p', x', rfl, hx', hr4, hg4⟩ := hpost
        have hU : unpE s = none := by rw [unpE_fin, HPAR.out, hni, prEnts_none hpr]; rfl
        have HO4 := Lib.hid (World.ownsRow.kept hO.out hg4 (.inr (fun e => absurd (hO.out.lt R e).1 (by omega))))
        have HB4 := Lib.hid (hB.out.grown hg4 hB.out.size (fun k hk => by injection hk with hk; omega))
        have hz4 := Nat.le_trans hz hg4.size
        have HU := Lib.hid hU; have HX := Lib.hid hx'
        clear hg4 hO hB hrd hz HPAR HROW HACC hpr hni hU hx' cR
        go_wp2_with (first | (at_builtin; go_must (refine wpList_push _ _ 22 36 (news := [.string nm, .int .i64 c1, .int .i64 c2, .slice ka kn kc]) HO4.out (Below.refl _ _) hz4 Try.underlying22 hNI hzI0 hzI1 hzI2 rfl (by decide) rfl rfl (by rfl) (by rfl) (by rfl) (by intro u hu; simp only [List.mem_cons, List.not_mem_nil, or_false] at hu; rcases hu with rfl | rfl | rfl | rfl <;> rfl) ⟨by omega, by omega⟩ ?_)))
        intro v6 w6 hown6 hb6
        have hr6 : RdR R s p' x' w6 := (hb6.block R (by omega)).trans hr4
        have HO6 := Lib.hid hown6
        have HB6 := Lib.hid (HB4.out.trans (hb6.mono (by omega)))
        have hz6 := Nat.le_trans hz4 hb6.size
        clear hb6 hown6 HO4 HB4 hz4 hr4
        go_wp2_with fail
        go_roundw
        case rel => exact ⟨i + 1, _, _, p', x', by omega, by go_num, rfl, hr6, hz6, HO6, HB6, Lib.hid (.inl ⟨HX.out, HU.out⟩)⟩
        case measure => simp [intOf]; omega
      | some eq =>
        obtain ⟨en, q⟩ := eq
        rw [hpr] at hpost
        obtain ⟨name, cur, nxt, vers⟩ := en
        obtain ⟨k, rfl, hk, hr4, hg4⟩ := hpost
        obtain ⟨f1, f2, f3⟩ := prEnt_facts hs hpr
        simp only at hk
        have hk := own_base (b' := R + 1) hk hz
        obtain ⟨ka, kc, rfl, _⟩ := own_formS hk
        have hpar2 : parseE s = conc (acc ++ [⟨name, cur, nxt, vers⟩]) (prEnts s (n - (i + 1)) q) := by rw [HPAR.out, hni, prEnts_some hpr]
        have HO4 := Lib.hid (World.ownsRow.kept hO.out hg4 (.inr (fun e => absurd (hO.out.lt R e).1 (by omega))))
        have HB4 := Lib.hid (hB.out.grown hg4 hB.out.size (fun k hk => by injection hk with hk; omega))
        have HV4 := Lib.hid (RowV.snoc (e := ⟨name, cur, nxt, vers⟩) (RowV.kept HROW.out hg4 (.inl (by omega))) f1 f2 hk)
        have hz4 := Nat.le_trans hz hg4.size
        have HP2 := Lib.hid hpar2
        clear hg4 hO hB hrd hz HPAR HROW hpr hni hpar2 f1 f2 hk cR
        go_wp2_with (first | (at_builtin; go_must (refine wpList_pushG _ _ 22 36 (news := [.string name, .int .i64 cur, .int .i64 nxt, .slice ka vers.length kc]) HO4.out (Below.refl _ _) hz4 Try.underlying22 hNI hzI0 hzI1 hzI2 rfl (by decide) rfl rfl (by rfl) (by rfl) (by rfl) (by intro u hu; simp only [List.mem_cons, List.not_mem_nil, or_false] at hu; rcases hu with rfl | rfl | rfl | rfl <;> rfl) ⟨by omega, by omega⟩ ?_)))
        intro v6 w6 hown6 hb6 hgr6
        have hr6 : RdR R s q 0 w6 := (hb6.block R (by omega)).trans hr4
        have HV6 : RowV w6 (R + 1) (xs ++ [.string name, .int .i64 cur, .int .i64 nxt, .slice ka vers.length kc]) (acc ++ [⟨name, cur, nxt, vers⟩]) := RowV.grew HV4.out hown6 hgr6 HO4.out
        have HO6 := Lib.hid hown6
        have HB6 := Lib.hid (HB4.out.trans (hb6.mono (by omega)))
        have hz6 := Nat.le_trans hz4 hb6.size
        have HKN : Hid (((0 : Int) ≠ 0 ∧ unpE s = none) ∨ ((0 : Int) = 0 ∧ ∃ (pn' : Nat) (acc' : List En), (q : Int) = (pn' : Int) ∧ pn' ≤ s.size ∧ acc'.length = i + 1 ∧ parseE s = conc acc' (prEnts s (n - (i + 1)) pn') ∧ RowV w6 (R + 1) (xs ++ [.string name, .int .i64 cur, .int .i64 nxt, .slice ka vers.length kc]) acc')) :=
          Lib.hid (.inr ⟨rfl, q, acc ++ [⟨name, cur, nxt, vers⟩], rfl, f3, by rw [List.length_append, HACC.out]; rfl, HP2.out, HV6⟩)
        clear hb6 hown6 hgr6 HO4 HB4 hz4 hr4 HV4 HV6 HP2 HACC
        go_wp2_with fail
        go_roundw
        case rel => exact ⟨i + 1, _, _, q, 0, by omega, by go_num, rfl, hr6, hz6, HO6, HB6, HKN⟩
        case measure => simp [intOf]; omega
    · have c0 := below_cell (Below.refl _ wr) (show wr.heap[R]? = _ from hrd) 1 rfl
      by_cases hx : x = 0
      · have hin2 : i = n := by
          have : ¬ i < n := fun h => hgo ⟨h, hx⟩
          omega
        subst hx hin2
        obtain ⟨pn, acc, hpn, hps, hacc, hpar, hrow⟩ : ∃ (pn : Nat) (acc : List En), p = (pn : Int) ∧ pn ≤ s.size ∧ acc.length = i ∧ parseE s = conc acc (prEnts s (i - i) pn) ∧ RowV wr (R + 1) xs acc := by
          rcases hK.out with ⟨h, _⟩ | ⟨_, h⟩
          · exact absurd rfl h
          · exact h
        subst hpn
        have hen : IsEns wr (.slice ta i tc) acc := hrow.row.reads hO.out hacc (Below.refl _ _)
        have hU : unpE s = if rightE acc = true ∧ pn = s.size then some acc else none := by
          rw [unpE_fin, hpar, Nat.sub_self]
          simp [prEnts, conc, finE]
        have HU := Lib.hid hU
        have hal2 : acc.length ≤ 1000000 := by omega
        have hnl : ¬ (i : Int) < i := by omega
        clear hpar hrow hK hgo hU
        by_cases he : pn = s.size
        · have HRT := Lib.hid (refRight acc _ wr hen (by rw [hacc]; omega))
          have heI : ((pn : Int) == (s.size : Int)) = true := by rw [beq_iff_eq]; omega
          have heN : ((pn : Int) != (s.size : Int)) = false := by rw [bne_eq_false_iff_eq]; omega
          cases hr : rightE acc with
          | true =>
            have hU2 : unpE s = some acc := by rw [HU.out, if_pos ⟨hr, he⟩]
            have HU2 := Lib.hid hU2
            rw [hr] at HRT
            have HEN := Lib.hid hen; have HE := Lib.hid he
            clear hU2 HU hr hen he
            go_wp2_with fail
            refine HRT.out.mono ?_
            rintro e' w4 ⟨rfl, hb4⟩
            have HB4 := Lib.hid (hB.out.trans (hb4.mono hB.out.size))
            have HE4 := Lib.hid (HEN.out.below hb4)
            clear hb4
            go_wp2_with fail
            go_ret2
            refine ⟨HB4.out, ?_⟩
            rw [HU2.out]
            exact ⟨_, rfl, HE4.out⟩
          | false =>
            have hU2 : unpE s = none := by rw [HU.out, if_neg (fun hh => by rw [hr] at hh; cases hh.1)]
            have HU2 := Lib.hid hU2
            rw [hr] at HRT
            have HE := Lib.hid he
            clear hU2 HU hr hen he
            go_wp2_with fail
            refine HRT.out.mono ?_
            rintro e' w4 ⟨rfl, hb4⟩
            have HB4 := Lib.hid (hB.out.trans (hb4.mono hB.out.size))
            clear hb4
            go_wp2_with fail
            go_ret2
            refine ⟨HB4.out, ?_⟩
            rw [HU2.out]; rfl
        · have hU2 : unpE s = none := by rw [HU.out, if_neg (fun hh => he hh.2)]
          have HU2 := Lib.hid hU2
          have heN : ((pn : Int) != (s.size : Int)) = true := by rw [bne_iff_ne]; omega
          have heI : ((pn : Int) == (s.size : Int)) = false := by rw [beq_eq_false_iff_ne]; omega
          clear hU2 HU hen he
          go_wp2_with fail
          go_ret2
          refine ⟨hB.out, ?_⟩
          rw [HU2.out]; rfl
      · have hU : unpE s = none := by
          rcases hK.out with ⟨_, h⟩ | ⟨h, _⟩
          · exact h
          · exact absurd h hx
        have HU := Lib.hid hU
        have hxn : (x != 0) = true := by simpa using hx
        have hxq : (x == 0) = false := by simpa using hx
        clear hU hK hgo hx
        by_cases hlt : i < n
        · have hltI : (i : Int) < n := by omega
          go_wp2_with fail
          go_ret2
          refine ⟨hB.out, ?_⟩
          rw [HU.out]; rfl
        · have hnl : ¬ (i : Int) < n := by omega
          go_wp2_with fail
          go_ret2
          refine ⟨hB.out, ?_⟩
          rw [HU.out]; rfl
end Go.Proofs.Ytfpfcjgdihlieaa
