/- The walk of RoomBack. -/
import Derived.Test.YtdpmdbloopmpdaaRoomBk
import Derived.Deep.RegionLaw
import Derived.Deep.AppendLies
import Derived.Outline
namespace Go.Proofs.Ytdpmdbloopmpdaa.lawRoomBack
open Go.RowKit
set_option linter.unusedVariables false

theorem natV_one (l : List Nat) : ∀ u ∈ l.map natV, u.oneCell' = true := by
  intro u hu
  obtain ⟨k, _, rfl⟩ := List.mem_map.1 hu
  rfl
/-- 's = append(s, t...)' as a step of a region that draws -/
theorem step_extend {P : Program} {ops : Array Oper} {o : Oper} {a : Act} {K : Act → World → Prop} {Q : Exit → Act → World → Prop} {E : Prop} {w w0 : World}
    (s x : Operand) (t : TypeId) (e : TypeId) {i : TypeInfo} {z : Value} {size bytes m c : Nat} {base : Nat} {v : Value} {n : Nat} {xs : List Value} {ad : Addr} (news : List Value)
    (hown : w.ownsRow base e size v n xs) (hbel : Below base w0 w) (hbase : base ≤ w0.heap.size)
    (ht : P.underlying t = some (.slice e)) (hi : P.info? e = some i) (hz : i.zero = some z)
    (hsize : i.size = size) (hby : i.bytes = bytes) (hzs : z.cells.size = size) (hsz : 0 < size)
    (hgd : o.guard = none) (ho : o.op = .call { callee := .builtin .append, args := #[s, x], argTypes := #[t, t] })
    (hs : a.eval s = v) (hx : a.eval x = .slice (some ad) m c) (hc : ∀ j u, news[j]? = some u → w.cell? (ad.add j) = some u)
    (hl : news.length = m * size) (h1 : ∀ u ∈ news, u.oneCell' = true)
    (hroom : n + m ≤ 17592186044416 ∧ (n + m) * bytes ≤ 140737488355328)
    (h : ∀ v' w', w'.ownsRow base e size v' (n + m) (xs ++ news) → Below base w0 w' → K (a.put o.dst v') w') :
    if Region.wanted o (yielded ops a.tmps) = true then Oper.wp P o a w K Q else E := by
  rw [if_pos (by simp [Region.wanted, hgd])]
  exact wp_append_own w s x t ho base e i z size bytes ht hi hz hsize hby hzs hsz v n xs hs hown ad m c news hx hl hc h1 (by unfold maxLen; omega) hroom.2 (Nat.le_trans hbase hbel.size)
    fun v' w' h2 h3 _ => h v' w' h2 (hbel.grown h3 (Nat.le_trans hbase hbel.size) (fun k hk => (hown.lt k hk).1))
theorem rot_by (x : Int) (i : Nat) (h0 : 0 < i) (h1 : i ≤ 300) : ∃ B : Nat, (wrap64 (x.tmod i + i)).tmod i = B ∧ B < i := by
  have ha : x.tmod i < i := Int.tmod_lt_of_pos x (by omega)
  have hb : -(i : Int) < x.tmod i := Int.lt_tmod_of_pos x (by omega)
  have hw : wrap64 (x.tmod i + i) = x.tmod i + i := by unfold wrap64; omega
  rw [hw, Int.tmod_eq_emod_of_nonneg (by omega)]
  refine ⟨((x.tmod i + i) % i).toNat, ?_, ?_⟩
  · have := Int.emod_nonneg (x.tmod i + i) (show (i : Int) ≠ 0 by omega); omega
  · have := Int.emod_lt_of_pos (x.tmod i + i) (show (0 : Int) < i by omega); omega
theorem nats_ints {w : World} {v : Value} {P : List Nat} (h : IsNats w v P) : Reads1 intV w v (P.map fun x : Nat => (x : Int)) := by
  obtain ⟨a, len, cap, rfl, hlen, hc1, hc2, hat⟩ := h
  refine ⟨a, len, cap, rfl, by rw [List.length_map]; exact hlen, hc1, hc2, hat.imp id ?_⟩
  rintro ⟨b, off, rfl, hlt, hat⟩
  refine ⟨b, off, rfl, hlt, fun i hi => ?_⟩
  rw [List.length_map] at hi
  rw [hat i hi, List.getElem_map]
  rfl

set_option maxRecDepth 100000 in
set_option maxHeartbeats 1000000 in
theorem walk (v0 : Value) (l0 : List Bool) (many by0 : Int) (w : World) (w0 : IsBools w v0 l0) (w1 : (Lit.int .i64 many).wf = true) (w2 : (Lit.int .i64 by0).wf = true) :
    Calls Try.prog 4 #[v0, .int .i64 many, .int .i64 by0] w fun e w' => e = .returned (.bool true) ∧ Below w.heap.size w w' := by
  have hwa := wf_i64 w1
  have hwb := wf_i64 w2
  obtain ⟨p, len, cap, rfl, hlen, hc1, hc2, htk⟩ := w0.take
  have hl := htk (min len 300) (Nat.min_le_left _ _)
  have HF := Lib.hid (fun u => roomFew_at p len cap u hc1 hc2)
  have hm1 : min len 300 ≤ 300 := Nat.min_le_right _ _
  have hll : (l0.take (min len 300)).length = min len 300 := by rw [List.length_take]; omega
  generalize min len 300 = n at *
  generalize l0.take n = l at *
  have HL := Lib.hid hl
  have hnI : (n : Int) ≤ 300 := by omega
  have hu1 : unpE06 (packB l) (n : Nat) = 0 := by rw [← hll]; exact unpE_pack l
  have hu2 : unpL06 (packB l) (n : Nat) = l := by rw [← hll]; exact unpL_pack l
  have hps : (packB l).size ≤ 1000 := by rw [packB_size]; omega
  have HU := Lib.hid (fun u => roomUnpack_any (packB l) (n : Nat) u hps (by omega) (by omega))
  rw [hu1, hu2] at HU
  have HP := Lib.hid (fun u hu => roomPack_any (.slice p n cap) l u hu (by omega))
  have HR := Lib.hid (fun u hu => refRight_any (.slice p n cap) l u hu)
  have HT := Lib.hid (fun (m : Int) u hu => roomTake_any (.slice p n cap) l m u hu)
  have HFR := Lib.hid (fun u hu => roomFree_any (.slice p n cap) l u hu)
  clear hl htk w0 w1 w2 hlen hu1 hu2 hps
  go_enter Try.func4, Try.ntmps4
  go_wp2_with fail
  refine (HF.out _).mono ?_
  rintro e w' ⟨rfl, rfl⟩
  go_wp2_with fail
  refine (HP.out _ HL.out).mono ?_
  rintro e w2 ⟨rfl, hw2⟩
  have HL2 := Lib.hid (HL.out.below hw2)
  generalize packB l = S at *
  clear HP
  go_wp2_with fail
  refine (HU.out _).mono ?_
  rintro e w3 ⟨⟨v1, rfl, hx⟩, hb3⟩
  have hw3 := hw2.trans (hb3.mono hw2.size)
  have HL3 := Lib.hid (HL2.out.below hb3); have HX := Lib.hid hx
  clear hx hw2 hb3 HL2 HU
  go_wp2_with fail
  refine (refSame_any _ _ _ _ _ HX.out HL3.out).mono ?_
  rintro e w4 ⟨rfl, hb4⟩
  rw [decide_eq_true rfl]
  have hw4 := hw3.trans (hb4.mono hw3.size)
  have HL4 := Lib.hid (HL3.out.below hb4)
  clear hw3 hb4 HL3 HX
  go_wp2_with fail
  refine (HR.out _ HL4.out).mono ?_
  rintro e w5 ⟨rfl, rfl⟩
  cases hr : rightB l
  · clear hr
    go_wp2_with fail
    refine (keep hw4 (roomAlive _)).mono ?_
    rintro e w6 ⟨rfl, hw6⟩
    go_wp2_with fail
    go_ret
    exact ⟨rfl, hw6⟩
  · go_upto_region 7 with fail
    go_cut [1] (fun v wx => ∃ A : Nat, v = .int .i64 A ∧ A ≤ 300 ∧ w4 = wx)
    case first =>
      go_wp2_with fail
      all_goals go_meet
      all_goals first
        | exact ⟨0, rfl, by omega, rfl⟩
        | exact ⟨300, rfl, by omega, rfl⟩
        | exact ⟨many.toNat, by rw [show (many.toNat : Int) = many from by omega], by omega, rfl⟩
    case rest =>
    obtain ⟨A, rfl, hA3, rfl⟩ := hcut
    have haI : (A : Int) ≤ 300 := by omega
    have hfl : freeN l ≤ l.length := List.count_le_length
    have e1 : takeE l A = if (freeN l : Int) < A then 31 else 0 := by unfold takeE; rw [if_pos ⟨hr, by omega⟩]
    have r1 : takeE l A = 0 → takeR l A = (rowT l A, (tk l A l.length).2) := fun h => by unfold takeR; rw [if_pos h]; rfl
    have HT1 := Lib.hid (HT.out A)
    have hfI : (freeN l : Int) ≤ 300 := by omega
    clear HT
    by_cases h3 : freeN l < A
    · rw [if_pos (by omega)] at e1
      rw [e1] at HT1
      have h5 : (freeN l : Int) < A := by omega
      clear e1 r1 hfl hll h3 hr
      generalize freeN l = FN at *
      go_wp2_with fail
      refine (HT1.out _ HL4.out).mono ?_
      rintro e w6 ⟨v1, v2, rfl, _, _, hb6, _⟩
      have hw6 := hw4.trans (hb6.mono hw4.size)
      have HL6 := Lib.hid (HL4.out.below hb6)
      clear hw4 hb6
      go_wp2_with fail
      refine (roomAlive _).mono ?_
      rintro e w7 ⟨rfl, hb7⟩
      have hw7 := hw6.trans (hb7.mono hw6.size)
      go_wp2_with fail
      refine (HFR.out _ (HL6.out.below hb7)).mono ?_
      rintro e w8 ⟨rfl, rfl⟩
      go_wp2_with fail
      go_ret
      exact ⟨rfl, hw7⟩
    · rw [if_neg (by omega)] at e1
      rw [e1, r1 e1] at HT1
      have hrl := rowT_len l A
      have hrf := rowT_free_all l A
      have hcnt := tk_count l A l.length (Nat.le_refl _)
      rw [List.take_length] at hcnt
      have hPl : (tk l A l.length).2.length = A := by omega
      have HG : Hid (∀ (v v2 : Value) (q : List Nat) (u : World), q.Perm (tk l A l.length).2 → IsBools u v (rowT l A) → IsInts u v2 (q.map fun x : Nat => (x : Int)) → Calls Try.prog 15 #[v, v2] u (BoolsPost 0 l u)) := Lib.hid (fun v v2 q u hq hu hu2 => by
        have := roomGive_any v v2 (rowT l A) (q.map fun x : Nat => (x : Int)) u hu hu2
        rwa [(give_back l A hr q hq).1, (give_back l A hr q hq).2] at this)
      have HS := Lib.hid (tk_sorted l A l.length (Nat.le_refl _))
      have hmem : ∀ s ∈ (tk l A l.length).2, 54 ≤ s ∧ s < n ∧ l.getD s true = false ∧ (rowT l A).getD s true = true := fun s hs => by
        obtain ⟨a, b, c⟩ := (tk_mem l A s l.length (Nat.le_refl _)).1 hs
        refine ⟨?_, by omega, b, by rw [rowT_get l A s a, decide_eq_true c]; simp⟩
        rcases Nat.lt_or_ge s 54 with h | h
        · rw [first54 l hr s h] at b; cases b
        · exact h
      have HM := Lib.hid hmem
      have HFX := Lib.hid (fun v u hu => roomFree_any v (rowT l A) u hu)
      rw [hrf, show ((freeN l - A : Nat) : Int) = (freeN l : Int) - A from by omega] at HFX
      clear e1 r1 hfl h3 hr hcnt hmem hrf
      rw [hll] at hrl
      generalize freeN l = FN at *
      generalize rowT l A = X at *
      generalize (tk l A l.length).2 = P at *
      go_wp2_with fail
      refine (HT1.out _ HL4.out).mono ?_
      rintro e w6 ⟨v1, v2, rfl, hx, hp, hb6, np⟩
      have hw6 := hw4.trans (hb6.mono hw4.size)
      have HL6 := Lib.hid (HL4.out.below hb6)
      clear hw4 hb6 HL4 HT1
      have HX6 := Lib.hid hx; have HP6 := Lib.hid hp
      obtain ⟨p1, n1, c1, rfl, hl1, hc11, hc12, hat1⟩ := hx
      obtain ⟨p2, n2, c2, rfl, hl2, hc21, hc22, hat2⟩ := hp
      obtain rfl : n1 = n := hl1.symm.trans hrl
      obtain rfl : n2 = A := hl2.symm.trans hPl
      have HA1 := Lib.hid hat1; have HA2 := Lib.hid hat2
      clear hat1 hat2
      go_wp2_with fail
      refine (HFX.out _ _ HX6.out).mono ?_
      rintro e w7 ⟨rfl, rfl⟩
      go_wp2_with fail
      refine (HFR.out _ HL6.out).mono ?_
      rintro e w7 ⟨rfl, rfl⟩
      go_wp2_with fail
      go_upto_region 14 with fail
      have HL6a := Lib.hid HL6.out
      obtain ⟨p3, n3, c3, hv3, hl3, hc31, hc32, hat3⟩ := HL6a.out
      injection hv3 with hv3a hv3b hv3c
      subst hv3a hv3b hv3c
      have HA3 := Lib.hid hat3
      clear hat3
      go_loop [83] (fun z => ∃ i : Nat, i ≤ n2 ∧ z = .int .i64 i) (fun z => n2 - (intOf z).toNat)
      case atStart => exact ⟨0, by omega, rfl⟩
      case round =>
        obtain ⟨i, hi, rfl⟩ := hrel
        by_cases hlt : i < n2
        · have hltI : (i : Int) < n2 := by omega
          have hiP : i < P.length := by omega
          obtain ⟨h54, hsn, hlf, hxt⟩ := HM.out P[i] (List.getElem_mem hiP)
          obtain ⟨b2, off2, rfl, _, hat2⟩ := HA2.out.resolve_left (by omega)
          obtain ⟨b1, off1, rfl, _, hat1⟩ := HA1.out.resolve_left (by omega)
          obtain ⟨b3, off3, rfl, _, hat3⟩ := HA3.out.resolve_left (by omega)
          have hca := hat2 i hiP
          have hsX : P[i] < X.length := by omega
          have hsl : P[i] < l.length := by omega
          have hcx := hat1 P[i] hsX
          have hcl := hat3 P[i] hsl
          rw [show (X, P).1[P[i]] = true from by simpa [List.getD, hsX] using hxt] at hcx
          rw [show l[P[i]] = false from by simpa [List.getD, hsl] using hlf] at hcl
          have hat2' := Lib.hid hat2
          have hprev : ∀ j (hj : j < P.length), j < i → P[j] < P[i] := fun j hj hji => List.pairwise_iff_getElem.1 HS.out j i hj hiP hji
          have HPV := Lib.hid hprev
          clear hat1 hat2 hat3 hprev hlf hxt
          cases i with
          | zero =>
            change w6.cell? ⟨b2, off2 + 0, none⟩ = some (natV P[0]) at hca
            rw [Nat.add_zero] at hca
            unfold natV at hca
            generalize P[0] = s at *
            have h54I : (54 : Int) ≤ s := by omega
            have hsnI : (s : Int) < n1 := by omega
            clear h54 hsn
            go_wp2_with fail
            go_round
            case rel => exact ⟨1, by omega, by go_num⟩
            case measure => simp [intOf]; omega
          | succ i =>
            have hcb := hat2'.out i (by show i < P.length; omega)
            have hpv := HPV.out i (by omega) (by omega)
            have hiP2 : i < P.length := by omega
            change w6.cell? _ = some (natV P[i]) at hcb
            change w6.cell? _ = some (natV P[i + 1]) at hca
            unfold natV at hca hcb
            clear hat2' HPV
            generalize P[i + 1] = s at *
            generalize P[i] = t at *
            have hpvI : (t : Int) < s := by omega
            have h54I : (54 : Int) ≤ s := by omega
            have hsnI : (s : Int) < n1 := by omega
            have hi1 : ((i : Int) + 1 - 1) = i := by omega
            have hi2 : (((i + 1 : Nat) : Int) - 1) = i := by omega
            have hi3 : ((i + 1 : Nat) : Int) = (i : Int) + 1 := by omega
            have hi0 : (0 : Int) ≤ i := by omega
            clear h54 hsn hpv
            go_wp2_with fail
            go_round
            case rel => exact ⟨i + 1 + 1, by omega, by go_num⟩
            case measure => simp [intOf]; omega
        · obtain rfl : i = n2 := by omega
          have hints : IsInts w6 (.slice p2 i c2) (P.map fun x : Nat => (x : Int)) := ⟨nats_ints HP6.out, fun z hz => by
            obtain ⟨s, hs, rfl⟩ := List.mem_map.1 hz
            have := HM.out s hs
            omega⟩
          have HI := Lib.hid hints
          clear hints HS HF HR HL hlt hi HL6a HFX HA1 HA3
          go_upto_region 19 with fail
          by_cases hz : i = 0
          · subst hz
            have hg := HG.out _ _ P _ (List.Perm.refl _) HX6.out HI.out
            go_wp2_with fail
            refine hg.mono ?_
            rintro e w7 ⟨v3, rfl, hd, hb7⟩
            have hw7 := hw6.trans (hb7.mono hw6.size)
            have HD := Lib.hid hd
            have HL7 := Lib.hid (HL6.out.below hb7)
            clear hd hb7 hw6 hg
            go_wp2_with fail
            refine (roomAlive _).mono ?_
            rintro e w8 ⟨rfl, hb8⟩
            have hw8 := hw7.trans (hb8.mono hw7.size)
            go_wp2_with fail
            refine (refSame_any _ _ _ _ _ (HD.out.below hb8) (HL7.out.below hb8)).mono ?_
            rintro e w9 ⟨rfl, hb9⟩
            rw [decide_eq_true rfl]
            have hw9 := hw8.trans (hb9.mono hw8.size)
            go_wp2_with fail
            go_ret
            exact ⟨rfl, hw9⟩
          · have hi0 : (0 : Int) < i := by omega
            go_upto_region 21 with fail
            obtain ⟨B, hBe, hBi⟩ := rot_by by0 i (by omega) (by omega)
            rw [hBe]
            obtain ⟨b2, off2, rfl, hb2, hat2⟩ := HA2.out.resolve_left (by omega)
            obtain ⟨i0, hinf, hz0, hz1, hz2⟩ := info_parts infoInt
            have hB0 : (0 : Int) ≤ B := by omega
            have hBI : (B : Int) ≤ i := by omega
            have hcI : (i : Int) ≤ c2 := by omega
            have hBc : (B : Int) ≤ c2 := by omega
            have hcB : ¬ c2 = B := by omega
            have hcB2 : ¬ c2 - B = 0 := by omega
            have hb61 : Below w6.heap.size w6 (w6.alloc (.cells #[] 3)).drew := ((Below.refl w6.heap.size w6).alloc (Nat.le_refl _) (.cells #[] 3)).drew
            have hown0 : (w6.alloc (.cells #[] 3)).drew.ownsRow w6.heap.size 3 1 (.slice (some ⟨w6.heap.size, 0, none⟩) 0 0) 0 [] := World.ownsRow_made w6 #[] 0 (Nat.le_refl _) (by unfold maxLen; omega) rfl
            have hcell : ∀ j (h : j < P.length), w6.cell? ⟨b2, off2 + j, none⟩ = some (natV P[j]) := fun j h => hat2 j h
            have hs1 : Hid (∀ u, Below w6.heap.size w6 u → ∀ j x, ((P.drop B).map natV)[j]? = some x → u.cell? ((⟨b2, off2 + B, none⟩ : Addr).add j) = some x) := Lib.hid (fun u hu j x hj => by
              have hjl : j < (P.drop B).length := by have := (List.getElem?_eq_some_iff.1 hj).1; simpa using this
              rw [List.length_drop] at hjl
              rw [addr_add, Nat.add_assoc, hu.cell (p := ⟨b2, off2 + (B + j), none⟩) hb2, hcell (B + j) (by omega), ← hj]
              simp [show B + j < P.length by omega])
            have hs2 : Hid (∀ u, Below w6.heap.size w6 u → ∀ j x, ((P.take B).map natV)[j]? = some x → u.cell? ((⟨b2, off2, none⟩ : Addr).add j) = some x) := Lib.hid (fun u hu j x hj => by
              have hjl : j < (P.take B).length := by have := (List.getElem?_eq_some_iff.1 hj).1; simpa using this
              rw [List.length_take] at hjl
              rw [addr_add, hu.cell (p := ⟨b2, off2 + j, none⟩) hb2, hcell j (by omega), ← hj]
              simp [show j < B by omega, show j < P.length by omega])
            have HO := Lib.hid hown0; have HB61 := Lib.hid hb61
            clear hat2 hcell hown0 hb61 HA2 hz
            go_region_law (first
              | (refine step_extend (m := i - B) (c := c2 - B) (Operand.tmp 132) (Operand.tmp 135) 32 3 ((P.drop B).map natV) HO.out HB61.out (Nat.le_refl _) Try.underlying32 hinf hz0 hz1 hz2 rfl (by decide) (by rfl) (by rfl) (by rfl) (by rfl) (hs1.out _ HB61.out) (by rw [List.length_map, List.length_drop, Nat.mul_one, hPl]) (natV_one _) ⟨by omega, by omega⟩ ?_; clear HO HB61 hs1; intro v8 w8 hown8 hb8)
              | (refine step_extend (m := B) (c := c2) (Operand.tmp 136) (Operand.tmp 139) 32 3 ((P.take B).map natV) hown8 hb8 (Nat.le_refl _) Try.underlying32 hinf hz0 hz1 hz2 rfl (by decide) (by rfl) (by rfl) (by rfl) (by rfl) (hs2.out _ hb8) (by rw [List.length_map, List.length_take, Nat.mul_one, hPl]; omega) (natV_one _) ⟨by omega, by omega⟩ ?_; clear hown8 hb8 hs2; intro v9 w9 hown9 hb9))
            rw [List.nil_append, ← List.map_append] at hown9
            have hperm : (P.drop B ++ P.take B).Perm P := by
              have := List.perm_append_comm (l₁ := P.drop B) (l₂ := P.take B)
              rwa [List.take_append_drop] at this
            have hlr : (P.drop B ++ P.take B).length = 0 + (i - B) + B := by rw [hperm.length_eq]; omega
            have hrd := own_reads1 hown9 hlr
            have hints : IsInts w9 v9 ((P.drop B ++ P.take B).map fun x : Nat => (x : Int)) := ⟨nats_ints hrd, fun z hz => by
              obtain ⟨s, hs, rfl⟩ := List.mem_map.1 hz
              have := HM.out s (hperm.mem_iff.1 hs)
              omega⟩
            have hw9 := hw6.trans (hb9.mono hw6.size)
            have HX9 := Lib.hid (HX6.out.below hb9)
            have HL9 := Lib.hid (HL6.out.below hb9)
            have hg := HG.out _ _ _ _ hperm HX9.out hints
            have HGG := Lib.hid hg
            clear hg hints hrd hlr hperm hown9 hb9 hw6 HI HP6 HX6 HL6 HM HG
            go_wp2_with fail
            refine HGG.out.mono ?_
            rintro e w10 ⟨v3, rfl, hd, hb10⟩
            have hw10 := hw9.trans (hb10.mono hw9.size)
            have HD := Lib.hid hd
            have HL10 := Lib.hid (HL9.out.below hb10)
            clear hd hb10 hw9
            go_wp2_with fail
            refine (roomAlive _).mono ?_
            rintro e w11 ⟨rfl, hb11⟩
            have hw11 := hw10.trans (hb11.mono hw10.size)
            go_wp2_with fail
            refine (refSame_any _ _ _ _ _ (HD.out.below hb11) (HL10.out.below hb11)).mono ?_
            rintro e w12 ⟨rfl, hb12⟩
            rw [decide_eq_true rfl]
            have hw12 := hw11.trans (hb12.mono hw11.size)
            go_wp2_with fail
            go_ret
            exact ⟨rfl, hw12⟩
end Go.Proofs.Ytdpmdbloopmpdaa.lawRoomBack
