/- The walk of RoomTwice. -/
import Derived.Test.YtbndhegmfnfahaaRoomMath
import Derived.Test.YtbndhegmfnfahaaRoomI
import Derived.Outline
namespace Go.Proofs.Ytbndhegmfnfahaa.lawRoomTwice
open Go.RowKit
set_option linter.unusedVariables false

/-- 's = append(s, t...)' behind a guard that holds. -/
theorem wpList_extendG {P : Program} {ops : Array Oper} {rest : List Oper} {o : Oper} {a : Act} {Q : Exit → Act → World → Prop} {w w0 : World}
    (s x : Operand) (t : TypeId) (e : TypeId) {i : TypeInfo} {z : Value} {size bytes m c : Nat} {base : Nat} {v : Value} {n : Nat} {xs : List Value} {A : Option Addr} (news : List Value)
    (hown : w.ownsRow base e size v n xs) (hbel : Below base w0 w) (hbase : base ≤ w0.heap.size)
    (ht : P.underlying t = some (.slice e)) (hi : P.info? e = some i) (hz : i.zero = some z)
    (hsize : i.size = size) (hby : i.bytes = bytes) (hzs : z.cells.size = size) (hsz : 0 < size)
    (hw : Region.wanted o (yielded ops a.tmps) = true) (ho : o.op = .call { callee := .builtin .append, args := #[s, x], argTypes := #[t, t] })
    (hs : a.eval s = v) (hx : a.eval x = .slice A m c)
    (hA : (A = none ∧ m = 0 ∧ c = 0 ∧ news = []) ∨ ∃ ad, A = some ad ∧ ∀ j u, news[j]? = some u → w.cell? (ad.add j) = some u)
    (hl : news.length = m * size) (h1 : ∀ u ∈ news, u.oneCell' = true)
    (hroom : n + m ≤ 17592186044416 ∧ (n + m) * bytes ≤ 140737488355328)
    (h : ∀ v' w', w'.ownsRow base e size v' (n + m) (xs ++ news) → Below base w0 w' → wpList P ops Q rest (a.put o.dst v') w') :
    wpList P ops Q (o :: rest) a w := by
  refine wpList_step fun K hK => ?_
  simp only [hw, if_true]
  rcases hA with ⟨rfl, rfl, rfl, rfl⟩ | ⟨ad, rfl, hc⟩
  · have hrun := run_append_owned_none (P := P) (w := w) base t o.type e i size ht hi v n xs hown
    have hn := hK _ _ (h v w (by rw [List.append_nil]; exact hown) hbel)
    unfold Oper.wp
    simp [execOp, ho, resolve, invoke, builtin, hs, hx, hrun, Result.andThen]
    exact hn
  · exact wp_append_own w s x t ho base e i z size bytes ht hi hz hsize hby hzs hsz v n xs hs hown ad m c news hx hl hc h1 (by unfold maxLen; omega) hroom.2 (Nat.le_trans hbase hbel.size)
      fun v' w' h2 h3 _ => hK _ _ (h v' w' h2 (hbel.grown h3 (Nat.le_trans hbase hbel.size) (fun k hk => (hown.lt k hk).1)))
theorem natV_one (l : List Nat) : ∀ u ∈ l.map natV, u.oneCell' = true := by
  intro u hu
  obtain ⟨k, _, rfl⟩ := List.mem_map.1 hu
  rfl

def clampN (n : Int) : Nat := (min (max n 0) 300).toNat
theorem clampN_eq (n : Int) : min (max n 0) 300 = clampN n := by unfold clampN; omega
theorem clampN_le (n : Int) : clampN n ≤ 300 := by unfold clampN; omega

set_option maxRecDepth 100000 in
set_option maxHeartbeats 1000000 in
theorem walk (v0 : Value) (l0 : List Bool) (a b : Int) (w : World) (w0 : IsBools w v0 l0) (w1 : (Lit.int .i64 a).wf = true) (w2 : (Lit.int .i64 b).wf = true) :
    Calls Try.prog 11 #[v0, .int .i64 a, .int .i64 b] w fun e w' => e = .returned (.bool true) ∧ Below w.heap.size w w' := by
  have hwa := wf_i64 w1
  have hwb := wf_i64 w2
  obtain ⟨p, len, cap, rfl, hlen, hc1, hc2, htk⟩ := w0.take
  have hl := htk (min len 300) (Nat.min_le_left _ _)
  have HF := Lib.hid (fun u => roomFew_at p len cap u hc1 hc2)
  generalize min len 300 = n at *
  generalize l0.take n = l at *
  have HL := Lib.hid hl
  obtain ⟨am, ha1⟩ : ∃ am : Nat, (if a < 0 then 0 else a) = (am : Int) := ⟨(max a 0).toNat, by split <;> omega⟩
  obtain ⟨bm, hb1⟩ : ∃ bm : Nat, (if b < 0 then 0 else b) = (bm : Int) := ⟨(max b 0).toNat, by split <;> omega⟩
  obtain ⟨A, ha2, _, haI, hA2⟩ := min_if am 300 (by omega)
  obtain ⟨B, hb2, _, hbI, hB2⟩ := min_if bm 300 (by omega)
  clear hA2 hB2
  have HR := Lib.hid (fun u hu => refRight_any (.slice p n cap) l u hu)
  have HT := Lib.hid (fun (m : Int) u hu => roomTake_any (.slice p n cap) l m u hu)
  have HFR := Lib.hid (fun u hu => roomFree_any (.slice p n cap) l u hu)
  clear hl htk w0 w1 w2 hlen
  go_enter Try.func11, Try.ntmps11
  go_wp2_with fail
  refine (HF.out _).mono ?_
  rintro e w' ⟨rfl, rfl⟩
  go_wp2_with fail
  refine (HR.out _ HL.out).mono ?_
  rintro e w' ⟨rfl, rfl⟩
  cases hr : rightB l
  · clear hr
    go_wp2_with fail
    refine (roomAlive _).mono ?_
    rintro e w2 ⟨rfl, hw2⟩
    go_wp2_with fail
    go_ret
    exact ⟨rfl, hw2⟩
  · have hfl : freeN l ≤ l.length := List.count_le_length
    have hll := rightB_len hr
    have e1 : takeE l A = if (freeN l : Int) < A then 31 else 0 := by unfold takeE; rw [if_pos ⟨hr, by omega⟩]
    have e2 : takeE l (A + B) = if (freeN l : Int) < A + B then 31 else 0 := by unfold takeE; rw [if_pos ⟨hr, by omega⟩]
    have r1 : takeE l A = 0 → takeR l A = (rowT l A, (tk l A l.length).2) := fun h => by unfold takeR; rw [if_pos h]; rfl
    have r2 : takeE l (A + B) = 0 → takeR l (A + B) = (rowT l (A + B), (tk l (A + B) l.length).2) := fun h => by
      unfold takeR; rw [if_pos h, show ((A : Int) + B).toNat = A + B from by omega]; rfl
    have hfI : (freeN l : Int) ≤ 256 := by omega
    have HT1 := Lib.hid (HT.out A)
    have HT2 := Lib.hid (HT.out (A + B))
    have h3 : freeN l < A ∨ (A ≤ freeN l ∧ freeN l < A + B) ∨ A + B ≤ freeN l := by omega
    rcases h3 with h3 | ⟨h3, h4⟩ | h3
    · rw [if_pos (by omega)] at e1
      rw [if_pos (by omega)] at e2
      rw [e1] at HT1
      rw [e2] at HT2
      have h5 : (freeN l : Int) < A + B := by omega
      clear e1 e2 r1 r2 hfl hll h3 hr
      generalize freeN l = FN at *
      go_wp2_with fail
      refine (HT1.out _ HL.out).mono ?_
      rintro e w2 ⟨v1, v2, rfl, _, _, hw2, _⟩
      go_wp2_with fail
      refine (HT2.out _ (HL.out.below hw2)).mono ?_
      rintro e w3 ⟨v3, v4, rfl, _, _, hb3, _⟩
      have hw3 := hw2.trans (hb3.mono hw2.size)
      clear hw2 hb3
      go_wp2_with fail
      refine (keep hw3 (roomAlive _)).mono ?_
      rintro e w4 ⟨rfl, hw4⟩
      go_wp2_with fail
      refine (HFR.out _ (HL.out.below hw4)).mono ?_
      rintro e w5 ⟨rfl, rfl⟩
      go_wp2_with fail
      go_ret
      exact ⟨rfl, hw4⟩
    · rw [if_neg (by omega)] at e1
      rw [if_pos (by omega)] at e2
      rw [e1] at HT1
      rw [e2] at HT2
      have h5 : (freeN l : Int) < A + B := by omega
      clear e1 e2 r1 r2 hfl hll h3 h4 hr
      generalize freeN l = FN at *
      go_wp2_with fail
      refine (HT1.out _ HL.out).mono ?_
      rintro e w2 ⟨v1, v2, rfl, _, _, hw2, _⟩
      go_wp2_with fail
      refine (HT2.out _ (HL.out.below hw2)).mono ?_
      rintro e w3 ⟨v3, v4, rfl, _, _, hb3, _⟩
      have hw3 := hw2.trans (hb3.mono hw2.size)
      clear hw2 hb3
      go_wp2_with fail
      refine (keep hw3 (roomAlive _)).mono ?_
      rintro e w4 ⟨rfl, hw4⟩
      go_wp2_with fail
      refine (HFR.out _ (HL.out.below hw4)).mono ?_
      rintro e w5 ⟨rfl, rfl⟩
      go_wp2_with fail
      go_ret
      exact ⟨rfl, hw4⟩
    · rw [if_neg (by omega)] at e1
      rw [if_neg (by omega)] at e2
      have r1' := r1 e1
      have r2' := r2 e2
      rw [e1, r1'] at HT1
      rw [e2, r2'] at HT2
      have hxr := rowT_right l A hr
      have hxf := rowT_free_all l A
      have e3 : takeE (rowT l A) B = 0 := by unfold takeE; rw [if_pos ⟨hxr, by omega⟩, if_neg (by rw [hxf]; omega)]
      have r3 : takeR (rowT l A) B = (rowT l (A + B), (tk (rowT l A) B l.length).2) := by
        have : takeR (rowT l A) B = (rowT (rowT l A) B, (tk (rowT l A) B (rowT l A).length).2) := by unfold takeR; rw [if_pos e3]; rfl
        rw [this, rowT_twice, rowT_len]
      have hgot := got_twice l A B l.length (Nat.le_refl _)
      have hall := rowT_free_all l (A + B)
      have g1 := tk_few l A l.length
      have g2 := tk_few (rowT l A) B l.length
      have HX := Lib.hid (fun v u hu => roomTake_any v (rowT l A) B u hu)
      rw [e3, r3] at HX
      have HGOT := Lib.hid hgot; have HALL := Lib.hid hall
      have HFN := Lib.hid (fun v u hu => roomFree_any v (rowT l (A + B)) u hu)
      rw [hall] at HFN
      have h5 : ((freeN l - (A + B) : Nat) : Int) = (freeN l : Int) - A - B := by omega
      rw [h5] at HFN
      have G1 : (tk l A l.length).2.length ≤ 256 := by omega
      have G2 : (tk (rowT l A) B l.length).2.length ≤ 256 := by omega
      clear e1 e2 r1 r2 r1' r2' hfl hll hr hxr hxf e3 r3 hgot hall h5 g1 g2
      generalize freeN l = FN at *
      generalize rowT l (A + B) = Y at *
      generalize (tk (rowT l A) B l.length).2 = Q at *
      generalize (tk l A l.length).2 = P at *
      generalize (tk l (A + B) l.length).2 = R at *
      generalize rowT l A = X at *
      go_wp2_with fail
      refine (HT1.out _ HL.out).mono ?_
      rintro e w2 ⟨v1, v2, rfl, hx, hp, hw2, np⟩
      go_wp2_with fail
      refine (HT2.out _ (HL.out.below hw2)).mono ?_
      rintro e w3 ⟨v3, v4, rfl, hy, hq, hb3, nq⟩
      have hw3 := hw2.trans (hb3.mono hw2.size)
      have HX3 := Lib.hid (hx.below hb3); have HP3 := Lib.hid (hp.below hb3); have HY3 := Lib.hid hy; have HQ3 := Lib.hid hq
      clear hw2 hb3 hx hp hy hq
      go_wp2_with fail
      refine (HX.out _ _ HX3.out).mono ?_
      rintro e w4 ⟨v5, v6, rfl, hz, hr, hb4, nr⟩
      have hw4 := hw3.trans (hb4.mono hw3.size)
      have HP4 := Lib.hid (HP3.out.below hb4); have HY4 := Lib.hid (HY3.out.below hb4); have HQ4 := Lib.hid (HQ3.out.below hb4); have HZ4 := Lib.hid hz; have HR4 := Lib.hid hr
      clear hw3 hb4 HX3 HP3 HY3 HQ3 hz hr
      go_wp2_with fail
      refine (roomAlive _).mono ?_
      rintro e w5 ⟨rfl, hb5⟩
      have hw5 := hw4.trans (hb5.mono hw4.size)
      have HP5 := Lib.hid (HP4.out.below hb5); have HY5 := Lib.hid (HY4.out.below hb5); have HQ5 := Lib.hid (HQ4.out.below hb5); have HZ5 := Lib.hid (HZ4.out.below hb5); have HR5 := Lib.hid (HR4.out.below hb5)
      clear hw4 hb5 HP4 HY4 HQ4 HZ4 HR4
      go_wp2_with fail
      refine (refSame_any _ _ _ _ _ HZ5.out HY5.out).mono ?_
      rintro e w6 ⟨rfl, hb6⟩
      rw [decide_eq_true rfl]
      have hw6 := hw5.trans (hb6.mono hw5.size)
      have HP6 := Lib.hid (HP5.out.below hb6); have HY6 := Lib.hid (HY5.out.below hb6); have HQ6 := Lib.hid (HQ5.out.below hb6); have HR6 := Lib.hid (HR5.out.below hb6)
      clear hw5 hb6 HP5 HY5 HQ5 HZ5 HR5
      obtain ⟨p2, n2, c2, rfl, hl2, hc21, hc22, hat2⟩ := HP6.out
      obtain ⟨p6, n6, c6, rfl, hl6, hc61, hc62, hat6⟩ := HR6.out
      obtain ⟨i0, hinf, hz0, hz1, hz2⟩ := info_parts infoInt
      obtain rfl : n2 = P.length := hl2.symm
      obtain rfl : n6 = Q.length := hl6.symm
      clear hat2 hat6 hl2 hl6
      have hb60 := Below.refl w6.heap.size w6
      have hb61 := hb60.alloc (Nat.le_refl _) (.cells #[] 3)
      have hown0 : (w6.alloc (.cells #[] 3)).ownsRow w6.heap.size 3 1 (.slice (some ⟨w6.heap.size, 0, none⟩) 0 0) 0 [] := World.ownsRow_made w6 #[] 0 (Nat.le_refl _) (by unfold maxLen; omega) rfl
      have hs1 := (HP6.out.below hb61).source (fun h => np _ _ (by rw [h]))
      have HO := Lib.hid hown0; have HS1 := Lib.hid hs1; have HNR := Lib.hid nr
      clear hown0 hs1 np nq nr hb60
      go_wp2_with (first | (at_builtin; go_must (refine wpList_extendG _ _ 43 3 (P.map natV) HO.out hb61 (Nat.le_refl _) Try.underlying43 hinf hz0 hz1 hz2 rfl (by decide) rfl rfl rfl rfl HS1.out (by simp) (natV_one P) ?c2 ?_)))
      case c2 => omega
      intro v8 w8 hown8 hb8
      have hs2 := (HR6.out.below hb8).source (fun h => HNR.out _ _ (by rw [h]))
      have HO8 := Lib.hid hown8; have HS2 := Lib.hid hs2
      clear hown8 hs2 HO HS1 hb61
      go_wp2_with (first | (at_builtin; go_must (refine wpList_extendG _ _ 43 3 (Q.map natV) HO8.out hb8 (Nat.le_refl _) Try.underlying43 hinf hz0 hz1 hz2 rfl (by decide) rfl rfl rfl rfl HS2.out (by simp) (natV_one Q) ?c3 ?_)))
      case c3 => omega
      intro v9 w9 hown9 hb9
      rw [← List.map_append, HGOT.out] at hown9
      have hlr : P.length + Q.length = R.length := by rw [← HGOT.out, List.length_append]
      have hrd := own_reads1 hown9 hlr.symm
      have hw9 := hw6.trans (hb9.mono hw6.size)
      have hsi := refSameInts_any _ _ _ _ w9 hrd (HQ6.out.below hb9)
      rw [decide_eq_true rfl] at hsi
      have HSI := Lib.hid hsi
      have HY9 := Lib.hid (HY6.out.below hb9)
      clear hown9 hlr hrd hsi hb8 HO8 HS2 hw6 hb9
      go_wp2_with fail
      refine (HSI.out).mono ?_
      rintro e w10 ⟨rfl, hb10⟩
      have hw10 := hw9.trans (hb10.mono hw9.size)
      have HY10 := Lib.hid (HY9.out.below hb10)
      clear hb10 hw9
      go_wp2_with fail
      refine (HFN.out _ _ HY10.out).mono ?_
      rintro e w11 ⟨rfl, rfl⟩
      go_wp2_with fail
      refine (HFR.out _ (HL.out.below hw10)).mono ?_
      rintro e w11 ⟨rfl, rfl⟩
      go_wp2_with fail
      go_ret
      exact ⟨rfl, hw10⟩
end Go.Proofs.Ytbndhegmfnfahaa.lawRoomTwice
