/- Which conditions hold: the walk. -/
import Derived.Test.YtgcngmlndijppaaMean3
namespace Go.Proofs.Ytgcngmlndijppaa
open Go.RowKit Go.ChangeShapes
set_option linter.unusedVariables false

set_option maxRecDepth 100000 in
set_option maxHeartbeats 4000000 in
theorem mnHolds : ∀ (N : Nat) (c : Cnd), c.size ≤ N → c.fine = true → ∀ (v : Value) (w : World) (x : Cal), x.ok → ∀ r, IsCnd w v c → HoldsMap strKeys w r signM →
    Calls Try.prog 24 #[v, x.value, .map (some r)] w fun e w' => e = .returned (.bool (c.holds x.args)) ∧ Below w.heap.size w w' := by
  intro N
  induction N with
  | zero => intro c h; rw [c.size_eq] at h; omega
  | succ N ih =>
    intro c hsz hfine v w x hx r h hm
    obtain ⟨hb, k, rfl, hk⟩ := h
    obtain ⟨ka, kn, kc, rfl, hkn, hkc, hkm, _⟩ := id hk
    rw [c.fine_eq, Bool.and_eq_true] at hfine
    obtain ⟨hal, hfk⟩ := hfine
    rw [c.size_eq] at hsz
    have hHE := c.holds_eq x.args
    have hkid : ∀ j, j < kn → (c.kids.getD j cndZ).size ≤ N ∧ (c.kids.getD j cndZ).fine = true := fun j hj => ⟨by have := size_kid c.kids j (by omega); omega, fines_get c.kids j (by omega) hfk⟩
    have hall := any_nots x.args c.kids
    have hany := any_holds x.args c.kids
    rw [hkn] at hall hany
    have hH1 : c.kind = 1 → c.holds x.args = allH x.args c.kids := fun h => by rw [hHE, if_pos h]
    have hH2 : c.kind = 2 → c.holds x.args = anyH x.args c.kids := fun h => by rw [hHE, if_neg (by omega), if_pos h]
    have hH3 : c.kind = 3 → c.holds x.args = !(anyH x.args c.kids) := fun h => by rw [hHE, if_neg (by omega), if_neg (by omega), if_pos h]
    have hH4 : c.kind = 4 → c.holds x.args = signV c.sign (x.args.getD c.arg.toNat 0 &&& c.mask) c.value := fun h => by rw [hHE, if_neg (by omega), if_neg (by omega), if_neg (by omega)]
    have hK : c.kind = 1 ∨ c.kind = 2 ∨ (c.kind = 3 ∧ kn = 1) ∨ (c.kind = 4 ∧ 0 ≤ c.arg ∧ c.arg ≤ 5 ∧ signOk c.sign = true) := by
      unfold Cnd.alone at hal
      split at hal
      · rename_i h4
        simp only [Bool.and_eq_true, decide_eq_true_eq] at hal
        exact .inr (.inr (.inr ⟨h4, hal.1.1.1, hal.1.1.2, hal.1.2⟩))
      split at hal
      · rename_i h12
        rcases h12 with h | h
        · exact .inl h
        · exact .inr (.inl h)
      split at hal
      · rename_i h3
        simp only [Bool.and_eq_true, decide_eq_true_eq] at hal
        exact .inr (.inr (.inl ⟨h3, by omega⟩))
      · cases hal
    obtain ⟨R, hR⟩ : ∃ R, c.holds x.args = R := ⟨_, rfl⟩
    rw [hR] at hH1 hH2 hH3 hH4 ⊢
    have hmk : c.mask ≤ 18446744073709551615 := hb.2.2.1
    obtain ⟨nr, arch, ip, args⟩ := x
    obtain ⟨x1, x2, x3, x4, x5⟩ := hx
    have hxo : (Cal.mk nr arch ip args).ok := ⟨x1, x2, x3, x4, x5⟩
    dsimp only at x4 x5 hall hany hH1 hH2 hH3 hH4
    match args, x4 with
    | [a0, a1, a2, a3, a4, a5], _ =>
    have hih := fun (c : Cnd) h1 h2 v u hI hM => ih c h1 h2 v u ⟨nr, arch, ip, [a0, a1, a2, a3, a4, a5]⟩ hxo r hI hM
    have HIH := Lib.hid hih; have HH1 := Lib.hid hH1; have HH2 := Lib.hid hH2; have HH3 := Lib.hid hH3; have HH4 := Lib.hid hH4; have HKID := Lib.hid hkid; have HALL := Lib.hid hall; have HANY := Lib.hid hany; have HKK := Lib.hid hK; have HX5 := Lib.hid x5; have HMK := Lib.hid hmk
    clear ih hih hH1 hH2 hH3 hH4 hkid hall hany hK hR hHE hal hfk hsz hkc hkm x1 x2 x3 x5 hxo hb hmk
    show Calls _ _ #[.agg #[.int .i64 c.kind, .slice ka kn kc, .int .i64 c.arg, .int .u64 (c.mask : Nat), .string c.sign, .int .u64 (c.value : Nat)], .agg #[.int .u32 (nr : Nat), .int .u32 (arch : Nat), .int .u64 (ip : Nat), .int .u64 (a0 : Nat), .int .u64 (a1 : Nat), .int .u64 (a2 : Nat), .int .u64 (a3 : Nat), .int .u64 (a4 : Nat), .int .u64 (a5 : Nat)], .map (some r)] _ _
    obtain ⟨kind, kids, arg, mask, sign, value⟩ := c
    simp only [Cnd.kind, Cnd.arg, Cnd.mask, Cnd.sign, Cnd.value, Cnd.kids] at *
    obtain ⟨W, hW, f0, f1, f2, f3, hBW⟩ := four w (.cells #[.int .i64 kind, .slice ka kn kc, .int .i64 arg, .int .u64 (mask : Nat), .string sign, .int .u64 (value : Nat)] 25) (.cells #[.int .u32 (nr : Nat), .int .u32 (arch : Nat), .int .u64 (ip : Nat), .int .u64 (a0 : Nat), .int .u64 (a1 : Nat), .int .u64 (a2 : Nat), .int .u64 (a3 : Nat), .int .u64 (a4 : Nat), .int .u64 (a5 : Nat)] 29) (.cells #[.map (some r)] 55) (.cells #[.func (.func 33) #[] #[.pointer (some ⟨w.heap.size + 1, 0, none⟩), .pointer (some ⟨w.heap.size + 1 + 1, 0, none⟩)]] 42)
    have hIW : IsCnds W (.slice ka kn kc) kids := hk.below hBW
    have hMW : ∀ u, Below W.heap.size W u → HoldsMap strKeys u r signM := fun u hu => hm.of_block ((hu.block r (Nat.lt_of_lt_of_le hm.lt hBW.size)).trans (hBW.block r hm.lt))
    have hsz : w.heap.size ≤ W.heap.size := hBW.size
    have hone : ∀ (c : Cnd) (k2 : Option Addr) (n2 c2 : Nat) (u : World), Below W.heap.size W u → c.size ≤ N → c.fine = true → IsCnd u (cndV c (.slice k2 n2 c2)) c →
        Calls Try.prog 33 #[cndV c (.slice k2 n2 c2), .pointer (some ⟨w.heap.size + 1, 0, none⟩), .pointer (some ⟨w.heap.size + 1 + 1, 0, none⟩)] u fun e w' => e = .returned (.bool (c.holds [a0, a1, a2, a3, a4, a5])) ∧ Below u.heap.size u w' :=
      fun c k2 n2 c2 u hu hs hf hI => hold1 u _ _ r c k2 n2 c2 nr arch ip a0 a1 a2 a3 a4 a5 ((hu.block _ (lt_of_block f1)).trans f1) ((hu.block _ (lt_of_block f2)).trans f2) _ fun u' hu' => HIH.out c hs hf _ u' (hI.below hu') (hMW u' (hu.trans (hu'.mono hu.size)))
    have hnot : ∀ (c : Cnd) (k2 : Option Addr) (n2 c2 : Nat) (u : World), Below W.heap.size W u → c.size ≤ N → c.fine = true → IsCnd u (cndV c (.slice k2 n2 c2)) c →
        Calls Try.prog 34 #[cndV c (.slice k2 n2 c2), .pointer (some ⟨w.heap.size + 1 + 1 + 1, 0, none⟩)] u fun e w' => e = .returned (.bool (!(c.holds [a0, a1, a2, a3, a4, a5]))) ∧ Below u.heap.size u w' :=
      fun c k2 n2 c2 u hu hs hf hI => hold2 u _ _ _ c k2 n2 c2 ((hu.block _ (lt_of_block f3)).trans f3) _ fun u' hu' => hone c k2 n2 c2 u' (hu.trans (hu'.mono hu.size)) hs hf (hI.below hu')
    have cnot := contains_not W ka kn kc kids hIW (w.heap.size + 1 + 1 + 1) (fun j => !((kids.getD j cndZ).holds [a0, a1, a2, a3, a4, a5])) (fun j hj u hu k2 hI => by
      obtain ⟨a, n, m, rfl⟩ := cndV_slice hI
      exact hnot _ a n m u hu (HKID.out j hj).1 (HKID.out j hj).2 hI)
    have cone := contains_one W ka kn kc kids hIW (w.heap.size + 1) (w.heap.size + 1 + 1) (fun j => ((kids.getD j cndZ).holds [a0, a1, a2, a3, a4, a5])) (fun j hj u hu k2 hI => by
      obtain ⟨a, n, m, rfl⟩ := cndV_slice hI
      exact hone _ a n m u hu (HKID.out j hj).1 (HKID.out j hj).2 hI)
    rw [HALL.out] at cnot
    rw [HANY.out] at cone
    have hkid0 : kn = 1 → (kids.getD 0 cndZ).holds [a0, a1, a2, a3, a4, a5] = anyH [a0, a1, a2, a3, a4, a5] kids := fun h => by
      have := HANY.out
      rw [h] at this
      rw [← this]; simp [List.range_succ]
    have hload := fun j hj => kid_load hIW (Below.refl _ W) rfl j hj
    have g0 := below_cell (Below.refl _ W) f0 0 rfl
    have g1 := below_cell (Below.refl _ W) f0 1 rfl
    have g2 := below_cell (Below.refl _ W) f0 2 rfl
    have g3 := below_cell (Below.refl _ W) f0 3 rfl
    have g4 := below_cell (Below.refl _ W) f0 4 rfl
    have g5 := below_cell (Below.refl _ W) f0 5 rfl
    have g6 := below_cell (Below.refl _ W) f3 0 rfl
    have HNOT := Lib.hid hnot; have CNOT := Lib.hid cnot; have CONE := Lib.hid cone; have HK0 := Lib.hid hkid0; have HLOAD := Lib.hid hload; have HMW := Lib.hid hMW; have HSZ := Lib.hid hsz; have F0 := Lib.hid f0; have F1 := Lib.hid f1; have HBW := Lib.hid hBW; have HIW := Lib.hid hIW; have F2 := Lib.hid f2
    clear hnot cnot cone hkid0 hload hMW hsz hone hIW f2 f3
    go_enter Try.func24, Try.ntmps24
    go_upto_region 3 with fail
    rw [← hW]
    clear hW hk hkn hm
    rcases HKK.out with rfl | rfl | ⟨rfl, rfl⟩ | ⟨rfl, ha0, ha5, hsg⟩
    · have hR := HH1.out rfl
      have hcc := CNOT.out
      rw [← hR] at hcc
      have HCC := Lib.hid hcc
      clear hcc hR CNOT CONE HNOT HIH HH1 HH2 HH3 HH4 HALL HANY HKK HLOAD HK0 HKID HMW
      go_wp2_with fail
      refine HCC.out.mono ?_
      rintro e w2 ⟨rfl, hb2⟩
      have HB2 := Lib.hid (HBW.out.trans (hb2.mono HSZ.out))
      clear hb2 HCC hBW g0 g1 g2 g3 g4 g5
      go_wp2_with fail
      go_ret
      exact ⟨rfl, HB2.out⟩
    · have hR := HH2.out rfl
      have hcc := CONE.out
      rw [← hR] at hcc
      have HCC := Lib.hid hcc
      clear hcc hR CNOT CONE HNOT HIH HH1 HH2 HH3 HH4 HALL HANY HKK HLOAD HK0 HKID HMW
      go_wp2_with fail
      refine HCC.out.mono ?_
      rintro e w2 ⟨rfl, hb2⟩
      have HB2 := Lib.hid (HBW.out.trans (hb2.mono HSZ.out))
      clear hb2 HCC hBW g0 g1 g2 g3 g4 g5
      go_wp2_with fail
      go_ret
      exact ⟨rfl, HB2.out⟩
    · have hR := HH3.out rfl
      rw [← HK0.out rfl] at hR
      obtain ⟨b, o, k2, rfl, ⟨a2', n2, c2, rfl⟩, hI, hcell⟩ := HLOAD.out 0 (by omega)
      have hkd := HKID.out 0 (by omega)
      have hcall := HNOT.out (kids.getD 0 cndZ) a2' n2 c2 W (Below.refl _ W) hkd.1 hkd.2 hI
      rw [← hR] at hcall
      have e0 := hcell 0 _ rfl
      have e1 := hcell 1 _ rfl
      have e2 := hcell 2 _ rfl
      have e3 := hcell 3 _ rfl
      have e4 := hcell 4 _ rfl
      have e5 := hcell 5 _ rfl
      simp only [Nat.zero_mul, Nat.add_zero] at e0 e1 e2 e3 e4 e5
      have HC := Lib.hid hcall
      clear hcall hI hcell hR hkd CNOT CONE HNOT HIH HH1 HH2 HH3 HH4 HALL HANY HKK HLOAD HK0 HKID HMW HIW
      generalize kids.getD 0 cndZ = cc at *
      obtain ⟨kind2, kids2, arg2, mask2, sign2, value2⟩ := cc
      unfold cndV at HC
      simp only [Cnd.kind, Cnd.arg, Cnd.mask, Cnd.sign, Cnd.value] at e0 e1 e2 e3 e4 e5 HC
      go_wp2_with fail
      refine HC.out.mono ?_
      rintro e w2 ⟨rfl, hb2⟩
      have HB2 := Lib.hid (HBW.out.trans (hb2.mono HSZ.out))
      clear hb2 HC hBW g0 g1 g2 g3 g4 g5 e0 e1 e2 e3 e4 e5
      go_wp2_with fail
      go_ret
      exact ⟨rfl, HB2.out⟩
    · have hR := HH4.out rfl
      clear CNOT CONE HNOT HIH HH1 HH2 HH3 HH4 HALL HANY HKK HLOAD HK0 HKID HIW
      obtain ⟨j, rfl⟩ : ∃ j : Nat, arg = (j : Int) := ⟨arg.toNat, by omega⟩
      have hj5 : j ≤ 5 := by omega
      rw [Int.toNat_natCast] at hR
      obtain ⟨aj, haj⟩ : ∃ aj, [a0, a1, a2, a3, a4, a5].getD j 0 = aj := ⟨_, rfl⟩
      have hajle : aj ≤ 18446744073709551615 := by
        rw [← haj, List.getD_eq_getElem?_getD, List.getElem?_eq_getElem (by simp; omega)]
        exact HX5.out _ (List.getElem_mem _)
      rw [haj] at hR
      have hcx : (#[Value.int .u32 (nr : Nat), .int .u32 (arch : Nat), .int .u64 (ip : Nat), .int .u64 (a0 : Nat), .int .u64 (a1 : Nat), .int .u64 (a2 : Nat), .int .u64 (a3 : Nat), .int .u64 (a4 : Nat), .int .u64 (a5 : Nat)] : Array Value)[3 + j]? = some (.int .u64 (aj : Nat)) := by
        rw [← haj]
        rcases (by omega : j = 0 ∨ j = 1 ∨ j = 2 ∨ j = 3 ∨ j = 4 ∨ j = 5) with rfl | rfl | rfl | rfl | rfl | rfl <;> rfl
      have kA := fun (x : KeepT W) => keep_at F1.out (3 + j) hcx x
      have kM := fun (x : KeepT W) => keep_at F2.out 0 rfl x
      have k2 := fun (x : KeepT W) => keep_at F0.out 2 rfl x
      have k3 := fun (x : KeepT W) => keep_at F0.out 3 rfl x
      have k4 := fun (x : KeepT W) => keep_at F0.out 4 rfl x
      have k5 := fun (x : KeepT W) => keep_at F0.out 5 rfl x
      have hand := and_u64n aj mask hajle HMK.out
      obtain ⟨am, ham⟩ : ∃ am, aj &&& mask = am := ⟨_, rfl⟩
      rw [ham] at hand hR
      have hjI : (j : Int) < 6 := by omega
      have hlk := fun (x : KeepT W) v hv => (HMW.out x.val x.below).look (P := Try.prog) (t := 55) (kt := 9) (et := 63) (v := v) sign rfl rfl hv
      simp only [strKeys] at hlk
      have hbW := Below.refl W.heap.size W
      have HLK := Lib.hid hlk; have HR := Lib.hid hR
      clear hlk hR hcx haj ha0 ha5 hajle ham hBW HX5 HMK HMW
      go_upto_region 4 with fail
      rcases signs6 sign hsg with ⟨rfl, hv⟩ | ⟨rfl, hv⟩ | ⟨rfl, hv⟩ | ⟨rfl, hv⟩ | ⟨rfl, hv⟩ | ⟨rfl, hv⟩
      · have hlk := fun x => HLK.out x _ (show signM sGe = some _ from rfl)
        have hR := HR.out
        rw [hv] at hR
        have HV := Lib.hid hR
        clear hv hR HLK HR hsg
        refine wp_region_keep (w0 := W) (by kernel_rfl) (by kernel_rfl) hbW ?_
        repeat (go_big_quiet_step ((first | (go_at_call 41; exact keepSame (sign6 am value _)))))
        refine wpQuiet_nil ?_
        rintro w2 ⟨x, rfl⟩
        have HB2 := Lib.hid (HBW.out.trans (x.below.mono HSZ.out))
        generalize x.val = w2 at *
        go_wp2_with fail
        go_ret
        exact ⟨by rw [HV.out]; rfl, HB2.out⟩
      · have hlk := fun x => HLK.out x _ (show signM sGt = some _ from rfl)
        have hR := HR.out
        rw [hv] at hR
        have HV := Lib.hid hR
        clear hv hR HLK HR hsg
        refine wp_region_keep (w0 := W) (by kernel_rfl) (by kernel_rfl) hbW ?_
        repeat (go_big_quiet_step ((first | (go_at_call 40; exact keepSame (sign5 am value _)))))
        refine wpQuiet_nil ?_
        rintro w2 ⟨x, rfl⟩
        have HB2 := Lib.hid (HBW.out.trans (x.below.mono HSZ.out))
        generalize x.val = w2 at *
        go_wp2_with fail
        go_ret
        exact ⟨by rw [HV.out]; rfl, HB2.out⟩
      · have hlk := fun x => HLK.out x _ (show signM sLe = some _ from rfl)
        have hR := HR.out
        rw [hv] at hR
        have HV := Lib.hid hR
        clear hv hR HLK HR hsg
        refine wp_region_keep (w0 := W) (by kernel_rfl) (by kernel_rfl) hbW ?_
        repeat (go_big_quiet_step ((first | (go_at_call 39; exact keepSame (sign4 am value _)))))
        refine wpQuiet_nil ?_
        rintro w2 ⟨x, rfl⟩
        have HB2 := Lib.hid (HBW.out.trans (x.below.mono HSZ.out))
        generalize x.val = w2 at *
        go_wp2_with fail
        go_ret
        exact ⟨by rw [HV.out]; rfl, HB2.out⟩
      · have hlk := fun x => HLK.out x _ (show signM sLt = some _ from rfl)
        have hR := HR.out
        rw [hv] at hR
        have HV := Lib.hid hR
        clear hv hR HLK HR hsg
        refine wp_region_keep (w0 := W) (by kernel_rfl) (by kernel_rfl) hbW ?_
        repeat (go_big_quiet_step ((first | (go_at_call 38; exact keepSame (sign3 am value _)))))
        refine wpQuiet_nil ?_
        rintro w2 ⟨x, rfl⟩
        have HB2 := Lib.hid (HBW.out.trans (x.below.mono HSZ.out))
        generalize x.val = w2 at *
        go_wp2_with fail
        go_ret
        exact ⟨by rw [HV.out]; rfl, HB2.out⟩
      · have hlk := fun x => HLK.out x _ (show signM sNe = some _ from rfl)
        have hR := HR.out
        rw [hv] at hR
        have HV := Lib.hid hR
        clear hv hR HLK HR hsg
        refine wp_region_keep (w0 := W) (by kernel_rfl) (by kernel_rfl) hbW ?_
        repeat (go_big_quiet_step ((first | (go_at_call 37; exact keepSame (sign2 am value _)))))
        refine wpQuiet_nil ?_
        rintro w2 ⟨x, rfl⟩
        have HB2 := Lib.hid (HBW.out.trans (x.below.mono HSZ.out))
        generalize x.val = w2 at *
        go_wp2_with fail
        go_ret
        exact ⟨by rw [HV.out]; rfl, HB2.out⟩
      · have hlk := fun x => HLK.out x _ (show signM sEq = some _ from rfl)
        have hR := HR.out
        rw [hv] at hR
        have HV := Lib.hid hR
        clear hv hR HLK HR hsg
        refine wp_region_keep (w0 := W) (by kernel_rfl) (by kernel_rfl) hbW ?_
        repeat (go_big_quiet_step ((first | (go_at_call 36; exact keepSame (sign1 am value _)))))
        refine wpQuiet_nil ?_
        rintro w2 ⟨x, rfl⟩
        have HB2 := Lib.hid (HBW.out.trans (x.below.mono HSZ.out))
        generalize x.val = w2 at *
        go_wp2_with fail
        go_ret
        exact ⟨by rw [HV.out]; rfl, HB2.out⟩
end Go.Proofs.Ytgcngmlndijppaa
