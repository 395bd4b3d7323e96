/- The reference: bytes as a request. -/
import Derived.Test.YtmanlogclbbgaaaFr10
import Derived.Test.YtmanlogclbbgaaaFrN
import Derived.Test.YtmanlogclbbgaaaFr12
import Derived.Test.YtmanlogclbbgaaaRef02O
namespace Go.Proofs.Ytmanlogclbbgaaa
open Go.RowKit
set_option linter.unusedVariables false

/-- five fields, one behind the other, with an error or none -/
theorem seqQ (t : ByteArray) (e k p0 x0 p1 x1 no p2 x2 p3 x3 p4 x4 : Int) (n1 n2 n3 : ByteArray)
    (hk : nN t 0 e 1 = k) (hp0 : nT t 0 e 1 = p0) (hx0 : nE t 0 e 1 = x0)
    (hn1 : tS t p0 x0 = n1) (hp1 : tT t p0 x0 = p1) (hx1 : tE t p0 x0 = x1)
    (hno : nN t p1 x1 8 = no) (hp2 : nT t p1 x1 8 = p2) (hx2 : nE t p1 x1 8 = x2)
    (hn2 : tS t p2 x2 = n2) (hp3 : tT t p2 x2 = p3) (hx3 : tE t p2 x2 = x3)
    (hn3 : tS t p3 x3 = n3) (hp4 : tT t p3 x3 = p4) (hx4 : tE t p3 x3 = x4) :
    (x4 = 0 ∧ e = 0 ∧ ∃ r : Nat, prAsk t = some (⟨IntKind.i64.wrap k, n1, IntKind.i64.wrap no, n2, n3⟩, r) ∧ p4 = r) ∨ (x4 ≠ 0 ∧ (e ≠ 0 ∨ prAsk t = none)) := by
  by_cases he : e = 0
  case neg => exact .inr ⟨hx4 ▸ t_sticky _ _ _ (hx3 ▸ t_sticky _ _ _ (hx2 ▸ n_sticky _ _ _ _ (hx1 ▸ t_sticky _ _ _ (hx0 ▸ n_sticky _ _ _ _ he)))), .inl he⟩
  subst he
  by_cases c1 : 0 + 1 ≤ t.size
  case neg =>
    exact .inr ⟨hx4 ▸ t_sticky _ _ _ (hx3 ▸ t_sticky _ _ _ (hx2 ▸ n_sticky _ _ _ _ (hx1 ▸ t_sticky _ _ _ (hx0 ▸ n_bad t 0 1 c1)))), .inr (by unfold prAsk; rw [if_neg (by omega)])⟩
  obtain ⟨u1, u2, u3⟩ := n_ok t 0 1 (by omega) (by omega) c1
  have u1 : nN t 0 0 1 = (getL (cutL t 0 1) : Nat) := u1
  have u2 : nT t 0 0 1 = ((0 + 1 : Nat) : Int) := u2
  have u3 : nE t 0 0 1 = 0 := u3
  rw [u1] at hk; rw [u2] at hp0; rw [u3] at hx0
  subst hp0 hx0
  by_cases c2 : cutE t (1 : Nat) = 0
  case neg =>
    exact .inr ⟨hx4 ▸ t_sticky _ _ _ (hx3 ▸ t_sticky _ _ _ (hx2 ▸ n_sticky _ _ _ _ (hx1 ▸ t_bad t 1 c2))), .inr (by unfold prAsk; rw [if_neg (fun h => c2 h.2.1)])⟩
  obtain ⟨u4, u5, u6⟩ := t_ok t 1 c2
  rw [show (((0 + 1 : Nat) : Int)) = ((1 : Nat) : Int) from rfl] at hn1 hp1 hx1
  rw [u4] at hn1; rw [u5] at hp1; rw [u6] at hx1
  subst hp1 hx1
  by_cases c3 : cutP t 1 + 8 ≤ t.size
  case neg =>
    exact .inr ⟨hx4 ▸ t_sticky _ _ _ (hx3 ▸ t_sticky _ _ _ (hx2 ▸ n_bad t (cutP t 1) 8 c3)), .inr (by unfold prAsk; rw [if_neg (fun h => c3 h.2.2.1)])⟩
  obtain ⟨u1, u2, u3⟩ := n_ok t (cutP t 1) 8 (by omega) (by omega) c3
  have u1 : nN t (cutP t 1 : Nat) 0 8 = (getL (cutL t (cutP t 1) 8) : Nat) := u1
  have u2 : nT t (cutP t 1 : Nat) 0 8 = ((cutP t 1 + 8 : Nat) : Int) := u2
  have u3 : nE t (cutP t 1 : Nat) 0 8 = 0 := u3
  rw [u1] at hno; rw [u2] at hp2; rw [u3] at hx2
  subst hp2 hx2
  by_cases c4 : cutE t (cutP t 1 + 8 : Nat) = 0
  case neg =>
    exact .inr ⟨hx4 ▸ t_sticky _ _ _ (hx3 ▸ t_bad t (cutP t 1 + 8) c4), .inr (by unfold prAsk; rw [if_neg (fun h => c4 h.2.2.2.1)])⟩
  obtain ⟨u4, u5, u6⟩ := t_ok t (cutP t 1 + 8) c4
  rw [u4] at hn2; rw [u5] at hp3; rw [u6] at hx3
  subst hp3 hx3
  by_cases c5 : cutE t (cutP t (cutP t 1 + 8) : Nat) = 0
  case neg =>
    exact .inr ⟨hx4 ▸ t_bad t _ c5, .inr (by unfold prAsk; rw [if_neg (fun h => c5 h.2.2.2.2)])⟩
  obtain ⟨u4, u5, u6⟩ := t_ok t (cutP t (cutP t 1 + 8)) c5
  rw [u4] at hn3; rw [u5] at hp4; rw [u6] at hx4
  refine .inl ⟨hx4.symm, rfl, cutP t (cutP t (cutP t 1 + 8)), ?_, hp4.symm⟩
  unfold prAsk
  rw [if_pos ⟨c1, c2, c3, c4, c5⟩, ← hk, ← hno, ← hn1, ← hn2, ← hn3]
  rfl
set_option maxRecDepth 100000 in
set_option maxHeartbeats 4000000 in
theorem refReadAsk24 (s : ByteArray) (w : World) (hs : s.size ≤ 3000) :
    Calls Try.prog 11 #[.string s] w fun e w' => e = .returned (.tuple #[(readV s).value, .int .i64 (readX s)]) ∧ Below w.heap.size w w' := by
  have HO := Lib.hid (fun u => ref02Open_any s u (by omega))
  have hts : (openS s).size ≤ 3000 := by
    unfold openS
    split
    · rw [ByteArray.size_extract]; omega
    · show (0 : Nat) ≤ 3000; omega
  have hq := readQ_iff s
  obtain ⟨t, ht⟩ : ∃ t, openS s = t := ⟨_, rfl⟩
  obtain ⟨ee, hee⟩ : ∃ ee, openE s = ee := ⟨_, rfl⟩
  rw [ht] at hts hq HO
  rw [hee] at hq HO
  obtain ⟨k, hk⟩ : ∃ k, nN t 0 ee 1 = k := ⟨_, rfl⟩
  obtain ⟨p0, hp0⟩ : ∃ k, nT t 0 ee 1 = k := ⟨_, rfl⟩
  obtain ⟨x0, hx0⟩ : ∃ k, nE t 0 ee 1 = k := ⟨_, rfl⟩
  obtain ⟨n1, hn1⟩ : ∃ k, tS t p0 x0 = k := ⟨_, rfl⟩
  obtain ⟨p1, hp1⟩ : ∃ k, tT t p0 x0 = k := ⟨_, rfl⟩
  obtain ⟨x1, hx1⟩ : ∃ k, tE t p0 x0 = k := ⟨_, rfl⟩
  obtain ⟨no, hno⟩ : ∃ k, nN t p1 x1 8 = k := ⟨_, rfl⟩
  obtain ⟨p2, hp2⟩ : ∃ k, nT t p1 x1 8 = k := ⟨_, rfl⟩
  obtain ⟨x2, hx2⟩ : ∃ k, nE t p1 x1 8 = k := ⟨_, rfl⟩
  obtain ⟨n2, hn2⟩ : ∃ k, tS t p2 x2 = k := ⟨_, rfl⟩
  obtain ⟨p3, hp3⟩ : ∃ k, tT t p2 x2 = k := ⟨_, rfl⟩
  obtain ⟨x3, hx3⟩ : ∃ k, tE t p2 x2 = k := ⟨_, rfl⟩
  obtain ⟨n3, hn3⟩ : ∃ k, tS t p3 x3 = k := ⟨_, rfl⟩
  obtain ⟨p4, hp4⟩ : ∃ k, tT t p3 x3 = k := ⟨_, rfl⟩
  obtain ⟨x4, hx4⟩ : ∃ k, tE t p3 x3 = k := ⟨_, rfl⟩
  have hseq := seqQ t ee k p0 x0 p1 x1 no p2 x2 p3 x3 p4 x4 n1 n2 n3 hk hp0 hx0 hn1 hp1 hx1 hno hp2 hx2 hn2 hp3 hx3 hn3 hp4 hx4
  have l0 : p0 ≤ 1000000 := hp0 ▸ nT_le _ _ _ _ hts (by omega)
  have l1 : p1 ≤ 1000000 := hp1 ▸ tT_le _ _ _ hts l0
  have l2 : p2 ≤ 1000000 := hp2 ▸ nT_le _ _ _ _ hts l1
  have l3 : p3 ≤ 1000000 := hp3 ▸ tT_le _ _ _ hts l2
  have HN0 := Lib.hid (fun R u hu => rNext t 0 ee 1 R u hu hts (by omega))
  have HT1 := Lib.hid (fun R u hu => rText t p0 x0 R u hu hts l0)
  have HN2 := Lib.hid (fun R u hu => rNext t p1 x1 8 R u hu hts l1)
  have HT3 := Lib.hid (fun R u hu => rText t p2 x2 R u hu hts l2)
  have HT4 := Lib.hid (fun R u hu => rText t p3 x3 R u hu hts l3)
  rw [hk, hp0, hx0] at HN0
  rw [hn1, hp1, hx1] at HT1
  rw [hno, hp2, hx2] at HN2
  rw [hn2, hp3, hx3] at HT3
  rw [hn3, hp4, hx4] at HT4
  obtain ⟨K, hK⟩ : ∃ K, IntKind.i64.wrap k = K := ⟨_, rfl⟩
  obtain ⟨NO, hNO⟩ : ∃ K, IntKind.i64.wrap no = K := ⟨_, rfl⟩
  rw [hK, hNO] at hseq
  -- the answer
  have hans : (x4 = 0 ∧ p4 = (t.size : Nat) ∧ askOk ⟨K, n1, NO, n2, n3⟩ = true ∧ readV s = ⟨K, n1, NO, n2, n3⟩ ∧ readX s = 0) ∨
      ((x4 ≠ 0 ∨ (x4 = 0 ∧ p4 ≠ (t.size : Nat)) ∨ (x4 = 0 ∧ p4 = (t.size : Nat) ∧ askOk ⟨K, n1, NO, n2, n3⟩ = false)) ∧ readV s = asqZ ∧ readX s = 70) := by
    have hres : (x4 = 0 ∧ p4 = (t.size : Nat) ∧ askOk ⟨K, n1, NO, n2, n3⟩ = true ∧ readQ s = some ⟨K, n1, NO, n2, n3⟩) ∨ ((x4 ≠ 0 ∨ (x4 = 0 ∧ p4 ≠ (t.size : Nat)) ∨ (x4 = 0 ∧ p4 = (t.size : Nat) ∧ askOk ⟨K, n1, NO, n2, n3⟩ = false)) ∧ readQ s = none) := by
      rcases hseq with ⟨h1, h2, r, h3, h4⟩ | ⟨h1, h2⟩
      · rw [if_pos h2, h3] at hq
        simp only at hq
        by_cases hr : r = t.size
        · by_cases ho : askOk ⟨K, n1, NO, n2, n3⟩ = true
          · exact .inl ⟨h1, by omega, ho, hq.trans (if_pos ⟨ho, hr⟩)⟩
          · exact .inr ⟨.inr (.inr ⟨h1, by omega, by simpa using ho⟩), hq.trans (if_neg (fun h => ho h.1))⟩
        · exact .inr ⟨.inr (.inl ⟨h1, by omega⟩), hq.trans (if_neg (fun h => hr h.2))⟩
      · refine .inr ⟨.inl h1, hq.trans ?_⟩
        rcases h2 with h2 | h2
        · rw [if_neg h2]
        · rw [h2]
          by_cases hz : ee = 0
          · rw [if_pos hz]
          · rw [if_neg hz]
    unfold readV readX
    rcases hres with ⟨a, b, c, d⟩ | ⟨a, d⟩
    · rw [d]; exact .inl ⟨a, b, c, rfl, rfl⟩
    · rw [d]; exact .inr ⟨a, rfl, rfl⟩
  have hsz : x4 = 0 → n1.size ≤ 65535 ∧ n2.size ≤ 65535 ∧ n3.size ≤ 65535 := fun h => by
    rcases hseq with ⟨h1, h2, r, h3, h4⟩ | ⟨h1, h2⟩
    · obtain ⟨_, f1, f2, f3, _⟩ := prAsk_facts h3
      exact ⟨f1, f2, f3⟩
    · exact absurd h h1
  have HIS := Lib.hid (fun (h : x4 = 0) u => refIsAsk ⟨K, n1, NO, n2, n3⟩ u (by have := hsz h; simp only; omega) (by have := hsz h; simp only; omega) (by have := hsz h; simp only; omega))
  have HANS := Lib.hid hans
  have htI : (t.size : Int) ≤ 3000 := by omega
  clear hans hsz hseq hq l0 l1 l2 l3 hk hp0 hx0 hn1 hp1 hx1 hno hp2 hx2 hn2 hp3 hx3 hn3 hp4 hx4 ht hee hts
  have hN := heap_alloc_new w (.cells #[.int .i64 0, .string ⟨#[]⟩, .int .i64 0, .string ⟨#[]⟩, .string ⟨#[]⟩] 23)
  have hbN := (Below.refl w.heap.size w).alloc (Nat.le_refl _) (.cells #[.int .i64 0, .string ⟨#[]⟩, .int .i64 0, .string ⟨#[]⟩, .string ⟨#[]⟩] 23)
  have HN := Lib.hid hN; have HBN := Lib.hid hbN
  clear hN hbN
  go_enter Try.func11, Try.ntmps11
  go_upto_region 2 with (first | (go_at_call 31; refine (HO.out _).mono ?_; rintro e w1 ⟨rfl, hb1⟩))
  have hN1 := (hb1.block _ (lt_of_block HN.out)).trans HN.out
  have hb1' := HBN.out.trans (hb1.mono HBN.out.size)
  have hrd2 : RdR w1.heap.size t 0 ee (w1.alloc (.cells #[.string t, .int .i64 0, .int .i64 ee] 60)) := heap_alloc_new w1 _
  have hN2 := (heap_alloc_old w1 (.cells #[.string t, .int .i64 0, .int .i64 ee] 60) (lt_of_block hN1)).trans hN1
  have hb2 := hb1'.alloc hb1'.size (.cells #[.string t, .int .i64 0, .int .i64 ee] 60)
  have hz2 : (w1.alloc (.cells #[.string t, .int .i64 0, .int .i64 ee] 60)).heap.size = w1.heap.size + 1 := World.size_alloc _ _
  have hNR : w.heap.size < w1.heap.size := lt_of_block hN1
  have HN2' := Lib.hid hN2; have HB2 := Lib.hid hb2
  clear hN1 hb1' hN2 hb2 hb1 HN HBN HO
  go_upto_region 3 with fail
  obtain ⟨R, hR⟩ : ∃ R, w1.heap.size = R := ⟨_, rfl⟩
  obtain ⟨w2, hW⟩ : ∃ w2, w1.alloc (.cells #[.string t, .int .i64 0, .int .i64 ee] 60) = w2 := ⟨_, rfl⟩
  rw [hW] at hrd2 hz2 HN2' HB2 ⊢
  rw [hR] at hrd2 hz2 hNR ⊢
  clear hW hR
  have hNR' : w.heap.size ≠ R := by omega
  have HIN := Lib.hid (fun (A u : World) (h : Below w.heap.size w A) (hg : A.grownBy u (some R)) => (show Below w.heap.size w u from h.grown hg h.size (fun k hk => by injection hk with hk; omega)))
  go_upto_region 4 with (first | (go_at_call 32; refine (HN0.out R _ hrd2).mono ?_; rintro e w3 ⟨rfl, hrd3, hg3⟩))
  have hN3 := (hg3.block _ (lt_of_block HN2'.out) (fun e => hNR' (Option.some.inj e))).trans HN2'.out
  have hb3 := HIN.out _ _ HB2.out hg3
  have hRw3 : R < w3.heap.size := by have := hg3.size; omega
  have hQ3 := heap_alloc_new w3 (.cells #[.int .i64 K, .string ⟨#[]⟩, .int .i64 0, .string ⟨#[]⟩, .string ⟨#[]⟩] 23)
  have hN3' := (heap_alloc_old w3 (.cells #[.int .i64 K, .string ⟨#[]⟩, .int .i64 0, .string ⟨#[]⟩, .string ⟨#[]⟩] 23) (lt_of_block hN3)).trans hN3
  have hrd3' : RdR R t p0 x0 (w3.alloc (.cells #[.int .i64 K, .string ⟨#[]⟩, .int .i64 0, .string ⟨#[]⟩, .string ⟨#[]⟩] 23)) := (heap_alloc_old w3 _ hRw3).trans hrd3
  have hb3' := hb3.alloc hb3.size (.cells #[.int .i64 K, .string ⟨#[]⟩, .int .i64 0, .string ⟨#[]⟩, .string ⟨#[]⟩] 23)
  have hbs3 := hb3.size
  obtain ⟨E, hE⟩ : ∃ E, w3.heap.size = E := ⟨_, rfl⟩
  obtain ⟨u0, hW⟩ : ∃ u0, w3.alloc (.cells #[.int .i64 K, .string ⟨#[]⟩, .int .i64 0, .string ⟨#[]⟩, .string ⟨#[]⟩] 23) = u0 := ⟨_, rfl⟩
  rw [hW] at hQ3 hN3' hrd3' hb3' ⊢
  rw [hE] at hQ3 hRw3 hbs3 ⊢
  have hER : E ≠ R := by omega
  have hEN : w.heap.size ≤ E := by omega
  have hNE : w.heap.size ≠ E := by omega
  have HQ0 := Lib.hid hQ3; have HM0 := Lib.hid hN3'; have HG0 := Lib.hid hb3'
  clear hW hE hQ3 hN3' hb3' hN3 hb3 hg3 hbs3 hrd3 HN0 HB2 HN2' hz2 hrd2
  have hr0 := hrd3'
  clear hrd3'
  go_upto_region 5 with (first | (go_at_call 33; refine (HT1.out R _ hr0).mono ?_; rintro e v1 ⟨rfl, hrv, hgv⟩; have hQv := (hgv.block E (lt_of_block HQ0.out) (fun e => hER (Option.some.inj e))).trans HQ0.out; have fv := block_frozen hQv 1; have cv := below_cell (Below.refl _ v1) hQv 1 rfl))
  have hMv := (hgv.block _ (lt_of_block HM0.out) (fun e => hNR' (Option.some.inj e))).trans HM0.out
  have hGv := HIN.out _ _ HG0.out hgv
  have HQ1 := Lib.hid (block_set hQv 1 (.string n1))
  have HM1 := Lib.hid ((Below.heap_setCell v1 ⟨E, 1, none⟩ (.string n1) w.heap.size (by show w.heap.size ≠ E; omega)).trans hMv)
  have HG1 := Lib.hid (hGv.setCell (p := ⟨E, 1, none⟩) hEN (.string n1))
  have hr1 := (Below.heap_setCell v1 ⟨E, 1, none⟩ (.string n1) R (by show R ≠ E; omega)).trans hrv
  obtain ⟨u1, hW⟩ : ∃ u1, v1.setCell ⟨E, 1, none⟩ (.string n1) = u1 := ⟨_, rfl⟩
  rw [hW] at HQ1 HM1 HG1 hr1 ⊢
  clear hW fv cv hQv hMv hGv hgv hrv hr0 HQ0 HM0 HG0 HT1
  go_upto_region 6 with (first | (go_at_call 32; refine (HN2.out R _ hr1).mono ?_; rintro e v2 ⟨rfl, hrv, hgv⟩; have hQv := (hgv.block E (lt_of_block HQ1.out) (fun e => hER (Option.some.inj e))).trans HQ1.out; have fv := block_frozen hQv 2; have cv := below_cell (Below.refl _ v2) hQv 2 rfl))
  have hMv := (hgv.block _ (lt_of_block HM1.out) (fun e => hNR' (Option.some.inj e))).trans HM1.out
  have hGv := HIN.out _ _ HG1.out hgv
  have HQ2 := Lib.hid (block_set hQv 2 (.int .i64 NO))
  have HM2 := Lib.hid ((Below.heap_setCell v2 ⟨E, 2, none⟩ (.int .i64 NO) w.heap.size (by show w.heap.size ≠ E; omega)).trans hMv)
  have HG2 := Lib.hid (hGv.setCell (p := ⟨E, 2, none⟩) hEN (.int .i64 NO))
  have hr2 := (Below.heap_setCell v2 ⟨E, 2, none⟩ (.int .i64 NO) R (by show R ≠ E; omega)).trans hrv
  obtain ⟨u2, hW⟩ : ∃ u2, v2.setCell ⟨E, 2, none⟩ (.int .i64 NO) = u2 := ⟨_, rfl⟩
  rw [hW] at HQ2 HM2 HG2 hr2 ⊢
  clear hW fv cv hQv hMv hGv hgv hrv hr1 HQ1 HM1 HG1 HN2
  go_upto_region 7 with (first | (go_at_call 33; refine (HT3.out R _ hr2).mono ?_; rintro e v3 ⟨rfl, hrv, hgv⟩; have hQv := (hgv.block E (lt_of_block HQ2.out) (fun e => hER (Option.some.inj e))).trans HQ2.out; have fv := block_frozen hQv 3; have cv := below_cell (Below.refl _ v3) hQv 3 rfl))
  have hMv := (hgv.block _ (lt_of_block HM2.out) (fun e => hNR' (Option.some.inj e))).trans HM2.out
  have hGv := HIN.out _ _ HG2.out hgv
  have HQ3 := Lib.hid (block_set hQv 3 (.string n2))
  have HM3 := Lib.hid ((Below.heap_setCell v3 ⟨E, 3, none⟩ (.string n2) w.heap.size (by show w.heap.size ≠ E; omega)).trans hMv)
  have HG3 := Lib.hid (hGv.setCell (p := ⟨E, 3, none⟩) hEN (.string n2))
  have hr3 := (Below.heap_setCell v3 ⟨E, 3, none⟩ (.string n2) R (by show R ≠ E; omega)).trans hrv
  obtain ⟨u3, hW⟩ : ∃ u3, v3.setCell ⟨E, 3, none⟩ (.string n2) = u3 := ⟨_, rfl⟩
  rw [hW] at HQ3 HM3 HG3 hr3 ⊢
  clear hW fv cv hQv hMv hGv hgv hrv hr2 HQ2 HM2 HG2 HT3
  go_upto_region 8 with (first | (go_at_call 33; refine (HT4.out R _ hr3).mono ?_; rintro e v4 ⟨rfl, hrv, hgv⟩; have hQv := (hgv.block E (lt_of_block HQ3.out) (fun e => hER (Option.some.inj e))).trans HQ3.out; have fv := block_frozen hQv 4; have cv := below_cell (Below.refl _ v4) hQv 4 rfl))
  have hMv := (hgv.block _ (lt_of_block HM3.out) (fun e => hNR' (Option.some.inj e))).trans HM3.out
  have hGv := HIN.out _ _ HG3.out hgv
  have HQ4 := Lib.hid (block_set hQv 4 (.string n3))
  have HM4 := Lib.hid ((Below.heap_setCell v4 ⟨E, 4, none⟩ (.string n3) w.heap.size (by show w.heap.size ≠ E; omega)).trans hMv)
  have HG4 := Lib.hid (hGv.setCell (p := ⟨E, 4, none⟩) hEN (.string n3))
  have hr4 := (Below.heap_setCell v4 ⟨E, 4, none⟩ (.string n3) R (by show R ≠ E; omega)).trans hrv
  obtain ⟨u4, hW⟩ : ∃ u4, v4.setCell ⟨E, 4, none⟩ (.string n3) = u4 := ⟨_, rfl⟩
  rw [hW] at HQ4 HM4 HG4 hr4 ⊢
  clear hW fv cv hQv hMv hGv hgv hrv hr3 HQ3 HM3 HG3 HT4
  have hQ4 : AsqAt u4 E ⟨K, n1, NO, n2, n3⟩ := HQ4.out
  have hM4 := HM4.out
  unfold AsqAt at hQ4
  have c0 := below_cell (Below.refl _ u4) hQ4 0 rfl
  have c1 := below_cell (Below.refl _ u4) hQ4 1 rfl
  have c2 := below_cell (Below.refl _ u4) hQ4 2 rfl
  have c3 := below_cell (Below.refl _ u4) hQ4 3 rfl
  have c4 := below_cell (Below.refl _ u4) hQ4 4 rfl
  have r1 := below_cell (Below.refl _ u4) hr4 1 rfl
  have r2 := below_cell (Below.refl _ u4) hr4 2 rfl
  have HQ5 := Lib.hid hQ4
  clear HQ4 hQ4
  have bad : (x4 ≠ 0 ∨ (x4 = 0 ∧ p4 ≠ (t.size : Nat)) ∨ (x4 = 0 ∧ p4 = (t.size : Nat) ∧ askOk ⟨K, n1, NO, n2, n3⟩ = false)) → readV s = asqZ ∧ readX s = 70 := fun h => by
    rcases HANS.out with ⟨a1, a2, a3, _⟩ | ⟨_, b1, b2⟩
    · rcases h with h | h | h
      · exact absurd a1 h
      · exact absurd a2 h.2
      · rw [a3] at h; cases h.2.2
    · exact ⟨b1, b2⟩
  have BAD := Lib.hid bad
  clear bad
  by_cases hx : x4 = 0
  case neg =>
    obtain ⟨r1', r2'⟩ := BAD.out (.inl hx)
    have R1 := Lib.hid r1'; have R2 := Lib.hid r2'
    have hq : (x4 != 0) = true := by simpa using hx
    have HS0 := Lib.hid (setRow_heap u4 w.heap.size _ #[.int .i64 0, .string ⟨#[]⟩, .int .i64 0, .string ⟨#[]⟩, .string ⟨#[]⟩] _ _ hM4)
    have HF0 := Lib.hid (below_setRow HG4.out (Nat.le_refl _) #[.int .i64 0, .string ⟨#[]⟩, .int .i64 0, .string ⟨#[]⟩, .string ⟨#[]⟩])
    clear BAD HANS r1' r2' hx HIS
    go_wp2_with (first | (refine wpList_store_row rfl 23 _ _ rfl w.heap.size #[.int .i64 0, .string ⟨#[]⟩, .int .i64 0, .string ⟨#[]⟩, .string ⟨#[]⟩] rfl rfl 23 _ hM4 (by kernel_rfl) rfl (by simp [Value.oneCell']) ?_))
    exact bodyPost_ret (results_row_tmp rfl _ _ w.heap.size _ _ _ _ rfl HS0.out Try.underlying23 rfl (by kernel_rfl)) rfl ⟨by rw [R1.out, R2.out]; rfl, HF0.out⟩
  subst hx
  by_cases hp : p4 = (t.size : Nat)
  case neg =>
    obtain ⟨r1', r2'⟩ := BAD.out (.inr (.inl ⟨rfl, hp⟩))
    have R1 := Lib.hid r1'; have R2 := Lib.hid r2'
    have hq : (p4 != (t.size : Int)) = true := by simpa using hp
    have HS0 := Lib.hid (setRow_heap u4 w.heap.size _ #[.int .i64 0, .string ⟨#[]⟩, .int .i64 0, .string ⟨#[]⟩, .string ⟨#[]⟩] _ _ hM4)
    have HF0 := Lib.hid (below_setRow HG4.out (Nat.le_refl _) #[.int .i64 0, .string ⟨#[]⟩, .int .i64 0, .string ⟨#[]⟩, .string ⟨#[]⟩])
    clear BAD HANS r1' r2' hp HIS
    go_wp2_with (first | (refine wpList_store_row rfl 23 _ _ rfl w.heap.size #[.int .i64 0, .string ⟨#[]⟩, .int .i64 0, .string ⟨#[]⟩, .string ⟨#[]⟩] rfl rfl 23 _ hM4 (by kernel_rfl) rfl (by simp [Value.oneCell']) ?_))
    exact bodyPost_ret (results_row_tmp rfl _ _ w.heap.size _ _ _ _ rfl HS0.out Try.underlying23 rfl (by kernel_rfl)) rfl ⟨by rw [R1.out, R2.out]; rfl, HF0.out⟩
  subst hp
  have HI := Lib.hid (fun u => HIS.out rfl u)
  unfold Asq.value at HI
  simp only at HI
  have hsq : ((t.size : Int) != (t.size : Int)) = false := by simp
  cases hok : askOk ⟨K, n1, NO, n2, n3⟩ with
  | false =>
    rw [hok] at HI
    obtain ⟨r1', r2'⟩ := BAD.out (.inr (.inr ⟨rfl, rfl, hok⟩))
    have R1 := Lib.hid r1'; have R2 := Lib.hid r2'
    clear BAD HANS r1' r2' HIS hok
    go_upto_region 9 with (first | (go_at_call 13; refine (HI.out _).mono ?_; rintro e u5 ⟨rfl, hb5⟩))
    have hM5 := (hb5.block _ (lt_of_block hM4)).trans hM4
    have HS0 := Lib.hid (setRow_heap u5 w.heap.size _ #[.int .i64 0, .string ⟨#[]⟩, .int .i64 0, .string ⟨#[]⟩, .string ⟨#[]⟩] _ _ hM5)
    have HF0 := Lib.hid (below_setRow (HG4.out.trans (hb5.mono HG4.out.size)) (Nat.le_refl _) #[.int .i64 0, .string ⟨#[]⟩, .int .i64 0, .string ⟨#[]⟩, .string ⟨#[]⟩])
    clear hb5
    go_wp2_with (first | (refine wpList_store_row rfl 23 _ _ rfl w.heap.size #[.int .i64 0, .string ⟨#[]⟩, .int .i64 0, .string ⟨#[]⟩, .string ⟨#[]⟩] rfl rfl 23 _ hM5 (by kernel_rfl) rfl (by simp [Value.oneCell']) ?_))
    exact bodyPost_ret (results_row_tmp rfl _ _ w.heap.size _ _ _ _ rfl HS0.out Try.underlying23 rfl (by kernel_rfl)) rfl ⟨by rw [R1.out, R2.out]; rfl, HF0.out⟩
  | true =>
    rw [hok] at HI
    have hgood : readV s = ⟨K, n1, NO, n2, n3⟩ ∧ readX s = 0 := by
      rcases HANS.out with ⟨_, _, _, b1, b2⟩ | ⟨h, _⟩
      · exact ⟨b1, b2⟩
      · rcases h with h | h | h
        · exact absurd rfl h
        · exact absurd rfl h.2
        · rw [hok] at h; cases h.2.2
    obtain ⟨r1', r2'⟩ := hgood
    have R1 := Lib.hid r1'; have R2 := Lib.hid r2'
    clear BAD HANS r1' r2' HIS hok
    go_upto_region 10 with (first | (go_at_call 13; refine (HI.out _).mono ?_; rintro e u5 ⟨rfl, hb5⟩))
    have hM5 := (hb5.block _ (lt_of_block hM4)).trans hM4
    have hQ6 := (hb5.block _ (lt_of_block HQ5.out)).trans HQ5.out
    have d0 := below_cell (Below.refl _ u5) hQ6 0 rfl
    have d1 := below_cell (Below.refl _ u5) hQ6 1 rfl
    have d2 := below_cell (Below.refl _ u5) hQ6 2 rfl
    have d3 := below_cell (Below.refl _ u5) hQ6 3 rfl
    have d4 := below_cell (Below.refl _ u5) hQ6 4 rfl
    have HS0 := Lib.hid (setRow_heap u5 w.heap.size _ #[.int .i64 K, .string n1, .int .i64 NO, .string n2, .string n3] _ _ hM5)
    have HF0 := Lib.hid (below_setRow (HG4.out.trans (hb5.mono HG4.out.size)) (Nat.le_refl _) #[.int .i64 K, .string n1, .int .i64 NO, .string n2, .string n3])
    clear hb5 hQ6
    go_wp2_with (first | (refine wpList_store_row rfl 23 _ _ rfl w.heap.size #[.int .i64 K, .string n1, .int .i64 NO, .string n2, .string n3] rfl rfl 23 _ hM5 (by kernel_rfl) rfl (by simp [Value.oneCell']) ?_))
    exact bodyPost_ret (results_row_tmp rfl _ _ w.heap.size _ _ _ _ rfl HS0.out Try.underlying23 rfl (by kernel_rfl)) rfl ⟨by rw [R1.out, R2.out]; rfl, HF0.out⟩
end Go.Proofs.Ytmanlogclbbgaaa
