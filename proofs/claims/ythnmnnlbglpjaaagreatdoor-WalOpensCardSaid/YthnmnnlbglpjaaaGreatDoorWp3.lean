/- A checkpoint, wherever the power goes in it; plain. -/
import Derived.Test.YthnmnnlbglpjaaaGreatDoorWp2
namespace Go.Proofs.YthnmnnlbglpjaaaGreatDoor
open Go.RowKit
set_option linter.unusedVariables false

theorem super_is {n : Int} (h1 : 1 ≤ n) (h2 : n ≤ 1099511627776) : superE (layS (superL n)) = 0 ∧ superV (layS (superL n)) = n := by
  have hp := (super_part n h1 h2).1
  have hn : ((n.toNat : Nat) : Int) = n := by omega
  have hi : superIs (layS (superL n)) := by
    unfold superIs
    rw [hp, hn]
    exact ⟨⟨h1, h2⟩, rfl⟩
  unfold superE superV
  rw [if_pos hi, if_pos hi, hp, hn]
  exact ⟨rfl, rfl⟩
theorem commit_is {n s : Int} (h1 : 1 ≤ n ∧ n ≤ 1099511627776) (h2 : 0 ≤ s ∧ s < 6) : commitE (layS (commitL n s)) = 0 ∧ commitV (layS (commitL n s)) = n ∧ commitW (layS (commitL n s)) = s := by
  obtain ⟨p1, p2, _⟩ := commit_part n s h1 h2
  have hn : ((n.toNat : Nat) : Int) = n := by omega
  have hs : ((s.toNat : Nat) : Int) = s := by omega
  have hi : commitIs (layS (commitL n s)) := by
    unfold commitIs
    rw [p1, p2, hn, hs]
    exact ⟨⟨h1, h2⟩, rfl⟩
  unfold commitE commitV commitW
  rw [if_pos hi, if_pos hi, if_pos hi, p1, p2, hn, hs]
  exact ⟨rfl, rfl, rfl⟩
theorem head_is {E S : Int} {L : List Int} (h : headOk E S L = true) : headE (layS (headL E S L)) = 0 ∧ headV (layS (headL E S L)) = ⟨E, S, L⟩ := by
  have ho := headOf_lay E S L h
  have hi : headIs (layS (headL E S L)) := by
    unfold headIs
    rw [ho]
    exact ⟨h, rfl⟩
  unfold headE headV
  rw [if_pos hi, if_pos hi, ho]
  exact ⟨rfl, rfl⟩
theorem Sound.low {l : Lg} (h : Sound l) {S : List ByteArray} (hr : rightD ⟨S, []⟩ = true) (hl : S.length = l.secs.length) (hlow : ∀ j, j < 53 → sec S j = sec l.secs j) : Sound ⟨S, [], l.left, l.epoch, l.seq, l.used, l.dirty⟩ := by
  obtain ⟨n1, n2, n3⟩ := right_nums h.right
  exact h.move hr hl (hlow 0 (by omega)) (fun j hj => hlow _ (by omega)) (fun j hj => hlow _ (by omega)) (fun i hi => hlow _ (by omega))
/-- each crash of it leaves a log that tells just this -/
def Kept (N : Nat) (T : Nat → ByteArray) (E1 E2 : Int) (d : Dsk) : Prop := ∀ keep, ∃ l', Sound l' ∧ crashD d keep = l'.dsk ∧ HasV l' N T ∧ E1 ≤ l'.epoch ∧ l'.epoch ≤ E2
theorem kept_self {l : Lg} (h : Sound l) {N : Nat} {T : Nat → ByteArray} (hv : HasV l N T) {E1 E2 : Int} (h1 : E1 ≤ l.epoch) (h2 : l.epoch ≤ E2) : Kept N T E1 E2 l.dsk := fun keep => ⟨l, h, crash_same _ _ (right_dirty h.right).2.2 h.pend, hv, h1, h2⟩
def ckA (l : Lg) (k : Nat) (b : ByteArray) : Prop := ∃ x ∈ l.dirty, x.sector.toNat = k ∧ x.bytes = b
/-- while what is to be done is being written -/
theorem ck_one {l : Lg} (h : Sound l) {N : Nat} {T : Nat → ByteArray} (hv : HasV l N T) {d : Dsk} (hp : Ph l.secs (ckA l) d) (keep : List Bool) :
    ∃ S', crashD d keep = ⟨S', []⟩ ∧ Sound ⟨S', [], l.left, l.epoch, l.seq, l.used, l.dirty⟩ ∧ HasV ⟨S', [], l.left, l.epoch, l.seq, l.used, l.dirty⟩ N T := by
  obtain ⟨S', e, hl, hr, hk⟩ := hp.crash keep
  have hd := dirty_mem (right_dirty h.right).1
  have hlow : ∀ j, j < 53 → sec S' j = sec l.secs j := fun j hj => by
    rcases hk j with e | ⟨x, hx, e1, _⟩
    · exact e
    · have := (hd x hx).1; omega
  refine ⟨S', e, h.low hr hl hlow, hl.trans hv.1, fun n h1 h2 => ?_⟩
  rw [← hv.2 n h1 h2, tells_bare rfl, tells_bare h.pend]
  show (match l.dirty.find? (isAt n) with
    | some x => x.bytes
    | none => sec S' n) = _
  cases hf : l.dirty.find? (isAt (n : Int)) with
  | some x => rfl
  | none =>
    show sec S' n = sec l.secs n
    rcases hk n with e | ⟨x, hx, e1, _⟩
    · exact e
    · have h3 := find_none hf x hx
      have h4 := (hd x hx).1
      omega
/-- all is written and flushed -/
theorem ck_flushed {l : Lg} (h : Sound l) {N : Nat} {T : Nat → ByteArray} (hv : HasV l N T) (hr : rightD (wrD l.dsk l.dirty) = true) :
    (∀ n : Nat, 53 ≤ n → n < N → sec (flushD (wrD l.dsk l.dirty)).secs n = T n) ∧ ∀ j, j < 53 → sec (flushD (wrD l.dsk l.dirty)).secs j = sec l.secs j := by
  obtain ⟨d1, _, _⟩ := right_dirty h.right
  have hd := dirty_mem d1
  refine ⟨fun n h1 h2 => ?_, fun j hj => ?_⟩
  · rw [flush_at hr, ← hv.2 n h1 h2, tells_bare h.pend]
    cases hf : l.dirty.find? (isAt (n : Int)) with
    | some x =>
      obtain ⟨m1, m2⟩ := find_mem hf
      rw [wrD_at l.dirty _ n (rises_nodup d1) x m1 m2]
      exact (fits_size (hd x m1).2).2
    | none =>
      rw [wrD_no l.dirty _ n (find_none hf), tells_same _ _ h.pend]
      rfl
  · rw [flush_at hr, wrD_no l.dirty _ j (fun x hx => by have := (hd x hx).1; omega), tells_same _ _ h.pend]
    rfl
/-- the epoch behind it has begun -/
theorem ck_new {l : Lg} (h : Sound l) (hE : l.epoch < 1099511627776) {N : Nat} (hN : l.secs.length = N) {T : Nat → ByteArray} {S : List ByteArray} (L : Int) (hl : S.length = N) (hr : rightD ⟨S, []⟩ = true) (hT : ∀ n : Nat, 53 ≤ n → n < N → sec S n = T n)
    (h0 : sec S 0 = layS (superL (l.epoch + 1))) (hlow : ∀ j, 0 < j → j < 53 → sec S j = sec l.secs j) : Sound ⟨S, [], L, l.epoch + 1, 0, 0, []⟩ ∧ HasV ⟨S, [], L, l.epoch + 1, 0, 0, []⟩ N T := by
  obtain ⟨n1, n2, n3⟩ := right_nums h.right
  have h64 := right_64 h.right
  obtain ⟨s1, s2⟩ := super_is (n := l.epoch + 1) (by omega) (by omega)
  refine ⟨⟨?_, rfl, ?_, ?_, .zero, ?_⟩, hl, fun n k1 k2 => ?_⟩
  · rw [rightL_eq]
    rw [Bool.and_eq_true, Bool.and_eq_true, Bool.and_eq_true]
    exact ⟨⟨⟨hr, decide_eq_true (show 64 ≤ S.length by omega)⟩, decide_eq_true ⟨show 1 ≤ l.epoch + 1 ∧ l.epoch + 1 ≤ 1099511627776 by omega, show (0 : Int) ≤ 0 ∧ (0 : Int) ≤ 6 by omega, show (0 : Int) ≤ 0 ∧ (0 : Int) ≤ 40 by omega⟩⟩, rfl⟩
  · show superE (sec S 0) = 0
    rw [h0]; exact s1
  · show superV (sec S 0) = l.epoch + 1
    rw [h0]; exact s2
  · exact (h.coms.next).mono (fun j hj => hlow _ (by omega) (by omega))
  · rw [tells_bare rfl]
    exact hT n k1 k2
def one0 (b : ByteArray) (k : Nat) (c : ByteArray) : Prop := k = 0 ∧ c = b
theorem ck_super {l : Lg} (h : Sound l) (hE : l.epoch < 1099511627776) {N : Nat} (hN : l.secs.length = N) {T : Nat → ByteArray} {S2 : List ByteArray} (hs2 : Sound ⟨S2, [], l.left, l.epoch, l.seq, l.used, l.dirty⟩) (hv2 : HasV ⟨S2, [], l.left, l.epoch, l.seq, l.used, l.dirty⟩ N T)
    (hT : ∀ n : Nat, 53 ≤ n → n < N → sec S2 n = T n) (hlow : ∀ j, j < 53 → sec S2 j = sec l.secs j) {d : Dsk} (hp : Ph S2 (one0 (layS (superL (l.epoch + 1)))) d) : Kept N T l.epoch (l.epoch + 1) d := by
  intro keep
  obtain ⟨S', e, hl, hr, hk⟩ := hp.crash keep
  have hne : ∀ k, k ≠ 0 → sec S' k = sec S2 k := fun k h0 => by
    rcases hk k with e | ⟨e1, _⟩
    · exact e
    · exact absurd e1 h0
  rcases hk 0 with e0 | ⟨_, e0⟩
  · have := hs2.low hr hl (fun j hj => by by_cases h0 : j = 0; · rw [h0]; exact e0
                                          · exact hne j h0)
    refine ⟨_, this, e, ⟨hl.trans hv2.1, fun n h1 h2 => ?_⟩, Int.le_refl _, show l.epoch ≤ l.epoch + 1 by omega⟩
    rw [← hv2.2 n h1 h2, tells_bare rfl, tells_bare rfl]
    show (match l.dirty.find? (isAt n) with
      | some x => x.bytes
      | none => sec S' n) = match l.dirty.find? (isAt n) with
      | some x => x.bytes
      | none => sec S2 n
    rw [hne n (by omega)]
  · obtain ⟨k1, k2⟩ := ck_new h hE hN (T := T) (S := S') l.left (hl.trans hv2.1) hr (fun n h1 h2 => by rw [hne n (by omega)]; exact hT n h1 h2) e0 (fun j h0 hj => by rw [hne j (by omega)]; exact hlow j hj)
    exact ⟨_, k1, e, k2, show l.epoch ≤ l.epoch + 1 by omega, Int.le_refl _⟩
theorem ck_all {l : Lg} (h : Sound l) (hE : l.epoch < 1099511627776) {N : Nat} {T : Nat → ByteArray} (hv : HasV l N T) :
    Kept N T l.epoch (l.epoch + 1) (ckO l).dsk ∧ ((ckO l).code = 0 → Sound (newL (ckO l) (l.epoch + 1)) ∧ HasV (newL (ckO l) (l.epoch + 1)) N T) := by
  obtain ⟨d1, d2, d3⟩ := right_dirty h.right
  have hN : l.secs.length = N := hv.1
  have hbase : Ph l.secs (ckA l) (l.dirty.foldl wrS ⟨l.dsk, l.left, 0⟩).dsk :=
    Ph.fold l.dirty (o := ⟨l.dsk, l.left, 0⟩) (ph_none d3 h.pend _) (fun x hx => ⟨x, hx, rfl, (fits_size (dirty_mem d1 x hx).2).2.symm⟩)
  have k1 : Kept N T l.epoch (l.epoch + 1) (l.dirty.foldl wrS ⟨l.dsk, l.left, 0⟩).dsk := fun keep => by
    obtain ⟨S', e, a1, a2⟩ := ck_one h hv hbase keep
    exact ⟨_, a1, e, a2, Int.le_refl _, show l.epoch ≤ l.epoch + 1 by omega⟩
  unfold ckO
  obtain ⟨o1, ho1⟩ : ∃ o1, l.dirty.foldl wrS ⟨l.dsk, l.left, 0⟩ = o1 := ⟨_, rfl⟩
  have hc1 := fold_cases l.dirty ⟨l.dsk, l.left, 0⟩
  rw [ho1] at hbase k1 hc1 ⊢
  obtain ⟨x0, hx0⟩ : ∃ x0 : Wrt, (⟨0, layS (superL (l.epoch + 1))⟩ : Wrt) = x0 := ⟨_, rfl⟩
  have hxs : x0.sector = 0 := by rw [← hx0]
  have hxb : x0.bytes = layS (superL (l.epoch + 1)) := by rw [← hx0]
  rw [hx0]
  rcases fl_cases o1 with ⟨c2, e2⟩ | ⟨c1, c2, e2, r2⟩
  · -- the power went ahead of the first flush
    rcases wr_cases (flS o1) x0 with ⟨c3, e3⟩ | ⟨c3, _⟩
    · rcases fl_cases (wrS (flS o1) x0) with ⟨c4, e4⟩ | ⟨c4, _⟩
      · rw [e4, e3, e2]
        exact ⟨k1, fun h0 => absurd h0 c4⟩
      · exact absurd c4 c3
    · exact absurd c3 c2
  · obtain ⟨_, w1⟩ := hc1 c1
    have w1' : o1.dsk = wrD l.dsk l.dirty := w1
    have r2' := r2
    rw [w1'] at r2'
    obtain ⟨f1, f2⟩ := ck_flushed h hv r2'
    rw [← w1'] at f1 f2
    have k2 : Sound ⟨(flushD o1.dsk).secs, [], l.left, l.epoch, l.seq, l.used, l.dirty⟩ ∧ HasV ⟨(flushD o1.dsk).secs, [], l.left, l.epoch, l.seq, l.used, l.dirty⟩ N T := by
      obtain ⟨S', e, a1, a2⟩ := ck_one h hv hbase (List.replicate o1.dsk.pend.length true)
      have e' : flushD o1.dsk = ⟨S', []⟩ := e
      rw [e']
      exact ⟨a1, a2⟩
    obtain ⟨s2, v2⟩ := k2
    have ef : flushD o1.dsk = ⟨(flushD o1.dsk).secs, []⟩ := same_dsk (flush_pend r2)
    obtain ⟨S2, hS2⟩ : ∃ S2, (flushD o1.dsk).secs = S2 := ⟨_, rfl⟩
    rw [hS2] at f1 f2 s2 v2 ef
    have kS : Kept N T l.epoch (l.epoch + 1) (flS o1).dsk := by
      rw [e2, ef]
      exact kept_self s2 v2 (Int.le_refl _) (show l.epoch ≤ l.epoch + 1 by omega)
    have p2 : Ph S2 (one0 (layS (superL (l.epoch + 1)))) (flS o1).dsk := by
      rw [e2]
      have hr := flush_right r2
      have := ph_none hr (flush_pend r2) (one0 (layS (superL (l.epoch + 1))))
      rw [hS2] at this
      exact this
    have p3 := p2.wr x0 ⟨by rw [hxs]; rfl, by rw [hxb]; exact layS_trim _⟩
    have k3 := ck_super h hE hN s2 v2 f1 f2 p3
    rcases fl_cases (wrS (flS o1) x0) with ⟨c4, e4⟩ | ⟨c3, c4, e4, r4⟩
    · rw [e4]
      exact ⟨k3, fun h0 => absurd h0 c4⟩
    · have hfin : Sound (newL (flS (wrS (flS o1) x0)) (l.epoch + 1)) ∧ HasV (newL (flS (wrS (flS o1) x0)) (l.epoch + 1)) N T := by
        rcases wr_cases (flS o1) x0 with ⟨c3', _⟩ | ⟨_, _, e3, _⟩
        · exact absurd c3 c3'
        · have hat : ∀ k : Nat, sec (flushD (wrS (flS o1) x0).dsk).secs k = if k = 0 then layS (superL (l.epoch + 1)) else sec S2 k := fun k => by
            rw [flush_at r4, e3, write_tells, hxs, hxb, layS_trim, e2, tells_same _ _ (flush_pend r2), hS2]
            by_cases hk : k = 0
            · rw [if_pos hk, if_pos (by omega)]
            · rw [if_neg hk, if_neg (by omega)]; rfl
          have hlen : (flushD (wrS (flS o1) x0).dsk).secs.length = N := by
            rw [flush_len r4, p3.secs, ← v2.1]
          have hpd := flush_pend r4
          have hrt := flush_right r4
          rw [same_dsk hpd] at hrt
          have := ck_new h hE hN (T := T) (S := (flushD (wrS (flS o1) x0).dsk).secs) (flS (wrS (flS o1) x0)).left hlen hrt (fun n h1 h2 => by rw [hat, if_neg (by omega)]; exact f1 n h1 h2) (by rw [hat, if_pos rfl]) (fun j h0 hj => by rw [hat, if_neg (by omega)]; exact f2 j hj)
          unfold newL
          rw [e4, hpd]
          exact this
      refine ⟨?_, fun _ => hfin⟩
      have := kept_self hfin.1 hfin.2 (E1 := l.epoch) (E2 := l.epoch + 1) (show l.epoch ≤ l.epoch + 1 by omega) (Int.le_refl _)
      exact this
end Go.Proofs.YthnmnnlbglpjaaaGreatDoor
