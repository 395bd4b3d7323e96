/- A transaction's record, wherever the power goes in it; plain. -/
import Derived.Test.YthnmnnlbglpjaaaGreatDoorWp3
namespace Go.Proofs.YthnmnnlbglpjaaaGreatDoor
open Go.RowKit
set_option linter.unusedVariables false

/-- what is told behind writes -/
def updT (T : Nat → ByteArray) (xs : List Wrt) (n : Nat) : ByteArray := match xs.find? (isAt n) with
  | some x => trimS x.bytes
  | none => T n
theorem find_with (x : Wrt) (n : Int) : ∀ d : List Wrt, (withW x d).find? (isAt n) = if x.sector = n then some x else d.find? (isAt n)
  | [] => by
    show List.find? (isAt n) [x] = _
    by_cases e : x.sector = n
    · rw [if_pos e, List.find?_cons_of_pos (isAt_iff.2 e)]
    · rw [if_neg e, List.find?_cons_of_neg (fun h => e (isAt_iff.1 h))]
  | y :: l => by
    have ih := find_with x n l
    unfold withW
    by_cases h1 : y.sector < x.sector
    · rw [if_pos h1]
      by_cases hy : y.sector = n
      · rw [List.find?_cons_of_pos (isAt_iff.2 hy), if_neg (by omega), List.find?_cons_of_pos (isAt_iff.2 hy)]
      · rw [List.find?_cons_of_neg (fun h => hy (isAt_iff.1 h)), ih, List.find?_cons_of_neg (fun h => hy (isAt_iff.1 h))]
    · rw [if_neg h1]
      by_cases h2 : y.sector = x.sector
      · rw [if_pos h2]
        by_cases e : x.sector = n
        · rw [if_pos e, List.find?_cons_of_pos (isAt_iff.2 e)]
        · rw [if_neg e, List.find?_cons_of_neg (fun h => e (isAt_iff.1 h)), List.find?_cons_of_neg (fun h => e (by rw [← h2]; exact isAt_iff.1 h))]
      · rw [if_neg h2]
        by_cases e : x.sector = n
        · rw [if_pos e, List.find?_cons_of_pos (isAt_iff.2 e)]
        · rw [if_neg e, List.find?_cons_of_neg (fun h => e (isAt_iff.1 h))]
theorem find_fold (n : Int) : ∀ (xs d : List Wrt), (xs.map Wrt.sector).Nodup → (xs.foldl withT d).find? (isAt n) = match xs.find? (isAt n) with
    | some x => some ⟨x.sector, trimS x.bytes⟩
    | none => d.find? (isAt n)
  | [], d, _ => rfl
  | x :: xs, d, hn => by
    rw [List.map_cons, List.nodup_cons] at hn
    rw [List.foldl_cons, find_fold n xs (withT d x) hn.2]
    have hw : (withT d x).find? (isAt n) = if x.sector = n then some ⟨x.sector, trimS x.bytes⟩ else d.find? (isAt n) := find_with ⟨x.sector, trimS x.bytes⟩ n d
    by_cases e : x.sector = n
    · rw [List.find?_cons_of_pos (isAt_iff.2 e)]
      have hno : xs.find? (isAt n) = none := by
        rw [List.find?_eq_none]
        exact fun y hy h => hn.1 (by rw [e, ← isAt_iff.1 h]; exact List.mem_map_of_mem hy)
      rw [hno, hw, if_pos e]
    · rw [List.find?_cons_of_neg (fun h => e (isAt_iff.1 h)), hw, if_neg e]
theorem fold_trim : ∀ (xs d : List Wrt), (xs.map (fun x : Wrt => (⟨x.sector, trimS x.bytes⟩ : Wrt))).foldl withT d = xs.foldl withT d
  | [], d => rfl
  | x :: xs, d => by
    have e : withT d ⟨x.sector, trimS x.bytes⟩ = withT d x := by unfold withT; rw [trimS_twice]
    rw [List.map_cons, List.foldl_cons, List.foldl_cons, e]
    exact fold_trim xs _
def logA (l : Lg) (m : Nat) (k : Nat) (_ : ByteArray) : Prop := (13 + l.used ≤ k ∧ (k : Int) < 13 + l.used + m) ∨ (k : Int) = 1 + l.seq
theorem log_one {l : Lg} (h : Sound l) {N : Nat} {T : Nat → ByteArray} (hv : HasV l N T) {m : Nat} (hs : l.seq < 6) (hm : l.used + m ≤ 40) {d : Dsk} (hp : Ph l.secs (logA l m) d) (keep : List Bool) :
    ∃ S', crashD d keep = ⟨S', []⟩ ∧ Sound ⟨S', [], l.left, l.epoch, l.seq, l.used, l.dirty⟩ ∧ HasV ⟨S', [], l.left, l.epoch, l.seq, l.used, l.dirty⟩ N T ∧ ∀ k, sec S' k = sec l.secs k ∨ logA l m k (sec S' k) := by
  obtain ⟨n1, n2, n3⟩ := right_nums h.right
  obtain ⟨S', e, hl, hr, hk⟩ := hp.crash keep
  have hsame : ∀ k : Nat, ¬ ((13 + l.used ≤ k ∧ (k : Int) < 13 + l.used + m) ∨ (k : Int) = 1 + l.seq) → sec S' k = sec l.secs k := fun k hno => (hk k).resolve_right hno
  refine ⟨S', e, h.move hr hl (hsame 0 (by omega)) (fun j hj => hsame _ (by omega)) (fun j hj => hsame _ (by omega)) (fun i hi => hsame _ (by omega)), ⟨hl.trans hv.1, fun n h1 h2 => ?_⟩, hk⟩
  rw [← hv.2 n h1 h2, tells_bare rfl, tells_bare h.pend]
  show (match l.dirty.find? (isAt n) with
    | some x => x.bytes
    | none => sec S' n) = _
  rw [hsame n (by omega)]
  rfl
theorem imgs_is {S : List ByteArray} {E q u : Int} {xs : List Wrt} (hq : 0 ≤ q) (hu : 0 ≤ u) (hh : headOk E q (xs.map Wrt.sector) = true) (h1 : sec S (1 + q.toNat) = layS (headL E q (xs.map Wrt.sector))) (h13 : ∀ i : Nat, i < xs.length → sec S (13 + u.toNat + i) = trimS (xs.getD i wrtZ).bytes) :
    imgs S q u = xs.map (fun x : Wrt => (⟨x.sector, trimS x.bytes⟩ : Wrt)) := by
  have ht : tgtAt S q = xs.map Wrt.sector := by unfold tgtAt; rw [h1, (head_is hh).2]
  unfold imgs
  rw [ht]
  unfold imgW
  apply List.ext_getElem
  · simp
  · intro i k1 k2
    have hi : i < xs.length := by simpa using k1
    have := h13 i hi
    rw [show xs.getD i wrtZ = xs[i] from by simp [List.getD, hi]] at this
    unfold sec at this
    simp only [List.getElem_map, List.getElem_range]
    show (⟨(xs.map Wrt.sector).getD i 0, S.getD (13 + u.toNat + i) ⟨#[]⟩⟩ : Wrt) = _
    rw [this]
    simp [List.getD, hi]
/-- the transaction stands -/
theorem log_new {l : Lg} (h : Sound l) {N : Nat} {T : Nat → ByteArray} (hv : HasV l N T) {xs : List Wrt} (ha : allowL N xs = true) (h0 : xs.length ≠ 0) (hs : l.seq < 6) (hm : l.used + xs.length ≤ 40) {S : List ByteArray} (L : Int) (hl : S.length = N) (hr : rightD ⟨S, []⟩ = true)
    (hh : sec S (1 + l.seq.toNat) = layS (headL l.epoch l.seq (xs.map Wrt.sector))) (hi : ∀ i : Nat, i < xs.length → sec S (13 + l.used.toNat + i) = trimS (xs.getD i wrtZ).bytes) (hc : sec S (7 + l.seq.toNat) = layS (commitL l.epoch l.seq))
    (hk : ∀ k : Nat, (k : Int) = 7 + l.seq ∨ sec S k = sec l.secs k ∨ logA l xs.length k (sec S k)) :
    Sound ⟨S, [], L, l.epoch, l.seq + 1, l.used + xs.length, xs.foldl withT l.dirty⟩ ∧ HasV ⟨S, [], L, l.epoch, l.seq + 1, l.used + xs.length, xs.foldl withT l.dirty⟩ N (updT T xs) := by
  obtain ⟨n1, n2, n3⟩ := right_nums h.right
  obtain ⟨d1, d2, d3⟩ := right_dirty h.right
  have h64 := right_64 h.right
  have hN := hv.1
  have hN256 : N ≤ 256 := by omega
  have hho : headOk l.epoch l.seq (xs.map Wrt.sector) = true := allow_head hN256 ha h0 (by omega) n1 ⟨n2.1, hs⟩
  have hsame : ∀ k : Nat, (k : Int) ≠ 7 + l.seq → ¬ ((13 + l.used ≤ k ∧ (k : Int) < 13 + l.used + xs.length) ∨ (k : Int) = 1 + l.seq) → sec S k = sec l.secs k := fun k e1 e2 => ((hk k).resolve_left e1).resolve_right e2
  have hch : Chain l.epoch S l.seq l.used l.dirty := h.chain.mono (hl.trans hN.symm) (fun j hj => hsame _ (by omega) (by omega)) (fun j hj => hsame _ (by omega) (by omega)) (fun i hi => hsame _ (by omega) (by omega))
  have him := imgs_is n2.1 n3.1 hho hh hi
  obtain ⟨c1, c2, c3⟩ := commit_is n1 (⟨n2.1, hs⟩ : 0 ≤ l.seq ∧ l.seq < 6)
  obtain ⟨e1, e2⟩ := head_is hho
  have hst : StandP (bareL l.epoch S l.seq l.used l.dirty) := by
    have a1 : headS (bareL l.epoch S l.seq l.used l.dirty) = layS (headL l.epoch l.seq (xs.map Wrt.sector)) := hh
    have a2 : comS5 (bareL l.epoch S l.seq l.used l.dirty) = layS (commitL l.epoch l.seq) := hc
    unfold StandP
    rw [a1, a2, e1, e2, c1, c2, c3]
    refine ⟨rfl, rfl, rfl, fun t ht => ?_, ?_, rfl, rfl, rfl⟩
    · obtain ⟨x, hx, rfl⟩ := List.mem_map.1 ht
      have := home_bnd (allow_may ha x hx).1 hN256
      show x.sector < ((S.length : Nat) : Int)
      omega
    · show l.used + (((xs.map Wrt.sector).length : Nat) : Int) ≤ 40
      rw [List.length_map]; exact hm
  have hstep := Chain.step hch hst
  rw [him, List.length_map, fold_trim] at hstep
  refine ⟨⟨?_, rfl, ?_, ?_, hstep, ?_⟩, hl, fun n k1 k2 => ?_⟩
  · rw [rightL_eq, Bool.and_eq_true, Bool.and_eq_true, Bool.and_eq_true]
    refine ⟨⟨⟨hr, decide_eq_true (show 64 ≤ S.length by omega)⟩, decide_eq_true ⟨n1, ⟨show 0 ≤ l.seq + 1 by omega, show l.seq + 1 ≤ 6 by omega⟩, ⟨show 0 ≤ l.used + xs.length by omega, hm⟩⟩⟩, ?_⟩
    show dirtyB S.length (-1) (xs.foldl withT l.dirty) = true
    rw [hl]
    exact fold_with xs l.dirty (fun x hx => allow_may ha x hx) (by rw [← hN]; exact d1)
  · show superE (sec S 0) = 0
    rw [hsame 0 (by omega) (by omega)]; exact h.supE
  · show superV (sec S 0) = l.epoch
    rw [hsame 0 (by omega) (by omega)]; exact h.supV
  · intro j hj hcj
    by_cases e : (j : Int) = l.seq
    · right
      obtain rfl : j = l.seq.toNat := by omega
      refine ⟨?_, show ((l.seq.toNat : Nat) : Int) < l.seq + 1 by omega⟩
      show commitV (sec S (7 + l.seq.toNat)) = l.epoch
      rw [hc]; exact c2
    · have hj' := hsame (7 + j) (by omega) (by omega)
      have hcj' : commitE (sec S (7 + j)) = 0 := hcj
      rw [hj'] at hcj'
      have := h.coms j hj hcj'
      show commitV (sec S (7 + j)) < l.epoch ∨ (commitV (sec S (7 + j)) = l.epoch ∧ (j : Int) < l.seq + 1)
      rw [hj']
      omega
  · rw [tells_bare rfl]
    have hf := find_fold (n : Int) xs l.dirty (allow_facts ha).2
    show (match (xs.foldl withT l.dirty).find? (isAt n) with
      | some x => x.bytes
      | none => sec S n) = updT T xs n
    rw [hf]
    unfold updT
    cases hx : xs.find? (isAt (n : Int)) with
    | some x => rfl
    | none =>
      show (match l.dirty.find? (isAt n) with
        | some x => x.bytes
        | none => sec S n) = T n
      rw [← hv.2 n k1 k2, tells_bare h.pend, hsame n (by omega) (by omega)]
      rfl
def Kept2 (N : Nat) (T T' : Nat → ByteArray) (E1 E2 : Int) (d : Dsk) : Prop := ∀ keep, ∃ l', Sound l' ∧ crashD d keep = l'.dsk ∧ (HasV l' N T ∨ HasV l' N T') ∧ E1 ≤ l'.epoch ∧ l'.epoch ≤ E2
theorem Kept.two {N : Nat} {T T' : Nat → ByteArray} {E1 E2 E1' E2' : Int} {d : Dsk} (h : Kept N T E1 E2 d) (h1 : E1' ≤ E1) (h2 : E2 ≤ E2') : Kept2 N T T' E1' E2' d := fun keep => by
  obtain ⟨l', a, b, c, e1, e2⟩ := h keep
  exact ⟨l', a, b, .inl c, by omega, by omega⟩
theorem Kept.two' {N : Nat} {T T' : Nat → ByteArray} {E1 E2 : Int} {d : Dsk} (h : Kept N T' E1 E2 d) : Kept2 N T T' E1 E2 d := fun keep => by
  obtain ⟨l', a, b, c, e⟩ := h keep
  exact ⟨l', a, b, .inr c, e⟩
def oneC (q : Int) (b : ByteArray) (k : Nat) (c : ByteArray) : Prop := (k : Int) = 7 + q ∧ c = b
theorem img_at {l : Lg} {xs : List Wrt} {d : Dsk} (hp : d.pend = []) (hu : 0 ≤ l.used) (i : Nat) (hi : i < xs.length) : tells (wrD d (imgL l.used xs)) (13 + l.used.toNat + i) = trimS (xs.getD i wrtZ).bytes := by
  have hm : (imgL l.used xs).getD i wrtZ ∈ imgL l.used xs := by
    have : i < (imgL l.used xs).length := by rw [imgL_len]; exact hi
    simp [List.getD, this]
  rw [imgL_get _ _ _ hi] at hm
  have hn : ((imgL l.used xs).map Wrt.sector).Nodup := by
    unfold imgL
    rw [List.map_map]
    show List.Pairwise (· ≠ ·) _
    rw [List.pairwise_map]
    refine List.Pairwise.imp (fun {a b} hab e => hab ?_) List.nodup_range
    have : (13 + l.used + (a : Int)) = 13 + l.used + (b : Int) := e
    omega
  have := wrD_at (imgL l.used xs) d (13 + l.used.toNat + i) hn _ hm (show 13 + l.used + (i : Int) = ((13 + l.used.toNat + i : Nat) : Int) by omega)
  exact this
theorem log_all {l : Lg} (h : Sound l) {N : Nat} {T : Nat → ByteArray} (hv : HasV l N T) {xs : List Wrt} (ha : allowL N xs = true) (h0 : xs.length ≠ 0) (hs : l.seq < 6) (hm : l.used + xs.length ≤ 40) :
    Kept2 N T (updT T xs) l.epoch l.epoch (logO ⟨l.dsk, l.left, 0⟩ l xs).dsk ∧ ((logO ⟨l.dsk, l.left, 0⟩ l xs).code = 0 → Sound (tkL (logO ⟨l.dsk, l.left, 0⟩ l xs) l xs) ∧ HasV (tkL (logO ⟨l.dsk, l.left, 0⟩ l xs) l xs) N (updT T xs)) := by
  obtain ⟨d1, d2, d3⟩ := right_dirty h.right
  obtain ⟨n1, n2, n3⟩ := right_nums h.right
  have hN : l.secs.length = N := hv.1
  have hb1 : Ph l.secs (logA l xs.length) ((imgL l.used xs).foldl wrS ⟨l.dsk, l.left, 0⟩).dsk :=
    Ph.fold _ (o := ⟨l.dsk, l.left, 0⟩) (ph_none d3 h.pend _) (fun y hy => by
      obtain ⟨i, hi, rfl⟩ := img_mem hy
      left
      show 13 + l.used ≤ (((13 + l.used + (i : Int)).toNat : Nat) : Int) ∧ (((13 + l.used + (i : Int)).toNat : Nat) : Int) < 13 + l.used + xs.length
      omega)
  unfold logO
  have hc1 := fold_cases (imgL l.used xs) ⟨l.dsk, l.left, 0⟩
  obtain ⟨o1, ho1⟩ : ∃ o1, (imgL l.used xs).foldl wrS ⟨l.dsk, l.left, 0⟩ = o1 := ⟨_, rfl⟩
  rw [ho1] at hb1 hc1 ⊢
  obtain ⟨x1, hx1⟩ : ∃ x1 : Wrt, (⟨1 + l.seq, layS (headL l.epoch l.seq (xs.map Wrt.sector))⟩ : Wrt) = x1 := ⟨_, rfl⟩
  have hx1s : x1.sector = 1 + l.seq := by rw [← hx1]
  have hx1b : x1.bytes = layS (headL l.epoch l.seq (xs.map Wrt.sector)) := by rw [← hx1]
  obtain ⟨x2, hx2⟩ : ∃ x2 : Wrt, (⟨7 + l.seq, layS (commitL l.epoch l.seq)⟩ : Wrt) = x2 := ⟨_, rfl⟩
  have hx2s : x2.sector = 7 + l.seq := by rw [← hx2]
  have hx2b : x2.bytes = layS (commitL l.epoch l.seq) := by rw [← hx2]
  rw [hx1, hx2]
  have hb2 : Ph l.secs (logA l xs.length) (wrS o1 x1).dsk := hb1.wr x1 (.inr (by rw [hx1s]; omega))
  have k2 : Kept N T l.epoch l.epoch (wrS o1 x1).dsk := fun keep => by
    obtain ⟨S', e, a1, a2, _⟩ := log_one h hv hs hm hb2 keep
    exact ⟨_, a1, e, a2, Int.le_refl _, Int.le_refl _⟩
  have hc2 := wr_cases o1 x1
  obtain ⟨o2, ho2⟩ : ∃ o2, wrS o1 x1 = o2 := ⟨_, rfl⟩
  rw [ho2] at hb2 k2 hc2 ⊢
  rcases fl_cases o2 with ⟨c3, e3⟩ | ⟨c2, c3, e3, r3⟩
  · rcases wr_cases (flS o2) x2 with ⟨c4, e4⟩ | ⟨c4, _⟩
    · rcases fl_cases (wrS (flS o2) x2) with ⟨c5, e5⟩ | ⟨c5, _⟩
      · rw [e5, e4, e3]
        exact ⟨k2.two (Int.le_refl _) (Int.le_refl _), fun h0 => absurd h0 c5⟩
      · exact absurd c5 c4
    · exact absurd c4 c3
  · rcases hc2 with ⟨c2', _⟩ | ⟨c1, _, e2, _⟩
    · exact absurd c2 c2'
    · obtain ⟨_, w1⟩ := hc1 c1
      have w1' : o1.dsk = wrD l.dsk (imgL l.used xs) := w1
      obtain ⟨S3, eS3, s3, v3, k3⟩ := log_one h hv hs hm hb2 (List.replicate o2.dsk.pend.length true)
      have ef : flushD o2.dsk = ⟨S3, []⟩ := eS3
      have hat : ∀ k : Nat, sec S3 k = if (k : Int) = 1 + l.seq then layS (headL l.epoch l.seq (xs.map Wrt.sector)) else tells (wrD l.dsk (imgL l.used xs)) k := fun k => by
        have := flush_at r3 k
        rw [ef, e2, write_tells, hx1s, hx1b, layS_trim, w1'] at this
        show sec S3 k = _
        rw [show sec S3 k = _ from this]
        by_cases hk : (k : Int) = 1 + l.seq
        · rw [if_pos hk, if_pos hk.symm]
        · rw [if_neg hk, if_neg (fun e => hk e.symm)]
      have hS3h : sec S3 (1 + l.seq.toNat) = layS (headL l.epoch l.seq (xs.map Wrt.sector)) := by rw [hat, if_pos (by omega)]
      have hS3i : ∀ i : Nat, i < xs.length → sec S3 (13 + l.used.toNat + i) = trimS (xs.getD i wrtZ).bytes := fun i hi => by
        rw [hat, if_neg (by omega)]; exact img_at h.pend n3.1 i hi
      have p3 : Ph S3 (oneC l.seq (layS (commitL l.epoch l.seq))) (flS o2).dsk := by
        rw [e3]
        have := ph_none (flush_right r3) (flush_pend r3) (oneC l.seq (layS (commitL l.epoch l.seq)))
        rw [ef] at this ⊢
        exact this
      have p4 := p3.wr x2 ⟨by rw [hx2s]; omega, by rw [hx2b]; exact layS_trim _⟩
      have k4 : Kept2 N T (updT T xs) l.epoch l.epoch (wrS (flS o2) x2).dsk := fun keep => by
        obtain ⟨S', e, hl, hr, hk⟩ := p4.crash keep
        have hl3 : S'.length = N := hl.trans v3.1
        have hne : ∀ k : Nat, (k : Int) ≠ 7 + l.seq → sec S' k = sec S3 k := fun k e1 => (hk k).resolve_right (fun e2 => e1 e2.1)
        rcases hk (7 + l.seq.toNat) with e0 | ⟨_, e0⟩
        · have hall : ∀ k : Nat, sec S' k = sec S3 k := fun k => by
            by_cases e1 : (k : Int) = 7 + l.seq
            · obtain rfl : k = 7 + l.seq.toNat := by omega
              exact e0
            · exact hne k e1
          have := s3.low hr hl (fun j _ => hall j)
          refine ⟨_, this, e, .inl ⟨hl3, fun n h1 h2 => ?_⟩, Int.le_refl _, Int.le_refl _⟩
          rw [← v3.2 n h1 h2, tells_bare rfl, tells_bare rfl]
          show (match l.dirty.find? (isAt n) with
            | some x => x.bytes
            | none => sec S' n) = match l.dirty.find? (isAt n) with
            | some x => x.bytes
            | none => sec S3 n
          rw [hall n]
        · obtain ⟨a1, a2⟩ := log_new h hv ha h0 hs hm (S := S') l.left hl3 hr (by rw [hne _ (by omega)]; exact hS3h) (fun i hi => by rw [hne _ (by omega)]; exact hS3i i hi) e0 (fun k => by
            by_cases e1 : (k : Int) = 7 + l.seq
            · exact .inl e1
            · rw [hne k e1]; exact .inr (k3 k))
          exact ⟨_, a1, e, .inr a2, Int.le_refl _, Int.le_refl _⟩
      rcases fl_cases (wrS (flS o2) x2) with ⟨c5, e5⟩ | ⟨c4, c5, e5, r5⟩
      · rw [e5]
        exact ⟨k4, fun h0 => absurd h0 c5⟩
      · have hfin : Sound (tkL (flS (wrS (flS o2) x2)) l xs) ∧ HasV (tkL (flS (wrS (flS o2) x2)) l xs) N (updT T xs) := by
          rcases wr_cases (flS o2) x2 with ⟨c4', _⟩ | ⟨_, _, e4, _⟩
          · exact absurd c4 c4'
          · have hpd := flush_pend r5
            have hrt := flush_right r5
            rw [same_dsk hpd] at hrt
            have hat5 : ∀ k : Nat, sec (flushD (wrS (flS o2) x2).dsk).secs k = if (k : Int) = 7 + l.seq then layS (commitL l.epoch l.seq) else sec S3 k := fun k => by
              rw [flush_at r5, e4, write_tells, hx2s, hx2b, layS_trim, e3, tells_same _ _ (flush_pend r3), ef]
              by_cases hk : (k : Int) = 7 + l.seq
              · rw [if_pos hk, if_pos hk.symm]
              · rw [if_neg hk, if_neg (fun e => hk e.symm)]; rfl
            have hlen : (flushD (wrS (flS o2) x2).dsk).secs.length = N := by rw [flush_len r5, p4.secs, ← v3.1]
            obtain ⟨a1, a2⟩ := log_new h hv ha h0 hs hm (S := (flushD (wrS (flS o2) x2).dsk).secs) (flS (wrS (flS o2) x2)).left hlen hrt (by rw [hat5, if_neg (by omega)]; exact hS3h) (fun i hi => by rw [hat5, if_neg (by omega)]; exact hS3i i hi) (by rw [hat5, if_pos (by omega)]) (fun k => by
              by_cases e1 : (k : Int) = 7 + l.seq
              · exact .inl e1
              · rw [hat5 k, if_neg e1]; exact .inr (k3 k))
            unfold tkL takenL
            rw [e5, hpd]
            exact ⟨a1, a2⟩
        exact ⟨(kept_self hfin.1 hfin.2 (E1 := l.epoch) (E2 := l.epoch) (Int.le_refl _) (Int.le_refl _)).two', fun _ => hfin⟩
end Go.Proofs.YthnmnnlbglpjaaaGreatDoor
