/- The reference's Commit. -/
import Derived.Test.YthnmnnlbglpjaaaGreatDoorRf5C
import Derived.Test.YthnmnnlbglpjaaaGreatDoorRf5D
import Derived.Test.YthnmnnlbglpjaaaGreatDoorPkE
import Derived.Test.YthnmnnlbglpjaaaGreatDoorQTail
namespace Go.Proofs.YthnmnnlbglpjaaaGreatDoor
open Go.RowKit
set_option linter.unusedVariables false
set_option linter.unusedSimpArgs false

def hdC (L : Lg) (xs : List Wrt) : Wrt := ⟨1 + L.seq, layS (headL L.epoch L.seq (xs.map Wrt.sector))⟩
def coC (L : Lg) : Wrt := ⟨7 + L.seq, layS (commitL L.epoch L.seq)⟩
def comC (L : Lg) (xs : List Wrt) : List Wrt := imgL L.used xs ++ [hdC L xs, flC] ++ [coC L, flC]
theorem com_calls (L : Lg) (xs : List Wrt) (o : Outc) (hu : 0 ≤ L.used) (hs : 0 ≤ L.seq) : (comC L xs).foldl caS o = logO o L xs := by
  unfold comC logO
  rw [List.foldl_append, List.foldl_append, ca_writes (imgL L.used xs) o (fun x hx => by
    obtain ⟨i, hi, rfl⟩ := img_mem hx
    show (0 : Int) ≤ 13 + L.used + i
    omega)]
  show caS (caS (caS (caS _ (hdC L xs)) ⟨-1, ⟨#[]⟩⟩) (coC L)) ⟨-1, ⟨#[]⟩⟩ = _
  rw [ca_flush, ca_flush, ca_write _ (hdC L xs) (show (0 : Int) ≤ 1 + L.seq by omega), ca_write _ (coC L) (show (0 : Int) ≤ 7 + L.seq by omega)]
  rfl
/-- what the reference's record asks of a log -/
structure TailOk (L : Lg) (xs : List Wrt) : Prop where
  head : headOk L.epoch L.seq (xs.map Wrt.sector) = true
  epoch : 1 ≤ L.epoch ∧ L.epoch ≤ 1099511627776
  seq : 0 ≤ L.seq ∧ L.seq < 6
  used : 0 ≤ L.used ∧ L.used + xs.length ≤ 40
  pend : L.pend.length ≤ 900
  ok : i64ok L.left
  dirty : dirtyB L.secs.length (-1) L.dirty = true
  small : L.secs.length ≤ 256
  may : ∀ x ∈ xs, mayW L.secs.length x
  told : (logO ⟨L.dsk, L.left, 0⟩ L xs).code = 0 ∨ (logO ⟨L.dsk, L.left, 0⟩ L xs).code = 21
theorem right_64 {l : Lg} (hr : rightL l = true) : 64 ≤ l.secs.length := by
  rw [rightL_eq] at hr
  simp only [Bool.and_eq_true, decide_eq_true_eq] at hr
  exact hr.1.1.2
theorem head_nums {E S : Int} {l : List Int} (h : headOk E S l = true) : (1 ≤ E ∧ E ≤ 1099511627776) ∧ (0 ≤ S ∧ S < 6) := by
  unfold headOk at h
  rw [Bool.and_eq_true, Bool.and_eq_true] at h
  exact ⟨of_decide_eq_true h.1, of_decide_eq_true h.2.1⟩
theorem tail_at {l : Lg} {xs : List Wrt} (hr : rightL l = true) (ha : allowL l.secs.length xs = true) (h0 : xs.length ≠ 0) (h1 : xs.length ≤ 40) (hf : fullB l xs.length = false) (hp : l.pend.length ≤ 600) (hk : i64ok l.left) : TailOk l xs := by
  have hR := ready_at hr ha h0 h1 hf hp hk
  obtain ⟨e1, e2⟩ := head_nums hR.head
  unfold fullB at hf
  rw [decide_eq_false_iff_not] at hf
  have hu : 0 ≤ l.used ∧ l.used + xs.length ≤ 40 := ⟨hR.used.1, by omega⟩
  exact ⟨hR.head, e1, e2, hu, hR.pend, hk, hR.dirty, hR.small, hR.may, (log_fair (l := l) (xs := xs) (N := l.secs.length) (o := ⟨l.dsk, l.left, 0⟩) ⟨.inl rfl, (right_dirty hr).2.2, rfl⟩ (right_64 hr) hu e2 (fun x hx => (hR.may x hx).2)).code⟩
theorem tail_ck {l : Lg} {xs : List Wrt} (hr : rightL l = true) (ha : allowL l.secs.length xs = true) (h0 : xs.length ≠ 0) (h1 : xs.length ≤ 40) (hE : ckE l = 0) (hp : l.pend.length ≤ 600) (hk : i64ok l.left) : TailOk (ckL l) xs := by
  have hR := ready_ck hr ha h0 h1 hE hp hk
  obtain ⟨e1, e2⟩ := head_nums hR.head
  obtain ⟨f1, f2⟩ := ck_done hr hE
  have hF := ck_fair hr
  have hok : i64ok (ckL l).left := by rw [f1]; exact ck_ok l hk
  have hsec : (ckL l).secs.length = l.secs.length := by rw [f1]; exact hF.secs
  have hu : 0 ≤ (ckL l).used ∧ (ckL l).used + xs.length ≤ 40 := by rw [f1]; exact ⟨Int.le_refl _, show (0 : Int) + xs.length ≤ 40 by omega⟩
  refine ⟨hR.head, e1, e2, hu, hR.pend, hok, hR.dirty, hR.small, hR.may, (log_fair (l := ckL l) (xs := xs) (N := l.secs.length) (o := ⟨(ckL l).dsk, (ckL l).left, 0⟩) ⟨.inl rfl, ?_, hsec⟩ (right_64 hr) hu e2 (fun x hx => (hR.may x hx).2)).code⟩
  rw [f1]; exact hF.right
theorem dirty_risesB {N : Nat} : ∀ {p : Int} {l : List Wrt}, dirtyB N p l = true → risesB p l
  | _, [], _ => trivial
  | p, x :: l, h => by
    unfold dirtyB at h
    rw [Bool.and_eq_true, Bool.and_eq_true, Bool.and_eq_true] at h
    exact ⟨of_decide_eq_true h.1.1.2, dirty_risesB h.2⟩
theorem fold_withE {N : Nat} {d xs : List Wrt} (hd : dirtyB N (-1) d = true) (hm : ∀ x ∈ xs, mayW N x) (i : Nat) (hi : i < xs.length) :
    withE ⟨(xs.getD i wrtZ).sector, trimS (xs.getD i wrtZ).bytes⟩ ((xs.take i).foldl withT d) = (xs.take (i + 1)).foldl withT d := by
  have h1 := fold_with (xs.take i) d (fun x hx => hm x (List.mem_of_mem_take hx)) hd
  rw [withE_rises _ _ _ (dirty_risesB h1), fold_take d xs i hi]
  rfl
theorem com_bounded (M : Lg) (xs : List Wrt) (h : TailOk M xs) (hb : ∀ x ∈ xs, x.bounded) : ∀ x ∈ comC M xs, x.bounded := by
  have hu := h.used
  have hs := h.seq
  have hfl : flC.bounded := ⟨⟨by show (-9223372036854775808 : Int) ≤ -1; decide, by show (-1 : Int) ≤ 9223372036854775807; decide⟩, by show 0 ≤ _; omega⟩
  intro x hx
  unfold comC at hx
  rcases List.mem_append.1 hx with hx | hx
  · rcases List.mem_append.1 hx with hx | hx
    · obtain ⟨i, hi, rfl⟩ := img_mem hx
      exact ⟨⟨show -9223372036854775808 ≤ 13 + M.used + (i : Int) by omega, show 13 + M.used + (i : Int) ≤ 9223372036854775807 by omega⟩, (hb _ (getD_memW hi)).2⟩
    · simp only [List.mem_cons, List.not_mem_nil, or_false] at hx
      rcases hx with rfl | rfl
      · exact ⟨⟨show -9223372036854775808 ≤ 1 + M.seq by omega, show 1 + M.seq ≤ 9223372036854775807 by omega⟩, layS_small _ (by rw [headL_len, List.length_map]; omega)⟩
      · exact hfl
  · simp only [List.mem_cons, List.not_mem_nil, or_false] at hx
    rcases hx with rfl | rfl
    · exact ⟨⟨show -9223372036854775808 ≤ 7 + M.seq by omega, show 7 + M.seq ≤ 9223372036854775807 by omega⟩, layS_small _ (by unfold commitL; simp only [List.length_append, fieldsL_len, List.length_cons, List.length_nil]; omega)⟩
    · exact hfl
/-- the targets, as cells -/
def tcells (xs : List Wrt) (i : Nat) : List Value := ((xs.map Wrt.sector).take i).map encI
theorem own_tags {w : World} {base base' : Nat} {e e' : TypeId} {size size' : Nat} {v v' : Value} {n n' : Nat} {xs xs' : List Value} (h : w.ownsRow base e size v n xs) (h' : ownsE w base' e' size' v' n' xs') (hne : e ≠ e') (hb : base' ≤ base) : v.ownBlock = none ∨ v.ownBlock ≠ v'.ownBlock := by
  rcases h.2 with ⟨rfl, _⟩ | ⟨g, cap, cur, rfl, hg, hh, _⟩
  · exact .inl rfl
  · refine .inr (fun he => ?_)
    rcases h' with h' | ⟨_, _, E, rfl, hE⟩
    · rcases h'.2 with ⟨rfl, _⟩ | ⟨g', cap', cur', rfl, hg', hh', _⟩
      · cases he
      · injection he with he
        have he : g = g' := he
        subst he
        rw [hh] at hh'
        injection hh' with hh'
        injection hh' with _ h2 _
        exact hne h2
    · injection he with he
      have he : g = E := he
      omega
theorem own_tagsE {w : World} {base : Nat} {e e' : TypeId} {size size' : Nat} {v v' : Value} {n n' : Nat} {xs xs' : List Value} (h : ownsE w base e size v n xs) (h' : w.ownsRow base e' size' v' n' xs') (hne : e ≠ e') : v.ownBlock = none ∨ v.ownBlock ≠ v'.ownBlock := by
  rcases h with h | ⟨_, _, E, rfl, hE⟩
  · exact own_tags h (.inl h') hne (Nat.le_refl _)
  · refine .inr (fun he => ?_)
    rcases h'.2 with ⟨rfl, _⟩ | ⟨g', cap', cur', rfl, hg', hh', _⟩
    · cases he
    · injection he with he
      have he : E = g' := he
      omega
set_option maxRecDepth 100000 in
set_option maxHeartbeats 9000000 in
theorem refCom5 (v wv : Value) (l : Lg) (xs : List Wrt) (w : World) (h : IsLog w v l) (hx : IsWrts w wv xs) (hp : l.pend.length ≤ 600) :
    Calls Tryz.prog 11 #[v, wv] w (LogPost (comL l xs) (comE l xs) w) := by
  obtain ⟨x1, x2, x3, x4, x5, x6, rfl, ⟨_, _⟩, ⟨_, _⟩, ⟨_, _⟩, _⟩ := id h.form
  obtain ⟨wa, wc, rfl, hwc1, hwc2⟩ := hx.form
  have hL : comL l xs = if (rightL l && allowL l.secs.length xs) = true then if 40 < xs.length then zeroL else if xs.length = 0 then l else if fullB l xs.length = true then (if ckE l = 0 then doneL (ckL l) xs else ckL l) else doneL l xs else zeroL := rfl
  have hE : comE l xs = if (rightL l && allowL l.secs.length xs) = true then if 40 < xs.length then 30 else if xs.length = 0 then 0 else if fullB l xs.length = true then (if ckE l = 0 then doneE (ckL l) xs else ckE l) else doneE l xs else 1 := rfl
  obtain ⟨CL, hCL⟩ : ∃ CL, comL l xs = CL := ⟨_, rfl⟩
  obtain ⟨CE, hCE⟩ : ∃ CE, comE l xs = CE := ⟨_, rfl⟩
  rw [hCL] at hL ⊢
  rw [hCE] at hE ⊢
  obtain ⟨n, hn⟩ : ∃ n, xs.length = n := ⟨_, rfl⟩
  rw [hn] at hL hE hwc1
  (try rw [hn])
  obtain ⟨B, hB⟩ : ∃ B, w.heap.size = B := ⟨_, rfl⟩
  have HX : Hid (∀ u : World, (w.alloc (.cells #[.slice x1 l.secs.length x2, .slice x3 l.pend.length x4, .int .i64 l.left, .int .i64 l.epoch, .int .i64 l.seq, .int .i64 l.used, .slice x5 l.dirty.length x6] 29)).alloc (.cells #[.slice none 0 0, .slice none 0 0, .int .i64 0, .int .i64 0, .int .i64 0, .int .i64 0, .slice none 0 0] 29) = u →
      u.heap[B]? = some (.cells #[.slice x1 l.secs.length x2, .slice x3 l.pend.length x4, .int .i64 l.left, .int .i64 l.epoch, .int .i64 l.seq, .int .i64 l.used, .slice x5 l.dirty.length x6] 29 (0, 0)) ∧ u.heap[B + 1]? = some (.cells #[.slice none 0 0, .slice none 0 0, .int .i64 0, .int .i64 0, .int .i64 0, .int .i64 0, .slice none 0 0] 29 (0, 0)) ∧ Below w.heap.size w u ∧ u.heap.size = B + 2) := Lib.hid (by
    rintro u rfl
    have b0 := heap_alloc_new w (.cells #[.slice x1 l.secs.length x2, .slice x3 l.pend.length x4, .int .i64 l.left, .int .i64 l.epoch, .int .i64 l.seq, .int .i64 l.used, .slice x5 l.dirty.length x6] 29)
    have e1 := heap_alloc_new (w.alloc (.cells #[.slice x1 l.secs.length x2, .slice x3 l.pend.length x4, .int .i64 l.left, .int .i64 l.epoch, .int .i64 l.seq, .int .i64 l.used, .slice x5 l.dirty.length x6] 29)) (.cells #[.slice none 0 0, .slice none 0 0, .int .i64 0, .int .i64 0, .int .i64 0, .int .i64 0, .slice none 0 0] 29)
    rw [World.size_alloc, hB] at e1
    rw [hB] at b0
    exact ⟨(heap_alloc_old _ _ (lt_of_block b0)).trans b0, e1, ((Below.refl w.heap.size w).alloc (Nat.le_refl _) _).alloc (by simp) _, by rw [World.size_alloc, World.size_alloc, hB]⟩)
  have HB := Lib.hid hB; have HH := Lib.hid h; have HP := Lib.hid hp; have HL := Lib.hid hL; have HE := Lib.hid hE; have HN := Lib.hid hn
  have HWX := Lib.hid (fun u (hu : Below w.heap.size w u) => (by have h := hx.below hu; rw [hn] at h; exact h : IsWrts u (.slice wa n wc) xs))
  have HWB : Hid (∀ x ∈ xs, x.bounded) := Lib.hid (by obtain ⟨_, _, _, _, _, _, _, hh, _⟩ := hx; exact hh)
  have hnc : (n : Int) ≤ wc := by omega
  have hwI : (wc : Int) ≤ 9223372036854775807 := by omega
  clear hB h hp hL hE hCL hCE hx hn
  go_enter Tryz.func11, Tryz.ntmps11
  go_upto_region 1 with fail
  (try rw [HB.out])
  obtain ⟨u, hU⟩ : ∃ u, (w.alloc (.cells #[.slice x1 l.secs.length x2, .slice x3 l.pend.length x4, .int .i64 l.left, .int .i64 l.epoch, .int .i64 l.seq, .int .i64 l.used, .slice x5 l.dirty.length x6] 29)).alloc (.cells #[.slice none 0 0, .slice none 0 0, .int .i64 0, .int .i64 0, .int .i64 0, .int .i64 0, .slice none 0 0] 29) = u := ⟨_, rfl⟩
  rw [hU]
  obtain ⟨hP, hR, hb, hz⟩ := HX.out u hU
  have HPB := Lib.hid hP; have HRB := Lib.hid hR; have HBW := Lib.hid hb; have HZ := Lib.hid hz
  have HRT := refRight5_any _ l u (HH.out.below hb)
  have HMY := Lib.hid (fun x (hx : Below u.heap.size u x) => refMay l.secs.length _ xs x (HWX.out x (hb.trans (hx.mono hb.size))))
  obtain ⟨rl, hrl⟩ : ∃ rl, rightL l = rl := ⟨_, rfl⟩
  obtain ⟨al, hal⟩ : ∃ al, allowL l.secs.length xs = al := ⟨_, rfl⟩
  rw [hrl] at HRT
  have e1 := HL.out; have e2 := HE.out
  rw [hrl, hal] at e1 e2
  rw [hal] at HMY
  (try rw [HN.out] at HMY)
  have HL := Lib.hid e1; have HE := Lib.hid e2
  have HRT := Lib.hid HRT; have HRL := Lib.hid hrl; have HAL := Lib.hid hal
  clear hU HX hP hR hb hz hrl hal e1 e2
  have d0 := below_cell (Below.refl _ u) HPB.out 0 rfl
  have d1 := below_cell (Below.refl _ u) HPB.out 1 rfl
  have d2 := below_cell (Below.refl _ u) HPB.out 2 rfl
  have d3 := below_cell (Below.refl _ u) HPB.out 3 rfl
  have d4 := below_cell (Below.refl _ u) HPB.out 4 rfl
  have d5 := below_cell (Below.refl _ u) HPB.out 5 rfl
  have d6 := below_cell (Below.refl _ u) HPB.out 6 rfl
  have HDS := d0
  have bad : Hid (∀ E : Int, CL = zeroL → CE = E → ∀ u1 : World, Below u.heap.size u u1 → LogPost CL CE w (.returned (.tuple #[.agg #[.slice none 0 0, .slice none 0 0, .int .i64 0, .int .i64 0, .int .i64 0, .int .i64 0, .slice none 0 0], .int .i64 E])) (u1.setRow (B + 1) #[.slice none 0 0, .slice none 0 0, .int .i64 0, .int .i64 0, .int .i64 0, .int .i64 0, .slice none 0 0])) := Lib.hid (by
    rintro E rfl rfl u1 h1
    exact ⟨_, rfl, zero_log _, below_setRow (HBW.out.trans (h1.mono HBW.out.size)) (show w.heap.size ≤ B + 1 by rw [HB.out]; omega) _⟩)
  have HSZ := Lib.hid (fun (u1 : World) (h1 : Below u.heap.size u u1) => setRow_heap u1 (B + 1) _ #[.slice none 0 0, .slice none 0 0, .int .i64 0, .int .i64 0, .int .i64 0, .int .i64 0, .slice none 0 0] _ _ ((h1.block _ (lt_of_block HRB.out)).trans HRB.out))
  cases rl
  · have HF := Lib.hid (bad.out 1 (HL.out.trans (if_neg (by simp))) (HE.out.trans (if_neg (by simp))))
    clear bad HL HE
    go_wp2_with (first
      | (go_at_call 21; refine HRT.out.mono ?_; rintro e u1 ⟨rfl, hb1⟩; have hst := (hb1.block _ (lt_of_block HRB.out)).trans HRB.out)
      | (refine wpList_store_row rfl 29 _ _ rfl (B + 1) #[.slice none 0 0, .slice none 0 0, .int .i64 0, .int .i64 0, .int .i64 0, .int .i64 0, .slice none 0 0] rfl rfl 29 _ hst (by kernel_rfl) rfl (by simp [Value.oneCell']) ?_))
    refine bodyPost_ret (results_row_tmp rfl _ _ (B + 1) _ _ _ _ rfl (HSZ.out u1 hb1) Tryz.underlying29 rfl (by kernel_rfl)) rfl (by exact HF.out u1 hb1)
  go_upto_if 27 with (first
      | (go_at_call 21; refine HRT.out.mono ?_; rintro e u1 ⟨rfl, hb1⟩; have c0 := below_cell hb1 HPB.out 0 rfl)
      | (go_at_call 29; refine (HMY.out _ hb1).mono ?_; rintro e u2 ⟨rfl, hb2⟩))
  have HB2 := Lib.hid (hb1.trans (hb2.mono hb1.size))
  clear d0 d1 d2 d3 d4 d5 d6 hb1 hb2 c0 HDS HRT HMY
  cases al
  · have hst := (HB2.out.block _ (lt_of_block HRB.out)).trans HRB.out
    have HF := Lib.hid (bad.out 1 (HL.out.trans (if_neg (by simp))) (HE.out.trans (if_neg (by simp))))
    clear bad HL HE
    go_wp2_with (first | (refine wpList_store_row rfl 29 _ _ rfl (B + 1) #[.slice none 0 0, .slice none 0 0, .int .i64 0, .int .i64 0, .int .i64 0, .int .i64 0, .slice none 0 0] rfl rfl 29 _ hst (by kernel_rfl) rfl (by simp [Value.oneCell']) ?_))
    refine bodyPost_ret (results_row_tmp rfl _ _ (B + 1) _ _ _ _ rfl (HSZ.out u2 HB2.out) Tryz.underlying29 rfl (by kernel_rfl)) rfl (by exact HF.out u2 HB2.out)
  have e1 := HL.out.trans (if_pos rfl); have e2 := HE.out.trans (if_pos rfl)
  have HL := Lib.hid e1; have HE := Lib.hid e2
  clear e1 e2
  by_cases h40 : 40 < n
  · have hst := (HB2.out.block _ (lt_of_block HRB.out)).trans HRB.out
    have HF := Lib.hid (bad.out 30 (HL.out.trans (if_pos h40)) (HE.out.trans (if_pos h40)))
    have h40I : (40 : Int) < n := by omega
    clear bad HL HE
    go_wp2_with (first | (refine wpList_store_row rfl 29 _ _ rfl (B + 1) #[.slice none 0 0, .slice none 0 0, .int .i64 0, .int .i64 0, .int .i64 0, .int .i64 0, .slice none 0 0] rfl rfl 29 _ hst (by kernel_rfl) rfl (by simp [Value.oneCell']) ?_))
    refine bodyPost_ret (results_row_tmp rfl _ _ (B + 1) _ _ _ _ rfl (HSZ.out u2 HB2.out) Tryz.underlying29 rfl (by kernel_rfl)) rfl (by exact HF.out u2 HB2.out)
  have e1 := HL.out.trans (if_neg h40); have e2 := HE.out.trans (if_neg h40)
  have HL := Lib.hid e1; have HE := Lib.hid e2
  have h40I : ¬ (40 : Int) < n := by omega
  have HP2 := Lib.hid ((HB2.out.block _ (lt_of_block HPB.out)).trans HPB.out)
  have HR2 := Lib.hid ((HB2.out.block _ (lt_of_block HRB.out)).trans HRB.out)
  have HW2 := Lib.hid (HBW.out.trans (HB2.out.mono HBW.out.size))
  have HZ2 := Lib.hid (show B + 2 ≤ u2.heap.size by rw [← HZ.out]; exact HB2.out.size)
  clear e1 e2 bad HSZ HPB HRB HBW HB2 HZ
  have d0 := below_cell (Below.refl _ u2) HP2.out 0 rfl
  have d1 := below_cell (Below.refl _ u2) HP2.out 1 rfl
  have d2 := below_cell (Below.refl _ u2) HP2.out 2 rfl
  have d3 := below_cell (Below.refl _ u2) HP2.out 3 rfl
  have d4 := below_cell (Below.refl _ u2) HP2.out 4 rfl
  have d5 := below_cell (Below.refl _ u2) HP2.out 5 rfl
  have d6 := below_cell (Below.refl _ u2) HP2.out 6 rfl
  by_cases h0 : n = 0
  · subst h0
    have hst := HR2.out
    have HS := Lib.hid (setRow_heap u2 (B + 1) _ #[.slice x1 l.secs.length x2, .slice x3 l.pend.length x4, .int .i64 l.left, .int .i64 l.epoch, .int .i64 l.seq, .int .i64 l.used, .slice x5 l.dirty.length x6] _ _ hst)
    have HF := Lib.hid (below_setRow HW2.out (show w.heap.size ≤ B + 1 by rw [HB.out]; omega) #[.slice x1 l.secs.length x2, .slice x3 l.pend.length x4, .int .i64 l.left, .int .i64 l.epoch, .int .i64 l.seq, .int .i64 l.used, .slice x5 l.dirty.length x6])
    have HLN := Lib.hid ((HH.out.below HW2.out).apart (w' := u2.setRow (B + 1) #[.slice x1 l.secs.length x2, .slice x3 l.pend.length x4, .int .i64 l.left, .int .i64 l.epoch, .int .i64 l.seq, .int .i64 l.used, .slice x5 l.dirty.length x6]) hst (box_no _ _ _ _ _ _ _ _ _ _ _ _ _) (by rw [setRow_size]; exact Nat.le_refl _) (fun k hk => setRow_other u2 (B + 1) k _ hk))
    have e1 := HL.out.trans (if_pos rfl); have e2 := HE.out.trans (if_pos rfl)
    have HL := Lib.hid e1; have HE := Lib.hid e2
    clear e1 e2
    go_wp2_with (first | (refine wpList_store_row rfl 29 _ _ rfl (B + 1) #[.slice x1 l.secs.length x2, .slice x3 l.pend.length x4, .int .i64 l.left, .int .i64 l.epoch, .int .i64 l.seq, .int .i64 l.used, .slice x5 l.dirty.length x6] rfl rfl 29 _ hst (by kernel_rfl) rfl (by simp [Value.oneCell']) ?_))
    refine bodyPost_ret (results_row_tmp rfl _ _ (B + 1) _ _ _ _ rfl HS.out Tryz.underlying29 rfl (by kernel_rfl)) rfl (by exact ⟨_, by rw [HE.out]; rfl, by rw [HL.out]; exact HLN.out, HF.out⟩)
  have e1 := HL.out.trans (if_neg h0); have e2 := HE.out.trans (if_neg h0)
  have HL := Lib.hid e1; have HE := Lib.hid e2
  have h0I : ¬ (n : Int) = 0 := by omega
  have hnum := right_nums HRL.out
  have hwu : wrap64 (l.used + (n : Int)) = l.used + n := IntWalk.wrap64_in _ ⟨by omega, by omega⟩
  clear e1 e2
  have HPD := Lib.hid (fun (h : fullB l n = false) => tail_at HRL.out HAL.out (by rw [HN.out]; exact h0) (by rw [HN.out]; omega) (by rw [HN.out]; exact h) HP.out HH.out.1.1)
  have HCT := Lib.hid (fun (h : ckE l = 0) => tail_ck HRL.out HAL.out (by rw [HN.out]; exact h0) (by rw [HN.out]; omega) h HP.out HH.out.1.1)
  have hfull : fullB l n = decide (l.seq = 6 ∨ 40 < l.used + n) := rfl
  have HFU := Lib.hid hfull
  have HLU := Lib.hid (HH.out.below HW2.out)
  have hCK := refCk5 _ l u2 HLU.out HP.out
  obtain ⟨KE, hKE⟩ : ∃ KE, ckE l = KE := ⟨_, rfl⟩
  rw [hKE] at hCK
  have HCK := Lib.hid hCK; have HKE := Lib.hid hKE
  clear hCK hKE hfull hnum
  rcases (show l.seq = 6 ∨ (¬ l.seq = 6 ∧ 40 < l.used + (n : Int)) ∨ (¬ l.seq = 6 ∧ ¬ 40 < l.used + (n : Int)) by omega) with hs6 | ⟨hs6, hu40⟩ | ⟨hs6, hu40⟩
  case' inr.inr =>
    have hf : fullB l n = false := HFU.out.trans (decide_eq_false (by omega))
    have e1 := HL.out.trans (if_neg (by rw [hf]; decide)); have e2 := HE.out.trans (if_neg (by rw [hf]; decide))
    have HLT := Lib.hid e1; have HET := Lib.hid e2
    have HTA := Lib.hid (HPD.out hf)
    have hs6b : (l.seq == 6) = false := by simpa using hs6
    clear e1 e2 hf HCK HFU HCT HPD HKE HRL HAL HP
    go_upto_region 12 with fail
    have HHT := HLU; have HPT := HP2; have HQT := HR2; have HWT := HW2; have HZT := HZ2
    clear HLU HP2 HR2 HW2 HZ2 hs6 hs6b hu40 hwu
    generalize u2 = uT at *
    clear d0 d1 d2 d3 d4 d5 d6
    generalize x1 = y1 at *
    generalize x2 = y2 at *
    generalize x3 = y3 at *
    generalize x4 = y4 at *
    generalize x5 = y5 at *
    generalize x6 = y6 at *
    generalize l = M at *
  case' inl =>
    have hf : fullB l n = true := HFU.out.trans (decide_eq_true (.inl hs6))
    have e1 := HL.out.trans (if_pos hf); have e2 := HE.out.trans (if_pos hf)
    rw [HKE.out] at e1 e2
    have HL := Lib.hid e1; have HE := Lib.hid e2
    rw [hs6] at d4
    have HS6 := Lib.hid hs6
    clear e1 e2 hf HFU HPD hs6
    go_upto_region 8 with fail
    clear d4
    have d4 := below_cell (Below.refl _ u2) HP2.out 4 rfl
    (try clear hwu)
    go_upto_region 9 with (first | (go_at_call 13; refine HCK.out.mono ?_; rintro e u3 ⟨vm, rfl, hlm, hb3⟩; obtain ⟨y1, y2, y3, y4, y5, y6, rfl, _⟩ := id hlm.form))
    obtain ⟨M, hM⟩ : ∃ M, ckL l = M := ⟨_, rfl⟩
    rw [hM] at hlm HL HE
    (try rw [hM])
    have HCT2 : Hid (KE = 0 → TailOk M xs) := Lib.hid (fun h => by rw [← hM]; exact HCT.out (HKE.out.trans h))
    have hal := (Below.refl u3.heap.size u3).alloc (Nat.le_refl _) (.cells #[.slice y1 M.secs.length y2, .slice y3 M.pend.length y4, .int .i64 M.left, .int .i64 M.epoch, .int .i64 M.seq, .int .i64 M.used, .slice y5 M.dirty.length y6] 29)
    have hnb := heap_alloc_new u3 (.cells #[.slice y1 M.secs.length y2, .slice y3 M.pend.length y4, .int .i64 M.left, .int .i64 M.epoch, .int .i64 M.seq, .int .i64 M.used, .slice y5 M.dirty.length y6] 29)
    have hP4 := (hal.block _ (lt_of_block ((hb3.block _ (lt_of_block HP2.out)).trans HP2.out))).trans ((hb3.block _ (lt_of_block HP2.out)).trans HP2.out)
    have hR4 := (hal.block _ (lt_of_block ((hb3.block _ (lt_of_block HR2.out)).trans HR2.out))).trans ((hb3.block _ (lt_of_block HR2.out)).trans HR2.out)
    have hW4 := (HW2.out.trans (hb3.mono HW2.out.size)).trans (hal.mono (HW2.out.trans (hb3.mono HW2.out.size)).size)
    have hl4 := hlm.below hal
    have hz4 : B + 2 ≤ u3.heap.size := Nat.le_trans HZ2.out hb3.size
    obtain ⟨G, hG⟩ : ∃ G, u3.heap.size = G := ⟨_, rfl⟩
    obtain ⟨u4, hU⟩ : ∃ u4, u3.alloc (.cells #[.slice y1 M.secs.length y2, .slice y3 M.pend.length y4, .int .i64 M.left, .int .i64 M.epoch, .int .i64 M.seq, .int .i64 M.used, .slice y5 M.dirty.length y6] 29) = u4 := ⟨_, rfl⟩
    have hzu : B + 2 ≤ u4.heap.size := by rw [← hU, World.size_alloc]; omega
    rw [hU] at hnb hP4 hR4 hW4 hl4 ⊢
    rw [hG] at hnb
    (try rw [hG])
    have HP4 := Lib.hid hP4; have HR4 := Lib.hid hR4; have HW4 := Lib.hid hW4; have HL4 := Lib.hid hl4; have HZ4 := Lib.hid hzu; have HNB := Lib.hid hnb
    clear hU hG hal hM hlm hb3 hP4 hR4 hW4 hl4 hz4 hzu hnb HCK HCT HKE HRL HAL HP HP2 HR2 HW2 HZ2 HLU d0 d1 d2 d3 d4 d5 d6
    have m0 := below_cell (Below.refl _ u4) HNB.out 0 rfl
    have m1 := below_cell (Below.refl _ u4) HNB.out 1 rfl
    have m2 := below_cell (Below.refl _ u4) HNB.out 2 rfl
    have m3 := below_cell (Below.refl _ u4) HNB.out 3 rfl
    have m4 := below_cell (Below.refl _ u4) HNB.out 4 rfl
    have m5 := below_cell (Below.refl _ u4) HNB.out 5 rfl
    have m6 := below_cell (Below.refl _ u4) HNB.out 6 rfl
    by_cases hke : KE = 0
    rotate_left
    · have hke2 : (KE == 0) = false := by simpa using hke
      have hke3 : (KE != 0) = true := by simpa using hke
      have e1 := HL.out.trans (if_neg hke); have e2 := HE.out.trans (if_neg hke)
      have HL := Lib.hid e1; have HE := Lib.hid e2
      have hst := HR4.out
      have HS := Lib.hid (setRow_heap u4 (B + 1) _ #[.slice y1 M.secs.length y2, .slice y3 M.pend.length y4, .int .i64 M.left, .int .i64 M.epoch, .int .i64 M.seq, .int .i64 M.used, .slice y5 M.dirty.length y6] _ _ hst)
      have HF := Lib.hid (below_setRow HW4.out (show w.heap.size ≤ B + 1 by rw [HB.out]; omega) #[.slice y1 M.secs.length y2, .slice y3 M.pend.length y4, .int .i64 M.left, .int .i64 M.epoch, .int .i64 M.seq, .int .i64 M.used, .slice y5 M.dirty.length y6])
      have HLN := Lib.hid (HL4.out.apart (w' := u4.setRow (B + 1) #[.slice y1 M.secs.length y2, .slice y3 M.pend.length y4, .int .i64 M.left, .int .i64 M.epoch, .int .i64 M.seq, .int .i64 M.used, .slice y5 M.dirty.length y6]) hst (box_no _ _ _ _ _ _ _ _ _ _ _ _ _) (by rw [setRow_size]; exact Nat.le_refl _) (fun k hk => setRow_other u4 (B + 1) k _ hk))
      clear e1 e2 HCT2
      go_wp2_with (first | (refine wpList_store_row rfl 29 _ _ rfl (B + 1) #[.slice y1 M.secs.length y2, .slice y3 M.pend.length y4, .int .i64 M.left, .int .i64 M.epoch, .int .i64 M.seq, .int .i64 M.used, .slice y5 M.dirty.length y6] rfl rfl 29 _ hst (by kernel_rfl) rfl (by simp [Value.oneCell']) ?_))
      refine bodyPost_ret (results_row_tmp rfl _ _ (B + 1) _ _ _ _ rfl HS.out Tryz.underlying29 rfl (by kernel_rfl)) rfl (by exact ⟨_, by rw [HE.out]; rfl, by rw [HL.out]; exact HLN.out, HF.out⟩)
    have e1 := HL.out.trans (if_pos hke); have e2 := HE.out.trans (if_pos hke)
    have HLT := Lib.hid e1; have HET := Lib.hid e2
    have hst := HP4.out
    have HPT := Lib.hid (setRow_heap u4 B _ #[.slice y1 M.secs.length y2, .slice y3 M.pend.length y4, .int .i64 M.left, .int .i64 M.epoch, .int .i64 M.seq, .int .i64 M.used, .slice y5 M.dirty.length y6] _ _ hst)
    have HWT := Lib.hid (below_setRow HW4.out (show w.heap.size ≤ B by rw [HB.out]; exact Nat.le_refl _) #[.slice y1 M.secs.length y2, .slice y3 M.pend.length y4, .int .i64 M.left, .int .i64 M.epoch, .int .i64 M.seq, .int .i64 M.used, .slice y5 M.dirty.length y6])
    have HHT := Lib.hid (HL4.out.apart (w' := u4.setRow B #[.slice y1 M.secs.length y2, .slice y3 M.pend.length y4, .int .i64 M.left, .int .i64 M.epoch, .int .i64 M.seq, .int .i64 M.used, .slice y5 M.dirty.length y6]) hst (box_no _ _ _ _ _ _ _ _ _ _ _ _ _) (by rw [setRow_size]; exact Nat.le_refl _) (fun k hk => setRow_other u4 B k _ hk))
    have HQT := Lib.hid ((setRow_other u4 B (B + 1) #[.slice y1 M.secs.length y2, .slice y3 M.pend.length y4, .int .i64 M.left, .int .i64 M.epoch, .int .i64 M.seq, .int .i64 M.used, .slice y5 M.dirty.length y6] (by omega)).trans HR4.out)
    have HZT := Lib.hid (show B + 2 ≤ (u4.setRow B #[.slice y1 M.secs.length y2, .slice y3 M.pend.length y4, .int .i64 M.left, .int .i64 M.epoch, .int .i64 M.seq, .int .i64 M.used, .slice y5 M.dirty.length y6]).heap.size by rw [setRow_size]; exact HZ4.out)
    have HTA := Lib.hid (HCT2.out hke)
    subst hke
    clear e1 e2 HCT2
    go_upto_region 12 with (first | (refine wpList_store_row rfl 29 _ _ rfl B #[.slice y1 M.secs.length y2, .slice y3 M.pend.length y4, .int .i64 M.left, .int .i64 M.epoch, .int .i64 M.seq, .int .i64 M.used, .slice y5 M.dirty.length y6] rfl rfl 29 _ hst (by kernel_rfl) rfl (by simp [Value.oneCell']) ?_))
    obtain ⟨uT, hU⟩ : ∃ uT, u4.setRow B #[.slice y1 M.secs.length y2, .slice y3 M.pend.length y4, .int .i64 M.left, .int .i64 M.epoch, .int .i64 M.seq, .int .i64 M.used, .slice y5 M.dirty.length y6] = uT := ⟨_, rfl⟩
    rw [hU] at HPT HWT HHT HQT HZT ⊢
    clear hU hst m0 m1 m2 m3 m4 m5 m6 HP4 HR4 HW4 HL4 HZ4 HNB
    have hrn : True := trivial
  case' inr.inl =>
    have hf : fullB l n = true := HFU.out.trans (decide_eq_true (.inr hu40))
    have e1 := HL.out.trans (if_pos hf); have e2 := HE.out.trans (if_pos hf)
    rw [HKE.out] at e1 e2
    have HL := Lib.hid e1; have HE := Lib.hid e2
    have hs6b : (l.seq == 6) = false := by simpa using hs6
    clear e1 e2 hf HFU HPD
    go_upto_region 8 with fail
    clear hs6b hs6 hu40
    (try clear hwu)
    go_upto_region 9 with (first | (go_at_call 13; refine HCK.out.mono ?_; rintro e u3 ⟨vm, rfl, hlm, hb3⟩; obtain ⟨y1, y2, y3, y4, y5, y6, rfl, _⟩ := id hlm.form))
    obtain ⟨M, hM⟩ : ∃ M, ckL l = M := ⟨_, rfl⟩
    rw [hM] at hlm HL HE
    (try rw [hM])
    have HCT2 : Hid (KE = 0 → TailOk M xs) := Lib.hid (fun h => by rw [← hM]; exact HCT.out (HKE.out.trans h))
    have hal := (Below.refl u3.heap.size u3).alloc (Nat.le_refl _) (.cells #[.slice y1 M.secs.length y2, .slice y3 M.pend.length y4, .int .i64 M.left, .int .i64 M.epoch, .int .i64 M.seq, .int .i64 M.used, .slice y5 M.dirty.length y6] 29)
    have hnb := heap_alloc_new u3 (.cells #[.slice y1 M.secs.length y2, .slice y3 M.pend.length y4, .int .i64 M.left, .int .i64 M.epoch, .int .i64 M.seq, .int .i64 M.used, .slice y5 M.dirty.length y6] 29)
    have hP4 := (hal.block _ (lt_of_block ((hb3.block _ (lt_of_block HP2.out)).trans HP2.out))).trans ((hb3.block _ (lt_of_block HP2.out)).trans HP2.out)
    have hR4 := (hal.block _ (lt_of_block ((hb3.block _ (lt_of_block HR2.out)).trans HR2.out))).trans ((hb3.block _ (lt_of_block HR2.out)).trans HR2.out)
    have hW4 := (HW2.out.trans (hb3.mono HW2.out.size)).trans (hal.mono (HW2.out.trans (hb3.mono HW2.out.size)).size)
    have hl4 := hlm.below hal
    have hz4 : B + 2 ≤ u3.heap.size := Nat.le_trans HZ2.out hb3.size
    obtain ⟨G, hG⟩ : ∃ G, u3.heap.size = G := ⟨_, rfl⟩
    obtain ⟨u4, hU⟩ : ∃ u4, u3.alloc (.cells #[.slice y1 M.secs.length y2, .slice y3 M.pend.length y4, .int .i64 M.left, .int .i64 M.epoch, .int .i64 M.seq, .int .i64 M.used, .slice y5 M.dirty.length y6] 29) = u4 := ⟨_, rfl⟩
    have hzu : B + 2 ≤ u4.heap.size := by rw [← hU, World.size_alloc]; omega
    rw [hU] at hnb hP4 hR4 hW4 hl4 ⊢
    rw [hG] at hnb
    (try rw [hG])
    have HP4 := Lib.hid hP4; have HR4 := Lib.hid hR4; have HW4 := Lib.hid hW4; have HL4 := Lib.hid hl4; have HZ4 := Lib.hid hzu; have HNB := Lib.hid hnb
    clear hU hG hal hM hlm hb3 hP4 hR4 hW4 hl4 hz4 hzu hnb HCK HCT HKE HRL HAL HP HP2 HR2 HW2 HZ2 HLU d0 d1 d2 d3 d4 d5 d6
    have m0 := below_cell (Below.refl _ u4) HNB.out 0 rfl
    have m1 := below_cell (Below.refl _ u4) HNB.out 1 rfl
    have m2 := below_cell (Below.refl _ u4) HNB.out 2 rfl
    have m3 := below_cell (Below.refl _ u4) HNB.out 3 rfl
    have m4 := below_cell (Below.refl _ u4) HNB.out 4 rfl
    have m5 := below_cell (Below.refl _ u4) HNB.out 5 rfl
    have m6 := below_cell (Below.refl _ u4) HNB.out 6 rfl
    by_cases hke : KE = 0
    rotate_left
    · have hke2 : (KE == 0) = false := by simpa using hke
      have hke3 : (KE != 0) = true := by simpa using hke
      have e1 := HL.out.trans (if_neg hke); have e2 := HE.out.trans (if_neg hke)
      have HL := Lib.hid e1; have HE := Lib.hid e2
      have hst := HR4.out
      have HS := Lib.hid (setRow_heap u4 (B + 1) _ #[.slice y1 M.secs.length y2, .slice y3 M.pend.length y4, .int .i64 M.left, .int .i64 M.epoch, .int .i64 M.seq, .int .i64 M.used, .slice y5 M.dirty.length y6] _ _ hst)
      have HF := Lib.hid (below_setRow HW4.out (show w.heap.size ≤ B + 1 by rw [HB.out]; omega) #[.slice y1 M.secs.length y2, .slice y3 M.pend.length y4, .int .i64 M.left, .int .i64 M.epoch, .int .i64 M.seq, .int .i64 M.used, .slice y5 M.dirty.length y6])
      have HLN := Lib.hid (HL4.out.apart (w' := u4.setRow (B + 1) #[.slice y1 M.secs.length y2, .slice y3 M.pend.length y4, .int .i64 M.left, .int .i64 M.epoch, .int .i64 M.seq, .int .i64 M.used, .slice y5 M.dirty.length y6]) hst (box_no _ _ _ _ _ _ _ _ _ _ _ _ _) (by rw [setRow_size]; exact Nat.le_refl _) (fun k hk => setRow_other u4 (B + 1) k _ hk))
      clear e1 e2 HCT2
      go_wp2_with (first | (refine wpList_store_row rfl 29 _ _ rfl (B + 1) #[.slice y1 M.secs.length y2, .slice y3 M.pend.length y4, .int .i64 M.left, .int .i64 M.epoch, .int .i64 M.seq, .int .i64 M.used, .slice y5 M.dirty.length y6] rfl rfl 29 _ hst (by kernel_rfl) rfl (by simp [Value.oneCell']) ?_))
      refine bodyPost_ret (results_row_tmp rfl _ _ (B + 1) _ _ _ _ rfl HS.out Tryz.underlying29 rfl (by kernel_rfl)) rfl (by exact ⟨_, by rw [HE.out]; rfl, by rw [HL.out]; exact HLN.out, HF.out⟩)
    have e1 := HL.out.trans (if_pos hke); have e2 := HE.out.trans (if_pos hke)
    have HLT := Lib.hid e1; have HET := Lib.hid e2
    have hst := HP4.out
    have HPT := Lib.hid (setRow_heap u4 B _ #[.slice y1 M.secs.length y2, .slice y3 M.pend.length y4, .int .i64 M.left, .int .i64 M.epoch, .int .i64 M.seq, .int .i64 M.used, .slice y5 M.dirty.length y6] _ _ hst)
    have HWT := Lib.hid (below_setRow HW4.out (show w.heap.size ≤ B by rw [HB.out]; exact Nat.le_refl _) #[.slice y1 M.secs.length y2, .slice y3 M.pend.length y4, .int .i64 M.left, .int .i64 M.epoch, .int .i64 M.seq, .int .i64 M.used, .slice y5 M.dirty.length y6])
    have HHT := Lib.hid (HL4.out.apart (w' := u4.setRow B #[.slice y1 M.secs.length y2, .slice y3 M.pend.length y4, .int .i64 M.left, .int .i64 M.epoch, .int .i64 M.seq, .int .i64 M.used, .slice y5 M.dirty.length y6]) hst (box_no _ _ _ _ _ _ _ _ _ _ _ _ _) (by rw [setRow_size]; exact Nat.le_refl _) (fun k hk => setRow_other u4 B k _ hk))
    have HQT := Lib.hid ((setRow_other u4 B (B + 1) #[.slice y1 M.secs.length y2, .slice y3 M.pend.length y4, .int .i64 M.left, .int .i64 M.epoch, .int .i64 M.seq, .int .i64 M.used, .slice y5 M.dirty.length y6] (by omega)).trans HR4.out)
    have HZT := Lib.hid (show B + 2 ≤ (u4.setRow B #[.slice y1 M.secs.length y2, .slice y3 M.pend.length y4, .int .i64 M.left, .int .i64 M.epoch, .int .i64 M.seq, .int .i64 M.used, .slice y5 M.dirty.length y6]).heap.size by rw [setRow_size]; exact HZ4.out)
    have HTA := Lib.hid (HCT2.out hke)
    subst hke
    clear e1 e2 HCT2
    go_upto_region 12 with (first | (refine wpList_store_row rfl 29 _ _ rfl B #[.slice y1 M.secs.length y2, .slice y3 M.pend.length y4, .int .i64 M.left, .int .i64 M.epoch, .int .i64 M.seq, .int .i64 M.used, .slice y5 M.dirty.length y6] rfl rfl 29 _ hst (by kernel_rfl) rfl (by simp [Value.oneCell']) ?_))
    obtain ⟨uT, hU⟩ : ∃ uT, u4.setRow B #[.slice y1 M.secs.length y2, .slice y3 M.pend.length y4, .int .i64 M.left, .int .i64 M.epoch, .int .i64 M.seq, .int .i64 M.used, .slice y5 M.dirty.length y6] = uT := ⟨_, rfl⟩
    rw [hU] at HPT HWT HHT HQT HZT ⊢
    clear hU hst m0 m1 m2 m3 m4 m5 m6 HP4 HR4 HW4 HL4 HZ4 HNB
    have hrn : True := trivial
  all_goals
    (try clear hwu)
    have hep := HTA.out.epoch
    have hsq := HTA.out.seq
    have hus := HTA.out.used
    rw [HN.out] at hus
    obtain ⟨hNI', hNI, hzI0, hzI1, hzI2⟩ := info_parts infoCas
    obtain ⟨hNi', hNi, hzi0, hzi1, hzi2⟩ := info_parts infoInt2
    obtain ⟨D, hD⟩ : ∃ D, uT.heap.size = D := ⟨_, rfl⟩
    have HX : Hid (∀ W0, uT.alloc (.cells #[] 68) = W0 → W0.heap.size = D + 1 ∧ Below w.heap.size w W0 ∧ W0.heap[B]? = some (.cells #[.slice y1 M.secs.length y2, .slice y3 M.pend.length y4, .int .i64 M.left, .int .i64 M.epoch, .int .i64 M.seq, .int .i64 M.used, .slice y5 M.dirty.length y6] 29 (0, 0)) ∧ W0.heap[B + 1]? = some (.cells #[.slice none 0 0, .slice none 0 0, .int .i64 0, .int .i64 0, .int .i64 0, .int .i64 0, .slice none 0 0] 29 (0, 0)) ∧ IsLog W0 (.agg #[.slice y1 M.secs.length y2, .slice y3 M.pend.length y4, .int .i64 M.left, .int .i64 M.epoch, .int .i64 M.seq, .int .i64 M.used, .slice y5 M.dirty.length y6]) M) := Lib.hid (by
      rintro W0 rfl
      have hal := (Below.refl uT.heap.size uT).alloc (Nat.le_refl _) (.cells #[] 68)
      exact ⟨by rw [World.size_alloc, hD], HWT.out.trans (hal.mono HWT.out.size), (hal.block _ (lt_of_block HPT.out)).trans HPT.out, (hal.block _ (lt_of_block HQT.out)).trans HQT.out, HHT.out.below hal⟩)
    have hDB : B + 2 ≤ D := by rw [← hD]; exact HZT.out
    have HDQ := Lib.hid hD
    clear hD
    go_upto_region 13 with fail
    (try rw [HDQ.out])
    obtain ⟨W0, hW⟩ : ∃ W0, uT.alloc (.cells #[] 68) = W0 := ⟨_, rfl⟩
    rw [hW]
    obtain ⟨hz0, hw0, hp0, hr0, hl0⟩ := HX.out W0 hW
    have HZ0 := Lib.hid hz0; have HW0 := Lib.hid hw0; have HP0 := Lib.hid hp0; have HR0 := Lib.hid hr0; have HL0 := Lib.hid hl0
    clear hW HX hz0 hw0 hp0 hr0 hl0 HPT HQT HWT HHT HZT HDQ
    have d0 := below_cell (Below.refl _ W0) HP0.out 0 rfl
    have d1 := below_cell (Below.refl _ W0) HP0.out 1 rfl
    have d2 := below_cell (Below.refl _ W0) HP0.out 2 rfl
    have d3 := below_cell (Below.refl _ W0) HP0.out 3 rfl
    have d4 := below_cell (Below.refl _ W0) HP0.out 4 rfl
    have d5 := below_cell (Below.refl _ W0) HP0.out 5 rfl
    have d6 := below_cell (Below.refl _ W0) HP0.out 6 rfl
    go_upto_region 14 with fail
    have HX : Hid (∀ W1, W0.alloc (.cells #[.int .i64 M.epoch, .int .i64 M.seq, .slice none 0 0] 67) = W1 → W1.heap.size = D + 2 ∧ Below (D + 1) W0 W1 ∧ W1.heap[D + 1]? = some (.cells #[.int .i64 M.epoch, .int .i64 M.seq, .slice none 0 0] 67 (0, 0))) := Lib.hid (by
      rintro W1 rfl
      have h2 := heap_alloc_new W0 (.cells #[.int .i64 M.epoch, .int .i64 M.seq, .slice none 0 0] 67)
      rw [HZ0.out] at h2
      exact ⟨by rw [World.size_alloc, HZ0.out], by rw [← HZ0.out]; exact (Below.refl _ _).alloc (Nat.le_refl _) _, h2⟩)
    (try rw [HZ0.out])
    obtain ⟨W1, hW⟩ : ∃ W1, W0.alloc (.cells #[.int .i64 M.epoch, .int .i64 M.seq, .slice none 0 0] 67) = W1 := ⟨_, rfl⟩
    rw [hW]
    obtain ⟨hz1, hb1, hh1⟩ := HX.out W1 hW
    have HZ1 := Lib.hid hz1; have HB1 := Lib.hid hb1; have HH1 := Lib.hid hh1
    have HP1 := Lib.hid ((hb1.block _ (by omega)).trans HP0.out)
    clear hW HX hz1 hb1 hh1 d0 d1 d2 d3 d4 d5 d6
    have d6 := below_cell (Below.refl _ W1) HP1.out 6 rfl
    go_upto_region 15 with fail
    clear d6
    have HMB : Hid (∀ i, i < n → (xs.getD i wrtZ).bounded) := Lib.hid (fun i hi => HWB.out _ (getD_memW (by rw [HN.out]; exact hi)))
    have HBW : Hid (∀ u : World, Below w.heap.size w u → ∀ i : Nat, i < n → ∃ gp op, wa = some ⟨gp, op, none⟩ ∧ gp < u.heap.size ∧ u.cell? ⟨gp, op + i * 2, none⟩ = some (.int .i64 (xs.getD i wrtZ).sector) ∧ u.cell? ⟨gp, op + i * 2 + 1, none⟩ = some (.string (xs.getD i wrtZ).bytes)) := Lib.hid (by
      intro u hu i hi
      obtain ⟨a9, n9, c9, hv9, _, _, _, _, hat⟩ := HWX.out u hu
      injection hv9 with t1 t2 t3
      subst t1 t2 t3
      obtain ⟨gp, op, rfl, hgp, hcp⟩ := hat.resolve_left (by omega)
      exact ⟨gp, op, rfl, hgp, (hcp i (by first | exact hi | (rw [HN.out]; exact hi))).1, (hcp i (by first | exact hi | (rw [HN.out]; exact hi))).2⟩)
    have HDL : Hid (∀ i, ((xs.take i).foldl withT M.dirty).length ≤ 1000 ∧ ∀ x ∈ (xs.take i).foldl withT M.dirty, x.bounded) := Lib.hid (fun i => by
      have h1 := fold_with (xs.take i) M.dirty (fun x hx => HTA.out.may x (List.mem_of_mem_take hx)) HTA.out.dirty
      have h2 := dirty_small h1 HTA.out.small
      exact ⟨by omega, dirty_bounded HTA.out.small h1⟩)
    have HDS : Hid (∀ i, i < n → withE ⟨(xs.getD i wrtZ).sector, trimS (xs.getD i wrtZ).bytes⟩ ((xs.take i).foldl withT M.dirty) = (xs.take (i + 1)).foldl withT M.dirty) := Lib.hid (fun i hi => fold_withE HTA.out.dirty HTA.out.may i (by rw [HN.out]; exact hi))
    have HIS : Hid (∀ i, i < n → wcells ((imgL M.used xs).take (i + 1)) = wcells ((imgL M.used xs).take i) ++ [.int .i64 (13 + M.used + i), .string (xs.getD i wrtZ).bytes]) := Lib.hid (fun i hi => by
      have hil : i < (imgL M.used xs).length := by rw [imgL_len, HN.out]; exact hi
      have hg := imgL_get M.used xs i (by rw [HN.out]; exact hi)
      rw [List.take_add_one, wcells_append]
      have : (imgL M.used xs)[i]? = some ⟨13 + M.used + i, (xs.getD i wrtZ).bytes⟩ := by rw [← hg]; simp [List.getD, hil]
      rw [this]; rfl)
    have HTS : Hid (∀ i, i < n → tcells xs (i + 1) = tcells xs i ++ [.int .i64 (xs.getD i wrtZ).sector]) := Lib.hid (fun i hi => by
      unfold tcells
      have hil : i < xs.length := by rw [HN.out]; exact hi
      rw [List.take_add_one]
      simp [List.getD, hil, encI])
    go_wp2_with fail
    go_loopw [8, 10, 68] (fun vc vd z wr => ∃ (i : Nat) (vt : Value), i ≤ n ∧ z = .int .i64 i ∧ Hid (ownsE wr (D + 2) 68 2 vc i (wcells ((imgL M.used xs).take i))) ∧ Hid (wr.ownsRow (D + 2) 3 1 vt i (tcells xs i)) ∧ Hid (wr.heap[D + 1]? = some (.cells #[.int .i64 M.epoch, .int .i64 M.seq, vt] 67 (0, 0))) ∧ Hid (IsWrts W0 vd ((xs.take i).foldl withT M.dirty) ∨ wr.ownsRow (D + 2) 46 2 vd ((xs.take i).foldl withT M.dirty).length (wcells ((xs.take i).foldl withT M.dirty))) ∧ Hid (Below (D + 1) W0 wr)) (fun _ _ z _ => n - (intOf z).toNat)
    case atStart => exact ⟨0, .slice none 0 0, Nat.zero_le _, rfl, Lib.hid (.inr ⟨rfl, rfl, D, rfl, by omega⟩), Lib.hid (World.ownsRow_nil W1 (D + 2) _ 1), HH1, Lib.hid (.inl (log_dirty HL0.out)), HB1⟩
    case round =>
      clear HP1 HH1 HB1
      obtain ⟨i, vt, hin, rfl, HO, HT, HHB, HDI, HW⟩ := hrel
      have hWw := HW0.out.trans (HW.out.mono (by rw [HB.out]; omega))
      have hz2 : D + 2 ≤ wr.heap.size := by have := lt_of_block HHB.out; omega
      obtain ⟨At, ct, rfl, ht1, ht2⟩ := own_form1 HT.out
      by_cases hlt : i < n
      · have hiI : (i : Int) < n := by omega
        obtain ⟨gp, op, hca, hgp, p0, p1⟩ := HBW.out wr hWw i hlt
        have hmb := HMB.out i hlt
        have hds := HDS.out i hlt
        have his := HIS.out i hlt
        have hts := HTS.out i hlt
        obtain ⟨Y, hY⟩ : ∃ Y, xs.getD i wrtZ = Y := ⟨_, rfl⟩
        rw [hY] at p0 p1 hmb hds his hts
        obtain ⟨dl, hdl⟩ : ∃ dl, (xs.take i).foldl withT M.dirty = dl := ⟨_, rfl⟩
        have hdll := HDL.out i
        rw [hdl] at hds hdll HDI
        have hyx := heap_alloc_new wr (.cells #[.int .i64 Y.sector, .string Y.bytes] 46)
        have hal := (Below.refl wr.heap.size wr).alloc (Nat.le_refl _) (.cells #[.int .i64 Y.sector, .string Y.bytes] 46)
        have hh2 := (hal.block _ (lt_of_block HHB.out)).trans HHB.out
        have hw2 := HW.out.trans (hal.mono (by omega))
        have hp2 := (hw2.block B (by omega)).trans HP0.out
        have HOA := HO; have HTA0 := HT
        have ho2 := HO.out.alloc (.cells #[.int .i64 Y.sector, .string Y.bytes] 46)
        have ht2' := HT.out.alloc (.cells #[.int .i64 Y.sector, .string Y.bytes] 46)
        have hd2 := HDI.out.imp id (fun h => World.ownsRow.alloc h (.cells #[.int .i64 Y.sector, .string Y.bytes] 46))
        have HDSi := Lib.hid hds; have HISi := Lib.hid his; have HTSi := Lib.hid hts; have HDLi := Lib.hid hdll; have HMBi := Lib.hid hmb; have HWi := Lib.hid hWw
        subst hca
        clear hY hds his hts hdl hdll hmb hWw HO HT HHB HDI HW hal
        go_upto_region 18 with fail
        obtain ⟨E, hE⟩ : ∃ E, wr.heap.size = E := ⟨_, rfl⟩
        obtain ⟨u3, hU⟩ : ∃ u3, wr.alloc (.cells #[.int .i64 Y.sector, .string Y.bytes] 46) = u3 := ⟨_, rfl⟩
        have hz3 : u3.heap.size = E + 1 := by rw [← hU, World.size_alloc, hE]
        rw [hU] at hyx hh2 hw2 hp2 ho2 ht2' hd2 ⊢
        rw [hE] at hyx hz2
        (try rw [hE])
        have HYX := Lib.hid hyx; have HHB := Lib.hid hh2; have HW := Lib.hid hw2; have HPB := Lib.hid hp2; have HO := Lib.hid ho2; have HT := Lib.hid ht2'; have HDI := Lib.hid hd2; have HZ3 := Lib.hid hz3; have HEQ := Lib.hid hE; have HZE := Lib.hid hz2
        clear hU hE hyx hh2 hw2 hp2 ho2 ht2' hd2 hz3 hz2 p0 p1
        have y0 := below_cell (Below.refl _ u3) HYX.out 0 rfl
        have y1 := below_cell (Below.refl _ u3) HYX.out 1 rfl
        have q5 := below_cell (Below.refl _ u3) HPB.out 5 rfl
        have hw1 : wrap64 (13 + M.used) = 13 + M.used := IntWalk.wrap64_in _ ⟨by omega, by omega⟩
        have hw2 : wrap64 (13 + M.used + (i : Int)) = 13 + M.used + i := IntWalk.wrap64_in _ ⟨by omega, by omega⟩
        go_upto_region 19 with (first | (at_builtin; go_must (refine wpList_pushE (m := 1) (news := [.int .i64 (13 + M.used + (i : Int)), .string Y.bytes]) (w0 := u3) _ _ 64 68 HO.out (Below.refl _ _) (by rw [HZ3.out]; have := HZE.out; omega) Tryz.underlying64 hNI hzI0 hzI1 hzI2 rfl (by decide) rfl rfl (by rfl) (by rfl) (by rfl) (by decide) (by simp [Value.oneCell']) ?c1 ?_)))
        case c1 => exact ⟨by omega, by omega⟩
        intro v5 w5 hown5 hb5 hg5
        rw [← HISi.out] at hown5
        have hh5 := (hb5.block _ (by omega)).trans HHB.out
        have hy5 := (hg5.block E (by rw [HZ3.out]; omega) (HOA.out.ne HZE.out (by rw [HEQ.out]; exact Nat.le_refl _))).trans HYX.out
        have hp5 := (hb5.block B (by omega)).trans HPB.out
        have ht5 := HT.out.kept hg5 (own_tags HT.out HO.out (by decide) (Nat.le_refl _))
        have hd5 := HDI.out.imp id (fun h => World.ownsRow.kept h hg5 (own_tags h HO.out (by decide) (Nat.le_refl _)))
        have hw5 := HW.out.trans (hb5.mono (by omega))
        have hz5 : E + 1 ≤ w5.heap.size := by rw [← HZ3.out]; exact hb5.size
        have HHB5 := Lib.hid hh5; have HY5 := Lib.hid hy5; have HPB5 := Lib.hid hp5; have HT5 := Lib.hid ht5; have HDI5 := Lib.hid hd5; have HW5 := Lib.hid hw5; have HO5 := Lib.hid hown5; have HZ5 := Lib.hid hz5
        clear hown5 hb5 hg5 hh5 hy5 hp5 ht5 hd5 hw5 hz5 y0 y1 q5 hw1 hw2 HHB HYX HPB HT HDI HW HO
        have y0 := below_cell (Below.refl _ w5) HY5.out 0 rfl
        have t2 := below_cell (Below.refl _ w5) HHB5.out 2 rfl
        go_upto_region 20 with (first | (at_builtin; go_must (refine wpList_pushE (m := 1) (news := [.int .i64 Y.sector]) (w0 := w5) _ _ 65 3 (Or.inl HT5.out) (Below.refl _ _) (by have := HZ5.out; have := HZE.out; omega) Tryz.underlying65 hNi hzi0 hzi1 hzi2 rfl (by decide) rfl rfl (by rfl) (by rfl) (by rfl) (by decide) (by simp [Value.oneCell']) ?c2 ?_)))
        case c2 => exact ⟨by omega, by omega⟩
        intro v6 w6 hown6 hb6 hg6
        rw [← HTSi.out] at hown6
        obtain ⟨A6, c6, rfl, hc61, hc62⟩ := own_form1 hown6
        have hh6 := (hb6.block _ (by omega)).trans HHB5.out
        have hy6 := (hg6.block E (by have := HZ5.out; omega) (ownsE.ne (.inl HTA0.out) HZE.out (by rw [HEQ.out]; exact Nat.le_refl _))).trans HY5.out
        have hp6 := (hb6.block B (by omega)).trans HPB5.out
        have ho6 := HO5.out.kept hg6 (own_tags HO5.out (.inl HT5.out) (by decide) (Nat.le_refl _))
        have hd6 := HDI5.out.imp id (fun h => World.ownsRow.kept h hg6 (own_tags h (.inl HT5.out) (by decide) (Nat.le_refl _)))
        have hw6 := HW5.out.trans (hb6.mono (by omega))
        have hz6 : E + 1 ≤ w6.heap.size := Nat.le_trans HZ5.out hb6.size
        have h2 := below_cell (Below.refl _ w6) hh6 2 rfl
        have f2 := block_frozen hh6 2
        have HHB7 := Lib.hid (block_set hh6 2 (.slice A6 (i + 1) c6))
        have HY7 := Lib.hid ((Below.heap_setCell w6 ⟨D + 1, 2, none⟩ (.slice A6 (i + 1) c6) E (show E ≠ D + 1 by have := HZE.out; omega)).trans hy6)
        have HPB7 := Lib.hid ((Below.heap_setCell w6 ⟨D + 1, 2, none⟩ (.slice A6 (i + 1) c6) B (show B ≠ D + 1 by omega)).trans hp6)
        have HO7 := Lib.hid (ownsRow_setCell_below (a := ⟨D + 1, 2, none⟩) ho6 (show D + 1 < D + 2 by omega) (.slice A6 (i + 1) c6))
        have HT7 := Lib.hid (ownsRow_setCell_below (a := ⟨D + 1, 2, none⟩) hown6 (show D + 1 < D + 2 by omega) (.slice A6 (i + 1) c6))
        have HDI7 := Lib.hid (hd6.imp id (fun h => ownsRow_setCell_below (a := ⟨D + 1, 2, none⟩) h (show D + 1 < D + 2 by omega) (.slice A6 (i + 1) c6)))
        have HW7 := Lib.hid (hw6.setCell (p := ⟨D + 1, 2, none⟩) (Nat.le_refl _) (.slice A6 (i + 1) c6))
        have HZ7 := Lib.hid (show E + 1 ≤ (w6.setCell ⟨D + 1, 2, none⟩ (.slice A6 (i + 1) c6)).heap.size by rw [World.size_setCell]; exact hz6)
        clear hown6 hb6 hg6 hh6 hy6 hp6 ho6 hd6 hw6 hz6 y0 t2 HHB5 HY5 HPB5 HT5 HDI5 HW5 HO5 HZ5
        go_upto_region 20 with fail
        obtain ⟨w7, hU⟩ : ∃ w7, w6.setCell ⟨D + 1, 2, none⟩ (.slice A6 (i + 1) c6) = w7 := ⟨_, rfl⟩
        rw [hU] at HHB7 HY7 HPB7 HO7 HT7 HDI7 HW7 HZ7 ⊢
        clear hU h2 f2
        have HWI := Lib.hid (refWithO _ dl Y.sector Y.bytes w7 (by
          rcases HDI7.out with h | h
          · exact h.below (by rw [HZ0.out]; exact HW7.out)
          · exact own_wrts h HDLi.out.2) HMBi.out.1 HMBi.out.2 HDLi.out.1)
        have y0 := below_cell (Below.refl _ w7) HY7.out 0 rfl
        have y1 := below_cell (Below.refl _ w7) HY7.out 1 rfl
        go_upto_region 21 with (first | (go_at_call 30; refine HWI.out.mono ?_; rintro e w8 ⟨v8, rfl, hd8, hb8⟩))
        rw [HDSi.out] at hd8
        have HDI8 : Hid (IsWrts W0 v8 ((xs.take (i + 1)).foldl withT M.dirty) ∨ w8.ownsRow (D + 2) 46 2 v8 ((xs.take (i + 1)).foldl withT M.dirty).length (wcells ((xs.take (i + 1)).foldl withT M.dirty))) := Lib.hid (by
          rcases hd8 with h | ⟨h, E2, rfl⟩
          · exact .inr (ownsRow_base h (by have := HZ7.out; have := HZE.out; omega))
          · rw [h]; exact .inl ⟨_, _, _, rfl, rfl, by simp, by simp, by simp, .inl rfl⟩)
        have HHB8 := Lib.hid ((hb8.block _ (lt_of_block HHB7.out)).trans HHB7.out)
        have HO8 := Lib.hid (own_stays HO7.out hb8)
        have HT8 := Lib.hid (own_stays HT7.out hb8)
        have HW8 := Lib.hid (HW7.out.trans (hb8.mono (by have := HZ7.out; have := HZE.out; omega)))
        clear hd8 hb8 y0 y1 HWI HDI7 HHB7 HY7 HPB7 HO7 HT7 HW7 HZ7
        go_wp2_with fail
        go_roundw
        case rel => exact ⟨i + 1, _, by omega, by go_num, Lib.hid (.inl HO8.out), HT8, HHB8, HDI8, HW8⟩
        case measure => simp [intOf]; omega
      · obtain rfl : i = n := by omega
        have hnl : ¬ (i : Int) < i := by omega
        rw [show (imgL M.used xs).take i = imgL M.used xs from List.take_of_length_le (by rw [imgL_len, HN.out]; exact Nat.le_refl _)] at HO
        rw [show xs.take i = xs from List.take_of_length_le (by rw [HN.out]; exact Nat.le_refl _)] at HDI
        have hdb := HDL.out i
        rw [show xs.take i = xs from List.take_of_length_le (by rw [HN.out]; exact Nat.le_refl _)] at hdb
        have hti : tcells xs i = (xs.map Wrt.sector).map encI := by unfold tcells; rw [List.take_of_length_le (by rw [List.length_map, HN.out]; exact Nat.le_refl _)]
        rw [hti] at HT
        have HDB := Lib.hid hdb.2
        have hPB := (HW.out.block B (by omega)).trans HP0.out
        have hRB := (HW.out.block (B + 1) (by omega)).trans HR0.out
        have HPB := Lib.hid hPB; have HRB := Lib.hid hRB
        have HHC := Lib.hid (fun x : KeepT wr => keepCall (ref4Head_any M.epoch M.seq (.slice At i ct) (xs.map Wrt.sector) x.val (own_reads1 (own_stays HT.out x.below) (by rw [List.length_map]; exact HN.out)) HTA.out.head))
        obtain ⟨HS, hHS⟩ : ∃ HS, layS (headL M.epoch M.seq (xs.map Wrt.sector)) = HS := ⟨_, rfl⟩
        rw [hHS] at HHC
        have HHS := Lib.hid hHS
        have HCC := Lib.hid (fun u => ref4Commit_any M.epoch M.seq u (by omega) (by omega) (by omega) (by omega))
        obtain ⟨CS, hCS⟩ : ∃ CS, layS (commitL M.epoch M.seq) = CS := ⟨_, rfl⟩
        rw [hCS] at HCC
        have HCS := Lib.hid hCS
        have hs1 : wrap64 (1 + M.seq) = 1 + M.seq := IntWalk.wrap64_in _ ⟨by omega, by omega⟩
        have hs7 : wrap64 (7 + M.seq) = 7 + M.seq := IntWalk.wrap64_in _ ⟨by omega, by omega⟩
        clear hdb hti hPB hRB hHS hCS HBW HMB HDS HIS HTS HDL hWw
        go_upto_region 22 with fail
        have k4 := keep_at HPB.out 4 rfl
        have h0' := keep_at HHB.out 0 rfl
        have h1' := keep_at HHB.out 1 rfl
        have h2' := keep_at HHB.out 2 rfl
        refine wp_region_keep_tail1 (w0 := wr) (v0 := u8) 8 (by kernel_rfl) (by kernel_rfl) (Below.refl _ _) (fun _ _ _ h => h) (Or.inl ⟨by rfl, fun _ => by rfl⟩) ?_
        simp only [List.take_succ_cons, List.take_zero, List.drop_succ_cons, List.drop_zero, Nat.reduceSub]
        go_simp
        repeat (go_big_quiet_step ((first | (go_at_call 31; exact HHC.out _))))
        refine wpQuiet_nil ?_
        intro x
        have hO2 := HO.out.keep x.below
        have hD2 := HDI.out.imp id (fun h => own_stays h x.below)
        have hP2 := (x.below.block _ (lt_of_block HPB.out)).trans HPB.out
        have hR2 := (x.below.block _ (lt_of_block HRB.out)).trans HRB.out
        have hW2 := HW.out.trans (x.below.mono (by omega))
        have hz9 : D + 2 ≤ x.val.heap.size := Nat.le_trans hz2 x.below.size
        generalize x.val = wz at *
        have HO2 := Lib.hid hO2; have HD2 := Lib.hid hD2; have HP2 := Lib.hid hP2; have HR2 := Lib.hid hR2; have HW2 := Lib.hid hW2; have HZ9 := Lib.hid hz9
        clear hO2 hD2 hP2 hR2 hW2 hz9 k4 h0' h1' h2' HHC HO HDI HPB HRB HW HT HHB hz2
        go_upto_region 23 with (first | (at_builtin; go_must (refine wpList_pushE (m := 2) (news := [.int .i64 (1 + M.seq), .string HS, .int .i64 (-1), .string ⟨#[]⟩]) (w0 := wz) _ _ 64 68 HO2.out (Below.refl _ _) HZ9.out Tryz.underlying64 hNI hzI0 hzI1 hzI2 rfl (by decide) rfl rfl (by rfl) (by rfl) (by rfl) (by decide) (by simp [Value.oneCell']) ?c3 ?_)))
        case c3 => exact ⟨by omega, by omega⟩
        intro v9 w9 hown9 hb9 hg9
        have HD9 := Lib.hid (HD2.out.imp id (fun h => World.ownsRow.kept h hg9 (own_tags h HO2.out (by decide) (Nat.le_refl _))))
        have HP9 := Lib.hid ((hb9.block _ (by omega)).trans HP2.out)
        have HR9 := Lib.hid ((hb9.block _ (by omega)).trans HR2.out)
        have HW9 := Lib.hid (HW2.out.trans (hb9.mono (by omega)))
        have HZ9' := Lib.hid (show D + 2 ≤ w9.heap.size from Nat.le_trans HZ9.out hb9.size)
        have HO9 := Lib.hid hown9
        clear hown9 hb9 hg9 HD2 HP2 HR2 HW2 HZ9 HO2
        go_upto_region 23 with fail
        have k3 := keep_at HP9.out 3 rfl
        have k4 := keep_at HP9.out 4 rfl
        have HCK := Lib.hid (fun x : KeepT w9 => keepCall (HCC.out x.val))
        refine wp_region_keep_tail1 (w0 := w9) (v0 := v9) 11 (by kernel_rfl) (by kernel_rfl) (Below.refl _ _) (fun _ _ _ h => h) (Or.inl ⟨by rfl, fun _ => by rfl⟩) ?_
        simp only [List.take_succ_cons, List.take_zero, List.drop_succ_cons, List.drop_zero, Nat.reduceSub]
        go_simp
        repeat (go_big_quiet_step ((first | (go_at_call 32; exact HCK.out _))))
        refine wpQuiet_nil ?_
        intro x
        have hO2 := own_stays HO9.out x.below
        have hD2 := HD9.out.imp id (fun h => own_stays h x.below)
        have hP2 := (x.below.block _ (lt_of_block HP9.out)).trans HP9.out
        have hR2 := (x.below.block _ (lt_of_block HR9.out)).trans HR9.out
        have hW2 := HW9.out.trans (x.below.mono (by have := HZ9'.out; omega))
        have hz9 : D + 2 ≤ x.val.heap.size := Nat.le_trans HZ9'.out x.below.size
        generalize x.val = wy at *
        have HO2 := Lib.hid hO2; have HD2 := Lib.hid hD2; have HP2 := Lib.hid hP2; have HR2 := Lib.hid hR2; have HW2 := Lib.hid hW2; have HZ9 := Lib.hid hz9
        clear hO2 hD2 hP2 hR2 hW2 hz9 k3 k4 HCK HCC HO9 HD9 HP9 HR9 HW9 HZ9'
        go_upto_region 24 with (first | (at_builtin; go_must (refine wpList_pushE (m := 2) (news := [.int .i64 (7 + M.seq), .string CS, .int .i64 (-1), .string ⟨#[]⟩]) (w0 := wy) _ _ 64 68 (Or.inl HO2.out) (Below.refl _ _) HZ9.out Tryz.underlying64 hNI hzI0 hzI1 hzI2 rfl (by decide) rfl rfl (by rfl) (by rfl) (by rfl) (by decide) (by simp [Value.oneCell']) ?c4 ?_)))
        case c4 => exact ⟨by omega, by omega⟩
        intro v10 w10 hown10 hb10 hg10
        have hd10 := HD2.out.imp id (fun h => World.ownsRow.kept h hg10 (own_tags h (.inl HO2.out) (by decide) (Nat.le_refl _)))
        have hp10 := (hb10.block _ (by omega)).trans HP2.out
        have hr10 := (hb10.block _ (by omega)).trans HR2.out
        have hw10 := HW2.out.trans (hb10.mono (by omega))
        have hww := HW0.out.trans (hw10.mono (by rw [HB.out]; omega))
        have hcw : IsWrts w10 v10 (comC M xs) := by
          have h9 := hown10
          rw [show wcells (imgL M.used xs) ++ [.int .i64 (1 + M.seq), .string HS, .int .i64 (-1), .string ⟨#[]⟩, .int .i64 (7 + M.seq), .string CS, .int .i64 (-1), .string ⟨#[]⟩] = wcells (comC M xs) from by unfold comC hdC coC; rw [HHS.out, HCS.out, wcells_append, wcells_append, List.append_assoc]; rfl] at h9
          refine own_wrts h9 (com_bounded M xs HTA.out (fun x hx => HWB.out x hx))
        have hcl : (comC M xs).length = i + 4 := by unfold comC; rw [List.length_append, List.length_append, imgL_len, HN.out]; rfl
        have hlw := HL0.out.below (show Below W0.heap.size W0 w10 by rw [HZ0.out]; exact hw10)
        have HDO := refDo5 _ v10 M.dsk M.left (comC M xs) w10 (power_log hlw) hcw HTA.out.ok (by have := HTA.out.pend; have e : M.dsk.pend.length = M.pend.length := rfl; rw [hcl, e]; omega)
        rw [com_calls M xs _ hus.1 hsq.1] at HDO
        have hdz : IsWrts w10 u10 (xs.foldl withT M.dirty) := by
          rcases hd10 with h | h
          · exact h.below (by rw [HZ0.out]; exact hw10)
          · exact own_wrts h HDB.out
        obtain ⟨da, dc, hdv, hdc1, hdc2⟩ := hdz.form
        obtain ⟨dn, hdn⟩ : ∃ dn, (xs.foldl withT M.dirty).length = dn := ⟨_, rfl⟩
        rw [hdn] at hdv hdc1
        subst hdv
        clear hdn
        have HDZ := Lib.hid hdz; have HDO := Lib.hid HDO; have HPX := Lib.hid hp10; have HRX := Lib.hid hr10; have HWX2 := Lib.hid hww
        clear hown10 hb10 hg10 hd10 hp10 hr10 hw10 hww hcw hcl hlw hdz HD2 HP2 HR2 HW2 HZ9 HO2 HL0
        have hLx : doneL M xs = if (logO ⟨M.dsk, M.left, 0⟩ M xs).code = 0 then tkL (logO ⟨M.dsk, M.left, 0⟩ M xs) M xs else goneL (logO ⟨M.dsk, M.left, 0⟩ M xs) := rfl
        have hEx : doneE M xs = (logO ⟨M.dsk, M.left, 0⟩ M xs).code := rfl
        have hOk := log_ok ⟨M.dsk, M.left, 0⟩ M xs HTA.out.ok
        have hTo := HTA.out.told
        obtain ⟨O, hO⟩ : ∃ O, logO ⟨M.dsk, M.left, 0⟩ M xs = O := ⟨_, rfl⟩
        rw [hO] at hLx hEx hOk hTo HDO
        have HLX := Lib.hid (HLT.out.trans hLx); have HEX := Lib.hid (HET.out.trans hEx); have HOK := Lib.hid hOk; have HTO := Lib.hid hTo
        clear hLx hEx hOk hTo hO HLT HET
        have k0 := below_cell (Below.refl _ w10) HPX.out 0 rfl
        have k1 := below_cell (Below.refl _ w10) HPX.out 1 rfl
        have k2 := below_cell (Below.refl _ w10) HPX.out 2 rfl
        go_upto_region 25 with (first | (go_at_call 33; refine HDO.out.mono ?_; rintro e u7 ⟨v7, rfl, hp7, hb7⟩; obtain ⟨a, c, a', c', rfl, _⟩ := id hp7.form))
        have hal := (Below.refl u7.heap.size u7).alloc (Nat.le_refl _) (.cells #[.slice a O.dsk.secs.length c, .slice a' O.dsk.pend.length c', .int .i64 O.left] 27)
        have hqx := heap_alloc_new u7 (.cells #[.slice a O.dsk.secs.length c, .slice a' O.dsk.pend.length c', .int .i64 O.left] 27)
        have hP8 := (hal.block _ (lt_of_block ((hb7.block _ (lt_of_block HPX.out)).trans HPX.out))).trans ((hb7.block _ (lt_of_block HPX.out)).trans HPX.out)
        have hR8 := (hal.block _ (lt_of_block ((hb7.block _ (lt_of_block HRX.out)).trans HRX.out))).trans ((hb7.block _ (lt_of_block HRX.out)).trans HRX.out)
        have hW8 := (HWX2.out.trans (hb7.mono HWX2.out.size)).trans (hal.mono (HWX2.out.trans (hb7.mono HWX2.out.size)).size)
        have hp8 := hp7.below hal
        have hd8 := (HDZ.out.below hb7).below hal
        obtain ⟨F, hF⟩ : ∃ F, u7.heap.size = F := ⟨_, rfl⟩
        obtain ⟨u8q, hU⟩ : ∃ u8q, u7.alloc (.cells #[.slice a O.dsk.secs.length c, .slice a' O.dsk.pend.length c', .int .i64 O.left] 27) = u8q := ⟨_, rfl⟩
        rw [hU] at hqx hP8 hR8 hW8 hp8 hd8 ⊢
        rw [hF] at hqx
        (try rw [hF])
        have HP8 := Lib.hid hP8; have HR8 := Lib.hid hR8; have HW8 := Lib.hid hW8; have HPP := Lib.hid hp8; have HD8 := Lib.hid hd8
        clear hU hF hal hP8 hR8 hW8 hp7 hp8 hd8 hb7 HPX HRX HWX2 HDO HDZ k0 k1 k2
        have q0 := below_cell (Below.refl _ u8q) hqx 0 rfl
        have q1 := below_cell (Below.refl _ u8q) hqx 1 rfl
        have q2 := below_cell (Below.refl _ u8q) hqx 2 rfl
        have k3 := below_cell (Below.refl _ u8q) HP8.out 3 rfl
        have k4 := below_cell (Below.refl _ u8q) HP8.out 4 rfl
        have k5 := below_cell (Below.refl _ u8q) HP8.out 5 rfl
        clear hqx
        by_cases hc : O.code = 0
        · have e1 := HLX.out.trans (if_pos hc); have e2 := HEX.out.trans hc
          have hst := HR8.out
          have hsa : wrap64 (M.seq + 1) = M.seq + 1 := IntWalk.wrap64_in _ ⟨by omega, by omega⟩
          have hsu : wrap64 (M.used + (i : Int)) = M.used + i := IntWalk.wrap64_in _ ⟨by omega, by omega⟩
          have HS' := Lib.hid (setRow_heap u8q (B + 1) _ #[.slice a O.dsk.secs.length c, .slice a' O.dsk.pend.length c', .int .i64 O.left, .int .i64 M.epoch, .int .i64 (M.seq + 1), .int .i64 (M.used + i), .slice da dn dc] _ _ hst)
          have HF := Lib.hid (below_setRow HW8.out (show w.heap.size ≤ B + 1 by rw [HB.out]; omega) #[.slice a O.dsk.secs.length c, .slice a' O.dsk.pend.length c', .int .i64 O.left, .int .i64 M.epoch, .int .i64 (M.seq + 1), .int .i64 (M.used + i), .slice da dn dc])
          have HPN := Lib.hid (HPP.out.apart (w' := u8q.setRow (B + 1) #[.slice a O.dsk.secs.length c, .slice a' O.dsk.pend.length c', .int .i64 O.left, .int .i64 M.epoch, .int .i64 (M.seq + 1), .int .i64 (M.used + i), .slice da dn dc]) hst (box_no _ _ _ _ _ _ _ _ _ _ _ _ _) (by rw [setRow_size]; exact Nat.le_refl _) (fun k hk => setRow_other u8q (B + 1) k _ hk))
          have HDN := Lib.hid (HD8.out.apart (w' := u8q.setRow (B + 1) #[.slice a O.dsk.secs.length c, .slice a' O.dsk.pend.length c', .int .i64 O.left, .int .i64 M.epoch, .int .i64 (M.seq + 1), .int .i64 (M.used + i), .slice da dn dc]) hst (box_no _ _ _ _ _ _ _ _ _ _ _ _ _) (by rw [setRow_size]; exact Nat.le_refl _) (fun k hk => setRow_other u8q (B + 1) k _ hk))
          have HLF := Lib.hid e1; have HEF := Lib.hid e2
          clear e1 e2 HTO HLX HEX
          go_wp2_with (first | (refine wpList_store_row rfl 29 _ _ rfl (B + 1) #[.slice a O.dsk.secs.length c, .slice a' O.dsk.pend.length c', .int .i64 O.left, .int .i64 M.epoch, .int .i64 (M.seq + 1), .int .i64 (M.used + i), .slice da dn dc] rfl rfl 29 _ hst (by kernel_rfl) rfl (by simp [Value.oneCell']) ?_))
          refine bodyPost_ret (results_row_tmp rfl _ _ (B + 1) _ _ _ _ rfl HS'.out Tryz.underlying29 rfl (by kernel_rfl)) rfl (by exact ⟨_, by rw [HEF.out]; rfl, by rw [HLF.out]; unfold tkL takenL; rw [HN.out]; exact power_made HPN.out HDN.out HOK.out ⟨⟨by omega, by omega⟩, ⟨by omega, by omega⟩, ⟨by omega, by omega⟩⟩, HF.out⟩)
        · have e1 := HLX.out.trans (if_neg hc)
          have h21 := HTO.out.resolve_left hc
          have hne : (O.code == 0) = false := by simpa using hc
          have hne2 : (O.code != 0) = true := by simpa using hc
          have HTD := refTold _ O u8q HPP.out HOK.out
          rw [if_pos h21] at HTD
          have HTD := Lib.hid HTD
          obtain ⟨R, hR⟩ : ∃ R, goneL O = R := ⟨_, rfl⟩
          rw [hR] at HTD e1
          have HLF := Lib.hid e1
          clear e1 HTO h21 hR HLX
          go_wp2_with (first
            | (go_at_call 34; refine HTD.out.mono ?_; rintro e u9 ⟨v9', rfl, hl9, hb9⟩; obtain ⟨t1, t2, t3, t4, t5, t6, rfl, _⟩ := id hl9.form; have hst := (hb9.block _ (lt_of_block HR8.out)).trans HR8.out; have HS' := Lib.hid (setRow_heap u9 (B + 1) _ #[.slice t1 R.secs.length t2, .slice t3 R.pend.length t4, .int .i64 R.left, .int .i64 R.epoch, .int .i64 R.seq, .int .i64 R.used, .slice t5 R.dirty.length t6] _ _ hst))
            | (refine wpList_store_row rfl 29 _ _ rfl (B + 1) #[.slice t1 R.secs.length t2, .slice t3 R.pend.length t4, .int .i64 R.left, .int .i64 R.epoch, .int .i64 R.seq, .int .i64 R.used, .slice t5 R.dirty.length t6] rfl rfl 29 _ hst (by kernel_rfl) rfl (by simp [Value.oneCell']) ?_))
          have hlN := hl9.apart (w' := u9.setRow (B + 1) #[.slice t1 R.secs.length t2, .slice t3 R.pend.length t4, .int .i64 R.left, .int .i64 R.epoch, .int .i64 R.seq, .int .i64 R.used, .slice t5 R.dirty.length t6]) hst (box_no _ _ _ _ _ _ _ _ _ _ _ _ _) (by rw [setRow_size]; exact Nat.le_refl _) (fun k hk => setRow_other u9 (B + 1) k _ hk)
          have hF := below_setRow (HW8.out.trans (hb9.mono HW8.out.size)) (show w.heap.size ≤ B + 1 by rw [HB.out]; omega) #[.slice t1 R.secs.length t2, .slice t3 R.pend.length t4, .int .i64 R.left, .int .i64 R.epoch, .int .i64 R.seq, .int .i64 R.used, .slice t5 R.dirty.length t6]
          refine bodyPost_ret (results_row_tmp rfl _ _ (B + 1) _ _ _ _ rfl HS'.out Tryz.underlying29 rfl (by kernel_rfl)) rfl (by exact ⟨_, by rw [HEX.out]; rfl, by rw [HLF.out]; exact hlN, hF⟩)
end Go.Proofs.YthnmnnlbglpjaaaGreatDoor
