/- frame.ReadReply. -/
import Derived.Test.YtmanlogclbbgaaaFr25
import Derived.Test.YtmanlogclbbgaaaFr19
import Derived.Test.YtmanlogclbbgaaaResRow
namespace Go.Proofs.Ytmanlogclbbgaaa
open Go.RowKit
set_option linter.unusedVariables false

def rpT (r : Rp) : ByteArray := if rpOk r = true then rpB r else ⟨#[]⟩
def rpX (r : Rp) : Int := if rpOk r = true then 0 else 1
theorem frReply_all (r : Rp) (v : Value) (w : World) (h : IsRp w v r) :
    Calls Try.prog 16 #[v] w fun e w' => e = .returned (.tuple #[.string (rpT r), .int .i64 (rpX r)]) ∧ Below w.heap.size w w' := by
  unfold rpT rpX
  cases hr : rpOk r with
  | true => exact frReply_ok r v w h hr
  | false => exact frReply_bad r v w h hr
theorem readR_no {s : ByteArray} (h : rrOk s = false) : readR s = none := by
  unfold readR
  unfold rrOk at h
  split
  · rename_i he
    rw [decide_eq_true he, Bool.true_and] at h
    cases hp : prRp (openS s) with
    | none => rfl
    | some x => rw [hp] at h; cases h
  · rfl
theorem readR_yes {s : ByteArray} {q : Rp} {r : Nat} (h : rrOk s = true) (hp : prRp (openS s) = some (q, r)) : readR s = if rpOk q = true ∧ rpB q = s then some q else none := by
  unfold rrOk at h
  rw [Bool.and_eq_true, decide_eq_true_eq] at h
  unfold readR
  rw [if_pos h.1, hp]
  rfl
def ReadPost (s : ByteArray) (w : World) (e : Ending) (w' : World) : Prop :=
  Below w.heap.size w w' ∧ ∃ v, IsRp w' v ((readR s).getD rpZ) ∧ e = .returned (.tuple #[v, .int .i64 (if (readR s).isSome = true then 0 else 70)])
theorem rpost_no {s : ByteArray} {w w' : World} (h : readR s = none) (hb : Below w.heap.size w w') : ReadPost s w (.returned (.tuple #[.agg #[.int .i64 0, .int .i64 0, .int .i64 0, .string ⟨#[]⟩, .int .i64 0, .int .u32 0, .slice none 0 0], .int .i64 70])) w' :=
  ⟨hb, _, by rw [h]; exact ⟨rpZ_bounded, _, rfl, none, 0, 0, rfl, rfl, Nat.le_refl _, by omega, fun _ => rfl, .inl rfl⟩, by rw [h]; rfl⟩
theorem rpost_yes {s : ByteArray} {r : Rp} {v : Value} {w w' : World} (h : readR s = some r) (hr : IsRp w' v r) (hb : Below w.heap.size w w') : ReadPost s w (.returned (.tuple #[v, .int .i64 0])) w' :=
  ⟨hb, v, by rw [h]; exact hr, by rw [h]; rfl⟩
theorem isrp_kept {w2 w3 : World} {N b : Nat} {r : Rp} {v : Value} {n : Nat} {xs : List Value} {cs : Array Value} (hb : r.bounded) (h2 : w2.ownsRow b 66 3 v n xs) (h3 : RowV w2 b xs r.lines) (hn : r.lines.length = n) (hb3 : Below w2.heap.size w2 w3) (hN : N < b) : IsRp (w3.setRow N cs) (r.val v) r := by
  have hg : w2.grownBy (w3.setRow N cs) (some N) := ⟨hb3.os, hb3.tape, hb3.output, by rw [setRow_size]; exact hb3.size, fun k hk hr => (setRow_other w3 N k _ (fun e => hr (by rw [e]))).trans (hb3.block k hk)⟩
  exact ⟨hb, v, rfl, (h3.kept hg (.inl hN)).row.reads (h2.kept hg (.inr (fun e => absurd (h2.lt N e).1 (by omega)))) hn (Below.refl _ _)⟩
set_option maxRecDepth 100000 in
set_option maxHeartbeats 4000000 in
theorem frReadReply (s : ByteArray) (w : World) (hs : s.size ≤ 3000) :
    Calls Try.prog 17 #[.string s] w fun e w' => ReadPost s w e w' := by
  have hmf : ∀ (fn : Fn) (first cap : Array Value) (w : World), (Instr.makeFunc fn first cap).run Try.prog w = .ok (.func fn first cap) w := fun _ _ _ _ => rfl
  have hX : Hid (∀ u : World, u = (w.alloc (.cells #[.int .i64 0, .int .i64 0, .int .i64 0, .string ⟨#[]⟩, .int .i64 0, .int .u32 0, .slice none 0 0] 37)).alloc (.cells #[.int .i64 0, .int .i64 0, .int .i64 0, .string ⟨#[]⟩, .int .i64 0, .int .u32 0, .slice none 0 0] 37) →
      u.heap[w.heap.size]? = some (boxA rpZ (.slice none 0 0)) ∧ u.heap[w.heap.size + 1]? = some (boxA rpZ (.slice none 0 0)) ∧ Below w.heap.size w u ∧ u.heap.size = w.heap.size + 1 + 1) := Lib.hid (by
    rintro u rfl
    have b0 := heap_alloc_new w (.cells #[.int .i64 0, .int .i64 0, .int .i64 0, .string ⟨#[]⟩, .int .i64 0, .int .u32 0, .slice none 0 0] 37)
    have e1 := heap_alloc_new (w.alloc (.cells #[.int .i64 0, .int .i64 0, .int .i64 0, .string ⟨#[]⟩, .int .i64 0, .int .u32 0, .slice none 0 0] 37)) (.cells #[.int .i64 0, .int .i64 0, .int .i64 0, .string ⟨#[]⟩, .int .i64 0, .int .u32 0, .slice none 0 0] 37)
    rw [World.size_alloc] at e1
    exact ⟨(heap_alloc_old _ _ (lt_of_block b0)).trans b0, e1, ((Below.refl w.heap.size w).alloc (Nat.le_refl _) _).alloc (by simp) _, by rw [World.size_alloc, World.size_alloc]⟩)
  go_enter Try.func17, Try.ntmps17
  go_upto_region 2 with fail
  obtain ⟨w1, hW⟩ : ∃ w1, (w.alloc (.cells #[.int .i64 0, .int .i64 0, .int .i64 0, .string ⟨#[]⟩, .int .i64 0, .int .u32 0, .slice none 0 0] 37)).alloc (.cells #[.int .i64 0, .int .i64 0, .int .i64 0, .string ⟨#[]⟩, .int .i64 0, .int .u32 0, .slice none 0 0] 37) = w1 := ⟨_, rfl⟩
  rw [hW]
  obtain ⟨hN, hB, hb1, hz1⟩ := hX.out w1 hW.symm
  clear hW hX
  obtain ⟨N, hNN⟩ : ∃ N, w.heap.size = N := ⟨_, rfl⟩
  obtain ⟨B, hBB⟩ : ∃ B, N + 1 = B := ⟨_, rfl⟩
  rw [hNN] at hN hB hz1 ⊢
  rw [hBB] at hB hz1 ⊢
  have HNN := Lib.hid hNN
  have hNB : N ≠ B := by omega
  have HB1 := Lib.hid hb1; have HN := Lib.hid hN
  have HR := Lib.hid (frReadR s B w1 hB hs)
  have hNb : N < w1.heap.size := by omega
  clear hb1 hN hB hz1
  go_upto_region 3 with (first | (go_at_call 27; refine HR.out.mono ?_; rintro e w2 ⟨q, hqb, rfl, hbox, hq3, hg2⟩))
  have hans : (rrOk s = true ∧ rpX q = 0 ∧ rpT q = s ∧ readR s = some q) ∨ ((rrOk s = false ∨ rpX q ≠ 0 ∨ rpT q ≠ s) ∧ readR s = none) := by
    cases h : rrOk s with
    | false => exact .inr ⟨.inl rfl, readR_no h⟩
    | true =>
      obtain ⟨r, hr⟩ := hq3 h
      rw [readR_yes h hr]
      unfold rpX rpT
      by_cases ho : rpOk q = true
      · rw [if_pos ho, if_pos ho]
        by_cases hb : rpB q = s
        · rw [if_pos ⟨ho, hb⟩]; exact .inl ⟨rfl, rfl, hb, rfl⟩
        · rw [if_neg (fun h => hb h.2)]; exact .inr ⟨.inr (.inr hb), rfl⟩
      · rw [if_neg ho, if_neg ho, if_neg (fun h => ho h.1)]
        exact .inr ⟨.inr (.inl (by decide)), rfl⟩
  obtain ⟨v, xs, hq2, hown, hrow⟩ := hbox
  obtain ⟨ta, tc, rfl, _⟩ := own_formS hown
  have hls := hrow.row.reads hown rfl (Below.refl _ _)
  have hIs : IsRp w2 (q.val (.slice ta q.lines.length tc)) q := ⟨hqb, _, rfl, hls⟩
  have HA := Lib.hid (fun u (hu : Below w2.heap.size w2 u) => frReply_all q _ u (hIs.below hu))
  have HIS := Lib.hid (fun (w3 : World) (cs : Array Value) (h : Below w2.heap.size w2 w3) => isrp_kept (N := N) (cs := cs) hqb hown hrow rfl h hNb)
  have hN2 := (hg2.block N (lt_of_block HN.out) (fun e => hNB (Option.some.inj e))).trans HN.out
  have hb2 : Below w.heap.size w w2 := HB1.out.grown hg2 HB1.out.size (fun k hk => by injection hk with hk; omega)
  have HANS := Lib.hid hans; have HN2 := Lib.hid hN2; have HB2 := Lib.hid hb2; have HQ2 := Lib.hid (show w2.heap[B]? = some (.cells #[.int .i64 q.why, .int .i64 q.at_, .int .i64 q.no, .string q.source, .int .i64 q.insns, .int .u32 q.action, .slice ta q.lines.length tc] 37 (0, 0)) from hq2)
  have HQX := Lib.hid hqb
  generalize rrOk s = ok at *
  generalize rpX q = ae at *
  generalize rpT q = aS at *
  obtain ⟨q1, q2, q3, q4, q5, q6, ls⟩ := q
  unfold boxA at hq2
  unfold Rp.val at HA
  have c0 := below_cell (Below.refl _ w2) hq2 0 rfl
  have c1 := below_cell (Below.refl _ w2) hq2 1 rfl
  have c2 := below_cell (Below.refl _ w2) hq2 2 rfl
  have c3 := below_cell (Below.refl _ w2) hq2 3 rfl
  have c4 := below_cell (Below.refl _ w2) hq2 4 rfl
  have c5 := below_cell (Below.refl _ w2) hq2 5 rfl
  have c6 := below_cell (Below.refl _ w2) hq2 6 rfl
  try simp only at c0
  try simp only at c1
  try simp only at c2
  try simp only at c3
  try simp only at c4
  try simp only at c5
  try simp only at c6
  try simp only at HA
  try simp only at HQ2
  clear hq3 hans hN2 hb2 hq2 hIs hls hqb hown hrow HN HB1 hg2
  go_upto_region 4 with (first | (go_at_call 16; refine (HA.out _ (Below.refl _ _)).mono ?_; rintro e w3 ⟨rfl, hb3⟩))
  have hq3 := (hb3.block _ (lt_of_block HQ2.out)).trans HQ2.out
  have hN3 := (hb3.block _ (lt_of_block HN2.out)).trans HN2.out
  have HB3 := Lib.hid (HB2.out.trans (hb3.mono HB2.out.size))
  have d0 := below_cell (Below.refl _ w3) hq3 0 rfl
  have d1 := below_cell (Below.refl _ w3) hq3 1 rfl
  have d2 := below_cell (Below.refl _ w3) hq3 2 rfl
  have d3 := below_cell (Below.refl _ w3) hq3 3 rfl
  have d4 := below_cell (Below.refl _ w3) hq3 4 rfl
  have d5 := below_cell (Below.refl _ w3) hq3 5 rfl
  have d6 := below_cell (Below.refl _ w3) hq3 6 rfl
  try simp only at d0
  try simp only at d1
  try simp only at d2
  try simp only at d3
  try simp only at d4
  try simp only at d5
  try simp only at d6
  have HI3 := Lib.hid (fun cs => HIS.out w3 cs hb3)
  have hNw : w.heap.size ≤ N := by omega
  have HS0 := Lib.hid (setRow_heap w3 N _ #[.int .i64 0, .int .i64 0, .int .i64 0, .string ⟨#[]⟩, .int .i64 0, .int .u32 0, .slice none 0 0] _ _ hN3)
  have HS1 := Lib.hid (setRow_heap w3 N _ #[.int .i64 q1, .int .i64 q2, .int .i64 q3, .string q4, .int .i64 q5, .int .u32 q6, .slice ta ls.length tc] _ _ hN3)
  have HF0 := Lib.hid (below_setRow HB3.out hNw #[.int .i64 0, .int .i64 0, .int .i64 0, .string ⟨#[]⟩, .int .i64 0, .int .u32 0, .slice none 0 0])
  have HF1 := Lib.hid (below_setRow HB3.out hNw #[.int .i64 q1, .int .i64 q2, .int .i64 q3, .string q4, .int .i64 q5, .int .u32 q6, .slice ta ls.length tc])
  have hinfo := Try.underlying37
  clear c0 c1 c2 c3 c4 c5 c6 hb3 HIS HQX HB2 HA HNN hq3 hNN hBB HQ2 HN2
  have bad : (ok = false ∨ ae ≠ 0 ∨ aS ≠ s) → readR s = none := fun h => by
    rcases HANS.out with ⟨a1, a2, a3, _⟩ | ⟨_, b1⟩
    · rcases h with h | h | h
      · rw [a1] at h; cases h
      · exact absurd a2 h
      · exact absurd a3 h
    · exact b1
  have BAD := Lib.hid bad
  clear bad
  cases ok with
  | false =>
    have r1 := BAD.out (.inl rfl)
    have R1 := Lib.hid r1
    clear HANS BAD r1
    go_wp2_with (first | (refine wpList_store_row rfl 37 _ _ rfl N #[.int .i64 0, .int .i64 0, .int .i64 0, .string ⟨#[]⟩, .int .i64 0, .int .u32 0, .slice none 0 0] rfl rfl 37 _ hN3 (by kernel_rfl) rfl (by simp [Value.oneCell']) ?_))
    exact bodyPost_ret (results_row_tmp rfl _ _ N _ _ _ _ rfl HS0.out Try.underlying37 rfl (by kernel_rfl)) rfl (by exact rpost_no R1.out HF0.out)
  | true =>
    by_cases ha : ae = 0
    case neg =>
      have r1 := BAD.out (.inr (.inl ha))
      have hq : (ae != 0) = true := by simpa using ha
      have R1 := Lib.hid r1
      clear HANS BAD r1 ha
      go_wp2_with (first | (refine wpList_store_row rfl 37 _ _ rfl N #[.int .i64 0, .int .i64 0, .int .i64 0, .string ⟨#[]⟩, .int .i64 0, .int .u32 0, .slice none 0 0] rfl rfl 37 _ hN3 (by kernel_rfl) rfl (by simp [Value.oneCell']) ?_))
      exact bodyPost_ret (results_row_tmp rfl _ _ N _ _ _ _ rfl HS0.out Try.underlying37 rfl (by kernel_rfl)) rfl (by exact rpost_no R1.out HF0.out)
    subst ha
    by_cases hs : aS = s
    case neg =>
      have r1 := BAD.out (.inr (.inr hs))
      have hq := ba_tne hs
      have R1 := Lib.hid r1
      clear HANS BAD r1 hs
      go_wp2_with (first | (refine wpList_store_row rfl 37 _ _ rfl N #[.int .i64 0, .int .i64 0, .int .i64 0, .string ⟨#[]⟩, .int .i64 0, .int .u32 0, .slice none 0 0] rfl rfl 37 _ hN3 (by kernel_rfl) rfl (by simp [Value.oneCell']) ?_))
      exact bodyPost_ret (results_row_tmp rfl _ _ N _ _ _ _ rfl HS0.out Try.underlying37 rfl (by kernel_rfl)) rfl (by exact rpost_no R1.out HF0.out)
    subst hs
    have hgood : readR aS = some ⟨q1, q2, q3, q4, q5, q6, ls⟩ := by
      rcases HANS.out with ⟨_, _, _, b1⟩ | ⟨h, _⟩
      · exact b1
      · rcases h with h | h | h
        · cases h
        · exact absurd rfl h
        · exact absurd rfl h
    have r1 := hgood
    have hq : (aS.toList == aS.toList) = true := by simp
    have R1 := Lib.hid r1
    clear HANS BAD r1
    go_wp2_with (first | (refine wpList_store_row rfl 37 _ _ rfl N #[.int .i64 q1, .int .i64 q2, .int .i64 q3, .string q4, .int .i64 q5, .int .u32 q6, .slice ta ls.length tc] rfl rfl 37 _ hN3 (by kernel_rfl) rfl (by simp [Value.oneCell']) ?_))
    exact bodyPost_ret (results_row_tmp rfl _ _ N _ _ _ _ rfl HS1.out Try.underlying37 rfl (by kernel_rfl)) rfl (by exact rpost_yes R1.out (HI3.out _) HF1.out)
end Go.Proofs.Ytmanlogclbbgaaa
