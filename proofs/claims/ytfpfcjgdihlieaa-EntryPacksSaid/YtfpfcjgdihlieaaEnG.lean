/- doorwardlaw08.few. -/
import Derived.Test.YtfpfcjgdihlieaaEnR
import Derived.Laws.OwnMore
namespace Go.Proofs.Ytfpfcjgdihlieaa
open Go.RowKit
set_option linter.unusedVariables false

def cutFew (e : En) : En := ⟨e.name, e.cur, e.nxt, e.vers.take 20⟩
def fewE (l : List En) : List En := (l.take 20).map cutFew
def fewU (l : List En) (i : Nat) : List En := (l.take i).map cutFew ++ l.drop i
theorem fewE_len (l : List En) : (fewE l).length ≤ 20 := by unfold fewE; rw [List.length_map, List.length_take]; omega
theorem fewE_vers (l : List En) : ∀ e ∈ fewE l, e.vers.length ≤ 20 := by
  intro e he
  obtain ⟨a, _, rfl⟩ := List.mem_map.1 he
  show (a.vers.take 20).length ≤ 20
  rw [List.length_take]; omega
theorem fewU_len (l : List En) (i : Nat) : (fewU l i).length = l.length := by
  unfold fewU; rw [List.length_append, List.length_map, List.length_take, List.length_drop]; omega
theorem fewU_get (l : List En) (i : Nat) (hi : i < l.length) : (fewU l i).getD i enZ = l.getD i enZ := by
  unfold fewU
  have : ((l.take i).map cutFew).length = i := by rw [List.length_map, List.length_take]; omega
  simp only [List.getD]
  rw [List.getElem?_append_right (by omega), this, Nat.sub_self, List.getElem?_drop, Nat.add_zero]
theorem fewU_succ (l : List En) (i : Nat) (hi : i < l.length) : fewU l (i + 1) = (fewU l i).set i (cutFew (l.getD i enZ)) := by
  unfold fewU
  have h1 : ((l.take i).map cutFew).length = i := by rw [List.length_map, List.length_take]; omega
  rw [List.set_append_right _ _ (by omega), h1, Nat.sub_self, List.drop_eq_getElem_cons hi, List.set_cons_zero, ← List.take_append_getElem hi, List.map_append,
    show l.getD i enZ = l[i] from by simp [List.getD, hi]]
  simp
/-- these cells are these entries' -/
def RowE (w : World) (xs : List Value) (l : List En) : Prop :=
  xs.length = l.length * 4 ∧ ∀ j, j < l.length → (l.getD j enZ).bounded ∧ xs[j * 4]? = some (.string (l.getD j enZ).name) ∧ xs[j * 4 + 1]? = some (.int .i64 (l.getD j enZ).cur) ∧ xs[j * 4 + 2]? = some (.int .i64 (l.getD j enZ).nxt) ∧
    ∃ k, xs[j * 4 + 3]? = some k ∧ IsVrs w k (l.getD j enZ).vers
theorem RowE.snoc {w : World} {xs : List Value} {l : List En} {e : En} {k : Value} (h : RowE w xs l) (hb : e.bounded) (hk : IsVrs w k e.vers) : RowE w (xs ++ e.cells k) (l ++ [e]) := by
  obtain ⟨h1, h2⟩ := h
  refine ⟨by rw [List.length_append, List.length_append, h1]; simp [En.cells]; omega, fun j hj => ?_⟩
  by_cases hl : j < l.length
  · obtain ⟨a, b, c, d, k', e', f⟩ := h2 j hl
    rw [show (l ++ [e]).getD j enZ = l.getD j enZ from by simp [List.getD, List.getElem?_append_left hl]]
    refine ⟨a, ?_, ?_, ?_, k', ?_, f⟩ <;> (rw [List.getElem?_append_left (by omega)]; assumption)
  · have hj' : j = l.length := by rw [List.length_append] at hj; simp at hj; omega
    subst hj'
    rw [show (l ++ [e]).getD l.length enZ = e from by simp [List.getD]]
    refine ⟨hb, ?_, ?_, ?_, k, ?_, hk⟩ <;> (rw [List.getElem?_append_right (by omega), h1]; simp [En.cells])
theorem RowE.set {w : World} {xs : List Value} {l : List En} (h : RowE w xs l) (i : Nat) (hi : i < l.length) (k' : Value) (vs : List Vr) (hk : IsVrs w k' vs) :
    RowE w (xs.set (i * 4 + 3) k') (l.set i ⟨(l.getD i enZ).name, (l.getD i enZ).cur, (l.getD i enZ).nxt, vs⟩) := by
  obtain ⟨h1, h2⟩ := h
  refine ⟨by rw [List.length_set, List.length_set, h1], fun j hj => ?_⟩
  rw [List.length_set] at hj
  obtain ⟨a, b, c, d, k, e, f⟩ := h2 j hj
  by_cases hij : i = j
  · subst hij
    rw [show (l.set i ⟨(l.getD i enZ).name, (l.getD i enZ).cur, (l.getD i enZ).nxt, vs⟩).getD i enZ = ⟨(l.getD i enZ).name, (l.getD i enZ).cur, (l.getD i enZ).nxt, vs⟩ from by simp [List.getD, hi]]
    refine ⟨a, ?_, ?_, ?_, k', ?_, hk⟩
    · rw [List.getElem?_set_ne (by omega)]; exact b
    · rw [List.getElem?_set_ne (by omega)]; exact c
    · rw [List.getElem?_set_ne (by omega)]; exact d
    · rw [List.getElem?_set_self (by omega)]
  · rw [show (l.set i ⟨(l.getD i enZ).name, (l.getD i enZ).cur, (l.getD i enZ).nxt, vs⟩).getD j enZ = l.getD j enZ from by simp [List.getD, List.getElem?_set_ne hij]]
    refine ⟨a, ?_, ?_, ?_, k, ?_, f⟩
    · rw [List.getElem?_set_ne (by omega)]; exact b
    · rw [List.getElem?_set_ne (by omega)]; exact c
    · rw [List.getElem?_set_ne (by omega)]; exact d
    · rw [List.getElem?_set_ne (by omega)]; exact e
theorem RowE.reads {w w' : World} {base : Nat} {v : Value} {n : Nat} {xs : List Value} {l : List En} (h : RowE w xs l) (hown : w'.ownsRow base 36 4 v n xs) (hn : l.length = n) (hb : Below w.heap.size w w') : IsEns w' v l := by
  subst hn
  obtain ⟨h1, h2⟩ := h
  rcases hown.2 with ⟨rfl, h0⟩ | ⟨g, cap, cur, rfl, hg, hh, hn, hc, hcs, htake⟩
  · exact ⟨none, 0, 0, rfl, h0, by omega, by omega, fun _ => rfl, .inl rfl⟩
  · refine ⟨_, _, cap, rfl, rfl, hn, by unfold maxLen at hc; exact hc, (fun e => by cases e), ?_⟩
    by_cases h0 : l.length = 0
    · exact .inl h0
    · refine .inr ⟨g, 0, rfl, (hown.lt g rfl).2, fun i hi => ?_⟩
      have hat : ∀ j u, xs[j]? = some u → w'.cell? ⟨g, j, none⟩ = some u := by
        intro j u hu
        have := hown.cells (g := g) rfl j u hu
        rwa [show (⟨g, 0, none⟩ : Addr).add j = ⟨g, j, none⟩ from by unfold Addr.add; split <;> simp_all] at this
      obtain ⟨a, b, c, d, k, e, f⟩ := h2 i hi
      rw [Nat.zero_add]
      exact ⟨a, k, f.below hb, hat _ _ b, hat _ _ c, hat _ _ d, hat _ _ e⟩
/-- a part of a list from its beginning, as cells -/
theorem ens_cells {w : World} {l : List En} {b off len : Nat} (hat : ∀ i, i < len → EnAt w b (off + i * 4) (l.getD i enZ)) : ∀ m, m ≤ len → m ≤ l.length →
    ∃ xs, (∀ u ∈ xs, u.oneCell' = true) ∧ (∀ j u, xs[j]? = some u → w.cell? ⟨b, off + j, none⟩ = some u) ∧ RowE w xs (l.take m)
  | 0, _, _ => ⟨[], by simp, by simp, rfl, fun j hj => by simp at hj⟩
  | m + 1, h1, h2 => by
    obtain ⟨xs, a, b', c⟩ := ens_cells hat m (by omega) (by omega)
    obtain ⟨hb, va, vc, hvs, e0, e1, e2, e3⟩ := (hat m (by omega)).cell
    have hxl : xs.length = m * 4 := by rw [c.1, List.length_take]; omega
    refine ⟨xs ++ (l.getD m enZ).cells (.slice va (l.getD m enZ).vers.length vc), fun u hu => ?_, fun j u hu => ?_, ?_⟩
    · rcases List.mem_append.1 hu with hu | hu
      · exact a u hu
      · simp only [En.cells, List.mem_cons, List.not_mem_nil, or_false] at hu
        rcases hu with rfl | rfl | rfl | rfl <;> rfl
    · by_cases hj : j < m * 4
      · rw [List.getElem?_append_left (by omega)] at hu
        exact b' j u hu
      · rw [List.getElem?_append_right (by omega), hxl] at hu
        have hj4 : j - m * 4 < 4 := by
          have := (List.getElem?_eq_some_iff.1 hu).1
          simpa [En.cells] using this
        have hcs : j = m * 4 ∨ j = m * 4 + 1 ∨ j = m * 4 + 2 ∨ j = m * 4 + 3 := by omega
        rcases hcs with rfl | rfl | rfl | rfl
        · rw [show m * 4 - m * 4 = 0 by omega] at hu; simp only [En.cells, List.getElem?_cons_zero] at hu; injection hu with hu; subst hu; exact e0
        · rw [show m * 4 + 1 - m * 4 = 1 by omega] at hu; simp only [En.cells, List.getElem?_cons_succ, List.getElem?_cons_zero] at hu; injection hu with hu; subst hu; rw [← Nat.add_assoc]; exact e1
        · rw [show m * 4 + 2 - m * 4 = 2 by omega] at hu; simp only [En.cells, List.getElem?_cons_succ, List.getElem?_cons_zero] at hu; injection hu with hu; subst hu; rw [← Nat.add_assoc]; exact e2
        · rw [show m * 4 + 3 - m * 4 = 3 by omega] at hu; simp only [En.cells, List.getElem?_cons_succ, List.getElem?_cons_zero] at hu; injection hu with hu; subst hu; rw [← Nat.add_assoc]; exact e3
    · have hl : m < l.length := by omega
      rw [← List.take_append_getElem hl, show l[m] = l.getD m enZ from by simp [List.getD, hl]]
      exact c.snoc hb hvs
theorem ens_source {w : World} {A : Option Addr} {n cap : Nat} {l : List En} (h : IsEns w (.slice A n cap) l) (m : Nat) (hm : m ≤ n) :
    ∃ xs, (∀ u ∈ xs, u.oneCell' = true) ∧ ((A = none ∧ m = 0 ∧ cap = 0 ∧ xs = []) ∨ ∃ ad, A = some ad ∧ ∀ j u, xs[j]? = some u → w.cell? (ad.add j) = some u) ∧ RowE w xs (l.take m) := by
  obtain ⟨a, len', cap', hv, hlen, hc1, hc2, hnil, hat⟩ := h
  injection hv with h1 h2 h3
  subst h1 h2 h3
  cases A with
  | none =>
    have hc := hnil rfl
    obtain rfl : m = 0 := by omega
    exact ⟨[], by simp, .inl ⟨rfl, rfl, hc, rfl⟩, rfl, fun j hj => by simp at hj⟩
  | some ad =>
    rcases hat with h0 | ⟨b, off, hab, hb, hat⟩
    · obtain rfl : m = 0 := by omega
      exact ⟨[], by simp, .inr ⟨ad, rfl, by simp⟩, rfl, fun j hj => by simp at hj⟩
    · injection hab with hab
      subst hab
      obtain ⟨xs, x1, x2, x3⟩ := ens_cells hat m hm (by omega)
      exact ⟨xs, x1, .inr ⟨_, rfl, fun j u hu => by rw [addr_add]; exact x2 j u hu⟩, x3⟩
theorem infoEn : (Try.prog.info? 36).map (fun i => (i.zero, i.size, i.bytes)) = some (some (.agg #[.string ⟨#[]⟩, .int .i64 0, .int .i64 0, .slice none 0 0]), 4, 56) := by kernel_rfl
theorem own_formS {w : World} {base e : Nat} {size : Nat} {v : Value} {n : Nat} {xs : List Value} (h : w.ownsRow base e size v n xs) : ∃ A c, v = .slice A n c ∧ n ≤ c ∧ c ≤ 9223372036854775807 ∧ (0 < n → ∃ g, A = some ⟨g, 0, none⟩) := by
  rcases h.2 with ⟨rfl, h0⟩ | ⟨g, cap, cur, rfl, hg, hh, hn, hc, _⟩
  · subst h0; exact ⟨_, _, rfl, by omega, by omega, fun h => by omega⟩
  · exact ⟨_, _, rfl, hn, by unfold maxLen at hc; exact hc, fun _ => ⟨g, rfl⟩⟩
theorem own_stay {w w' : World} {base : Nat} {e : TypeId} {size : Nat} {v : Value} {n : Nat} {xs : List Value} (h : w.ownsRow base e size v n xs) (hb : Below w.heap.size w w') : w'.ownsRow base e size v n xs := by
  refine ⟨h.1, h.2.imp id ?_⟩
  rintro ⟨g, cap, cur, rfl, hg, hh, hr⟩
  exact ⟨g, cap, cur, rfl, hg, (hb.block g (lt_of_block hh)).trans hh, hr⟩
set_option maxRecDepth 100000 in
set_option maxHeartbeats 1000000 in
theorem enFewR (l : List En) (v : Value) (W0 w : World) (h : IsEns W0 v l) (hW0 : Below W0.heap.size W0 w) : Calls Try.prog 7 #[v] w fun e' w' => ∃ v' xs, e' = .returned v' ∧ RowE W0 xs (fewE l) ∧ w'.ownsRow w.heap.size 36 4 v' (fewE l).length xs ∧ Below w.heap.size w w' := by
  obtain ⟨a, n, cap, rfl, hl, hc1, hc2, hnil, hat⟩ := id h
  obtain ⟨iI, hNI, hzI0, hzI1, hzI2⟩ := info_parts infoEn
  obtain ⟨p, hp, hp1, hp2, hp3⟩ := min_if n 20 (by omega)
  have hpp : min (n : Int) 20 = p := by omega
  have hpI : (p : Int) ≤ 20 := by omega
  have hpn : (p : Int) ≤ n := by omega
  have hp20 : l.take p = l.take 20 := by
    rw [hp3, show (20 : Int).toNat = 20 from rfl]
    by_cases hh : n ≤ 20
    · rw [Nat.min_eq_left hh, List.take_of_length_le (by omega), List.take_of_length_le (by omega)]
    · rw [Nat.min_eq_right (by omega)]
  obtain ⟨xs, hx1, hx2, hx3⟩ := ens_source h p hp1
  have hpl : (l.take p).length = p := by rw [List.length_take]; omega
  have HP20 := Lib.hid hp20
  obtain ⟨L, hL⟩ : ∃ L, l.take p = L := ⟨_, rfl⟩
  have hLp : L.length = p := by rw [← hL]; exact hpl
  have hF : fewE l = fewU L p := by unfold fewE fewU; rw [← hp20, hL, List.take_of_length_le (by omega), List.drop_eq_nil_of_le (by omega), List.append_nil]
  rw [hF, fewU_len, hLp]
  rw [hL] at hx3 hpl
  have hxl : xs.length = p * 4 := by rw [hx3.1, hpl]
  have hnI : (n : Int) ≤ 9223372036854775807 := by omega
  have hcI : (n : Int) ≤ cap := by omega
  have hcapI : (cap : Int) ≤ 9223372036854775807 := by omega
  have hown0 : (w.alloc (.cells #[] 36)).ownsRow w.heap.size 36 4 (.slice (some ⟨w.heap.size, 0, none⟩) 0 0) 0 [] := World.ownsRow_made w #[] 0 (Nat.le_refl _) (by unfold maxLen; omega) rfl
  have hw1 := (Below.refl w.heap.size w).alloc (Nat.le_refl _) (.cells #[] 36)
  have hx2' : (a = none ∧ p = 0 ∧ cap = 0 ∧ xs = []) ∨ ∃ ad, a = some ad ∧ ∀ j u, xs[j]? = some u → (w.alloc (.cells #[] 36)).cell? (ad.add j) = some u := by
    rcases hx2 with h | ⟨ad, h1, h2⟩
    · exact .inl h
    · refine .inr ⟨ad, h1, fun j u hu => ?_⟩
      have := h2 j u hu
      have hlt := World.block_lt_of_cell? _ _ this
      have this := (hW0.cell (p := ad.add j) hlt).trans this
      exact (World.cell?_of_block (a := ad.add j) (heap_alloc_old w _ (Nat.lt_of_lt_of_le hlt hW0.size))).trans this
  have HXL := Lib.hid hxl; have HX1 := Lib.hid hx1; have HX2 := Lib.hid hx2'; have HX3 := Lib.hid hx3; have HOW := Lib.hid hown0; have HW1 := Lib.hid hw1; have HPL := Lib.hid hpl
  clear hp20 hF hLp hxl hx1 hx2 hx2' hx3 hown0 hw1 hpl hp3 hat h hl hL HP20
  go_enter Try.func7, Try.ntmps7
  go_wp2_with (first | (at_builtin; go_must (refine wpList_extend _ _ 22 36 xs HOW.out HW1.out (Nat.le_refl _) Try.underlying22 hNI hzI0 hzI1 hzI2 rfl (by decide) rfl rfl rfl rfl HX2.out HXL.out HX1.out ?c2 ?_)))
  case c2 => omega
  intro v4 w4 hown4 hb4
  have hown4 : w4.ownsRow w.heap.size 36 4 v4 p xs := by simpa using hown4
  obtain ⟨A4, c4, rfl, hpc, hc4, hA4⟩ := own_formS hown4
  have HO4 := Lib.hid hown4; have HB4 := Lib.hid hb4; have HA4 := Lib.hid hA4
  have hpcI : (p : Int) ≤ c4 := by omega
  clear hown4 hb4 hA4 HOW HW1 HX2 HX1 HXL
  go_wp2_with fail
  go_loopw [14] (fun c wr => ∃ (i : Nat) (ys : List Value), i ≤ p ∧ c = .int .i64 i ∧ Hid (wr.ownsRow w.heap.size 36 4 (.slice A4 p c4) p ys) ∧ Hid (RowE W0 ys (fewU L i)) ∧ Hid (Below w.heap.size w wr)) (fun c _ => p - (intOf c).toNat)
  case atStart => exact ⟨0, xs, Nat.zero_le _, rfl, HO4, Lib.hid (by unfold fewU; exact HX3.out), HB4⟩
  case round =>
    clear HO4 HB4 HX3
    obtain ⟨i, ys, hip, rfl, HO, HY, HW⟩ := hrel
    by_cases hlt : i < p
    · have hltI : (i : Int) < p := by omega
      obtain ⟨g, rfl⟩ := HA4.out (by omega)
      have hiL : i < L.length := by rw [HPL.out]; exact hlt
      have hset := HY.out.set i (by rw [fewU_len]; exact hiL)
      obtain ⟨hbd, y0, y1, y2, k, y3, hk⟩ := HY.out.2 i (by rw [fewU_len]; exact hiL)
      have hsucc := fewU_succ L i hiL
      rw [fewU_get L i hiL] at hbd y0 y1 y2 hk hset
      generalize L.getD i enZ = e at *
      obtain ⟨name, cur, nxt, vers⟩ := e
      obtain ⟨va, vc, rfl⟩ := hk.form
      obtain ⟨m, hm⟩ : ∃ m, vers.length = m := ⟨_, rfl⟩
      simp only at hbd y0 y1 y2 hk hset hm y3
      rw [hm] at hk y3
      obtain ⟨q, hq, hq1, hq2, hq3⟩ := min_if m 20 (by omega)
      have hqq : min (m : Int) 20 = q := by omega
      have hqm : (q : Int) ≤ m := by omega
      have hqI : (q : Int) ≤ 20 := by omega
      have hk2 := hset (.slice va q vc) (vers.take q) (hk.take q hq1)
      have htk : vers.take q = vers.take 20 := by
        rw [hq3, show (20 : Int).toNat = 20 from rfl]
        by_cases hh : m ≤ 20
        · rw [Nat.min_eq_left hh, List.take_of_length_le (by omega), List.take_of_length_le (by omega)]
        · rw [Nat.min_eq_right (by omega)]
      rw [htk] at hk2
      have hsucc' : fewU L (i + 1) = (fewU L i).set i ⟨name, cur, nxt, vers.take 20⟩ := hsucc
      rw [← hsucc'] at hk2
      obtain ⟨_, _, _, hvv, _, hmc, hcm, _⟩ := id hk
      injection hvv with e1 e2 e3
      subst e1 e2 e3
      have hmcI : (m : Int) ≤ vc := by omega
      have hcmI : (vc : Int) ≤ 9223372036854775807 := by omega
      have hadd : ∀ j, (⟨g, 0, none⟩ : Addr).add j = ⟨g, j, none⟩ := fun j => by unfold Addr.add; split <;> simp_all
      have c0 := HO.out.cells (g := g) rfl _ _ y0
      have c1 := HO.out.cells (g := g) rfl _ _ y1
      have c2 := HO.out.cells (g := g) rfl _ _ y2
      have c3 := HO.out.cells (g := g) rfl _ _ y3
      rw [hadd] at c0 c1 c2 c3
      have hgl : g < wr.heap.size := (HO.out.lt g rfl).2
      have hn := heap_alloc_new wr (.cells #[.string name, .int .i64 cur, .int .i64 nxt, .slice va m vc] 36)
      have hal := (Below.refl wr.heap.size wr).alloc (Nat.le_refl _) (.cells #[.string name, .int .i64 cur, .int .i64 nxt, .slice va m vc] 36)
      have ho2 := own_stay HO.out hal
      have HN := Lib.hid hn; have HK2 := Lib.hid hk2; have HO2 := Lib.hid ho2
      have HW2 := Lib.hid (HW.out.alloc HW.out.size (.cells #[.string name, .int .i64 cur, .int .i64 nxt, .slice va m vc] 36))
      clear hset y0 y1 y2 y3 hsucc hsucc' hm hq3 hk2 htk hk hn hal ho2 hadd HO HY hbd
      go_upto_region 5 with fail
      obtain ⟨w5, hW⟩ : ∃ w5, wr.alloc (.cells #[.string name, .int .i64 cur, .int .i64 nxt, .slice va m vc] 36) = w5 := ⟨_, rfl⟩
      obtain ⟨V, hV⟩ : ∃ V, wr.heap.size = V := ⟨_, rfl⟩
      rw [hW] at HN HO2 HW2 ⊢
      rw [hV] at HN
      (try rw [hV])
      clear hW hV c0 c1 c2 c3
      have q3 := below_cell (Below.refl _ w5) HN.out 3 rfl
      have f3 := HO2.out.frozenAt (i * 4 + 3)
      have hcc : ∃ old, w5.cell? ⟨g, i * 4 + 3, none⟩ = some old := by
        obtain ⟨_, _, _, _, k, y3, _⟩ := HK2.out.2 i (by rw [fewU_len]; exact hiL)
        rw [List.getElem?_set_self (by
          have := HO2.out.1
          omega)] at y3
        have hx := HO2.out.1
        have := HO2.out.cells (g := g) rfl (i * 4 + 3) (ys[i * 4 + 3]'(by omega)) (by rw [List.getElem?_eq_getElem (by omega)])
        rw [show (⟨g, 0, none⟩ : Addr).add (i * 4 + 3) = ⟨g, i * 4 + 3, none⟩ from by unfold Addr.add; split <;> simp_all] at this
        exact ⟨_, this⟩
      obtain ⟨old, hold⟩ := hcc
      have hst := HO2.out.stored (i * 4 + 3) (.slice va q vc)
      have HST := Lib.hid hst.1
      have HWF := Lib.hid (HW2.out.setCell (p := ⟨g, i * 4 + 3, none⟩) (HO2.out.lt g rfl).1 (.slice va q vc))
      clear hst HO2 HW2
      go_wp2_with fail
      go_roundw
      case rel => exact ⟨i + 1, _, by omega, by go_num, HST, HK2, HWF⟩
      case measure => simp [intOf]; omega
    · obtain rfl : i = p := by omega
      have hnl : ¬ (i : Int) < i := by omega
      go_wp2_with fail
      go_ret
      exact ⟨_, rfl, _, HY.out, HO.out, HW.out⟩
theorem enFew (l : List En) (v : Value) (w : World) (h : IsEns w v l) : Calls Try.prog 7 #[v] w fun e' w' => ∃ v', e' = .returned v' ∧ IsEns w' v' (fewE l) ∧ Below w.heap.size w w' := by
  refine (enFewR l v w w h (Below.refl _ _)).mono ?_
  rintro e' w' ⟨v', xs, rfl, h1, h2, h3⟩
  exact ⟨v', rfl, h1.reads h2 rfl h3, h3⟩
end Go.Proofs.Ytfpfcjgdihlieaa
