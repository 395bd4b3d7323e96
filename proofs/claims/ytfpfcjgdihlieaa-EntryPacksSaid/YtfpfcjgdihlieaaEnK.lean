/- entry.Pack. -/
import Derived.Test.YtfpfcjgdihlieaaEnB
namespace Go.Proofs.Ytfpfcjgdihlieaa
open Go.RowKit
set_option linter.unusedVariables false

theorem reads1_one {u : World} {g : Nat} {n : Int} (h : u.cell? ⟨g, 0, none⟩ = some (.int .i64 n)) (hg : g < u.heap.size) : Reads1 encI u (.slice (some ⟨g, 0, none⟩) 1 1) [n] :=
  ⟨_, 1, 1, rfl, rfl, Nat.le_refl _, by omega, .inr ⟨g, 0, rfl, hg, fun i hi => by
    have : i = 0 := by simpa using hi
    subst this
    exact h⟩⟩
theorem reads1_two {u : World} {g : Nat} {n m : Int} (h : u.cell? ⟨g, 0, none⟩ = some (.int .i64 n)) (h1 : u.cell? ⟨g, 1, none⟩ = some (.int .i64 m)) (hg : g < u.heap.size) : Reads1 encI u (.slice (some ⟨g, 0, none⟩) 2 2) [n, m] :=
  ⟨_, 2, 2, rfl, rfl, Nat.le_refl _, by omega, .inr ⟨g, 0, rfl, hg, fun i hi => by
    have : i = 0 ∨ i = 1 := by simp at hi; omega
    rcases this with rfl | rfl
    · exact h
    · exact h1⟩⟩
theorem c_new {u : World} {cs : Array Value} {t : TypeId} {g j : Nat} {v : Value} (hg : g = u.heap.size) (hj : cs[j]? = some v) : (u.alloc (.cells cs t)).cell? ⟨g, j, none⟩ = some v := by
  subst hg
  rw [cell_of_row _ _ j _ _ _ (heap_alloc_new u _)]
  exact hj
theorem c_old {u : World} {o : Obj} {g j : Nat} {v : Value} (hg : g < u.heap.size) (h : u.cell? ⟨g, j, none⟩ = some v) : (u.alloc o).cell? ⟨g, j, none⟩ = some v :=
  (World.cell?_of_block (a := ⟨g, j, none⟩) (heap_alloc_old u o hg)).trans h
theorem drew_size (u : World) : u.drew.heap.size = u.heap.size := rfl
theorem c_drew {u : World} {p : Addr} {v : Value} (h : u.cell? p = some v) : u.drew.cell? p = some v := h
theorem c_call {u w' : World} {g j : Nat} {v : Value} (hb : Below u.heap.size u w') (hg : g < u.heap.size) (h : u.cell? ⟨g, j, none⟩ = some v) : w'.cell? ⟨g, j, none⟩ = some v := (hb.cell (p := ⟨g, j, none⟩) hg).trans h
theorem keepA {w3 u : World} {R : Prop} (h : Below w3.heap.size w3 u ∧ R) (o : Obj) : Below w3.heap.size w3 (u.alloc o) := h.1.alloc h.1.size o
theorem keepC {w3 u u' : World} {R : Prop} (h : Below w3.heap.size w3 u ∧ R) (hb : Below u.heap.size u u') : Below w3.heap.size w3 u' := h.1.trans (hb.mono h.1.size)
theorem keepE {w w3 u : World} {R : Prop} (hw : Below w.heap.size w w3) (h : Below w3.heap.size w3 u ∧ R) : Below w.heap.size w u := hw.trans (h.1.mono hw.size)
theorem keepEn {w3 u : World} {g : Nat} {x y z v : Value} {t : TypeId} {fr : Nat × Nat} (h : w3.heap[g]? = some (.cells #[x, y, z, v] t fr)) (hb : Below w3.heap.size w3 u) :
    Below w3.heap.size w3 u ∧ u.cell? ⟨g, 1, none⟩ = some y ∧ u.cell? ⟨g, 2, none⟩ = some z ∧ u.cell? ⟨g, 3, none⟩ = some v := ⟨hb, below_cell hb h 1 rfl, below_cell hb h 2 rfl, below_cell hb h 3 rfl⟩

def verB (v : Vr) : List UInt8 := fieldsL 2 [v.no, v.src, v.flt, v.byt, v.ins]
def versB (l : List Vr) : List UInt8 := l.flatMap verB
def entB (e : En) : List UInt8 := (textL e.name).data.toList ++ fieldsL 2 [e.cur, e.nxt] ++ fieldsL 1 [(e.vers.length : Int)] ++ versB e.vers
def packB (l : List En) : List UInt8 := fieldsL 1 [(l.length : Int)] ++ l.flatMap entB
theorem versB_len (l : List Vr) : (versB l).length = 10 * l.length := by
  induction l with
  | nil => rfl
  | cons v l ih => rw [versB, List.flatMap_cons, List.length_append, ← versB, ih, verB, fieldsL_len, List.length_cons]; simp; omega
theorem entB_len (e : En) : (entB e).length = 2 + e.name.size + 5 + 10 * e.vers.length := by
  have h1 := textL_size e.name
  have h2 := ba_len (textL e.name)
  unfold entB
  rw [List.length_append, List.length_append, List.length_append, fieldsL_len, fieldsL_len, versB_len, h2, h1]
  simp only [List.length_cons, List.length_nil] <;> omega
/-- what an entry that may be has -/
theorem verLoop_facts (cur nxt : Int) : ∀ (l : List Vr) (p : Int) (c : Bool), 0 ≤ p → verLoop cur nxt p c l = true → (c = true → 0 ≤ cur ∧ cur ≤ 65535) → (0 ≤ cur ∧ cur ≤ 65535) ∧ (0 ≤ nxt ∧ nxt ≤ 65535) ∧ ∀ v ∈ l, verOk v = true
  | [], p, c, hp, h, hc => by
    simp only [verLoop, Bool.and_eq_true, decide_eq_true_eq] at h
    exact ⟨hc h.1, by omega, by simp⟩
  | v :: l, p, c, hp, h, hc => by
    simp only [verLoop, Bool.and_eq_true, decide_eq_true_eq] at h
    have hv := h.1.1
    unfold verOk at hv
    simp only [decide_eq_true_eq] at hv
    obtain ⟨a, b, d⟩ := verLoop_facts cur nxt l v.no _ (by omega) h.2 (fun hh => by
      simp only [Bool.or_eq_true, decide_eq_true_eq] at hh
      rcases hh with hh | hh
      · exact hc hh
      · omega)
    exact ⟨a, b, fun x hx => by
      rcases List.mem_cons.1 hx with rfl | hx
      · exact h.1.1
      · exact d x hx⟩
theorem entOk_facts (e : En) (h : entOk e = true) : (1 ≤ e.name.size ∧ e.name.size ≤ 12 ∧ 1 ≤ e.vers.length ∧ e.vers.length ≤ 6) ∧ (0 ≤ e.cur ∧ e.cur ≤ 65535) ∧ (0 ≤ e.nxt ∧ e.nxt ≤ 65535) ∧ ∀ v ∈ e.vers, verOk v = true := by
  unfold entOk at h
  rw [Bool.and_eq_true, decide_eq_true_eq] at h
  obtain ⟨a, b, c⟩ := verLoop_facts e.cur e.nxt e.vers 0 false (by omega) h.2 (by simp)
  exact ⟨h.1, a, b, c⟩
theorem verOk_fit (v : Vr) (h : verOk v = true) : ∀ n ∈ [v.no, v.src, v.flt, v.byt, v.ins], 0 ≤ n ∧ n.toNat < 256 ^ (2 : Int).toNat := by
  unfold verOk secOk at h
  simp only [decide_eq_true_eq] at h
  have e : (256 : Nat) ^ (2 : Int).toNat = 65536 := by decide
  intro n hn
  rw [e]
  simp only [List.mem_cons, List.not_mem_nil, or_false] at hn
  omega
theorem packB_le (l : List En) (hl : l.length ≤ 8) (h : ∀ e ∈ l, entOk e = true) : (packB l).length ≤ 1 + 79 * l.length := by
  have : ∀ l : List En, (∀ e ∈ l, entOk e = true) → (l.flatMap entB).length ≤ 79 * l.length := by
    intro l
    induction l with
    | nil => simp
    | cons e l ih =>
      intro h
      have h1 := ih (fun x hx => h x (by simp [hx]))
      have h2 := (entOk_facts e (h e (by simp))).1
      rw [List.flatMap_cons, List.length_append, entB_len, List.length_cons]
      omega
  have h3 := this l h
  unfold packB
  rw [List.length_append, fieldsL_len]
  simp only [List.length_cons, List.length_nil]
  omega
theorem reads1_five {u : World} {g : Nat} {a b c d e : Int} (h0 : u.cell? ⟨g, 0, none⟩ = some (.int .i64 a)) (h1 : u.cell? ⟨g, 1, none⟩ = some (.int .i64 b)) (h2 : u.cell? ⟨g, 2, none⟩ = some (.int .i64 c)) (h3 : u.cell? ⟨g, 3, none⟩ = some (.int .i64 d)) (h4 : u.cell? ⟨g, 4, none⟩ = some (.int .i64 e)) (hg : g < u.heap.size) : Reads1 encI u (.slice (some ⟨g, 0, none⟩) 5 5) [a, b, c, d, e] :=
  ⟨_, 5, 5, rfl, rfl, Nat.le_refl _, by omega, .inr ⟨g, 0, rfl, hg, fun i hi => by
    have : i = 0 ∨ i = 1 ∨ i = 2 ∨ i = 3 ∨ i = 4 := by simp at hi; omega
    rcases this with rfl | rfl | rfl | rfl | rfl
    · exact h0
    · exact h1
    · exact h2
    · exact h3
    · exact h4⟩⟩
theorem versB_snoc (l : List Vr) (i : Nat) (hi : i < l.length) : versB (l.take (i + 1)) = versB (l.take i) ++ verB (l.getD i vrZ) := by
  rw [← List.take_append_getElem hi, versB, List.flatMap_append, show l.getD i vrZ = l[i] from by simp [List.getD, hi]]
  simp [versB]
theorem entsB_snoc (l : List En) (i : Nat) (hi : i < l.length) : (l.take (i + 1)).flatMap entB = (l.take i).flatMap entB ++ entB (l.getD i enZ) := by
  rw [← List.take_append_getElem hi, List.flatMap_append, show l.getD i enZ = l[i] from by simp [List.getD, hi]]
  simp
set_option maxRecDepth 100000 in
set_option maxHeartbeats 1000000 in
theorem enPack_bad (l : List En) (v : Value) (w : World) (h : IsEns w v l) (hr : rightE l = false) : Calls Try.prog 8 #[v] w fun e' w' => e' = .returned (.tuple #[.string ⟨#[]⟩, .int .i64 1]) ∧ Below w.heap.size w w' := by
  have HR := Lib.hid (enRight l v w h)
  rw [hr] at HR
  clear h hr
  go_enter Try.func8, Try.ntmps8
  go_wp2_with fail
  refine HR.out.mono ?_
  rintro e' w2 ⟨rfl, hb2⟩
  go_wp2_with fail
  go_ret2
  exact ⟨rfl, hb2⟩
set_option maxRecDepth 100000 in
set_option maxHeartbeats 4000000 in
theorem enPack_ok (l : List En) (v : Value) (w : World) (h : IsEns w v l) (hr : rightE l = true) : Calls Try.prog 8 #[v] w fun e' w' => e' = .returned (.tuple #[.string ⟨(packB l).toArray⟩, .int .i64 0]) ∧ Below w.heap.size w w' := by
  have HR := Lib.hid (enRight l v w h)
  rw [hr] at HR
  obtain ⟨a, n, cap, rfl, hl, hc1, hc2, hnil, hat⟩ := h
  unfold rightE at hr
  rw [Bool.and_eq_true, decide_eq_true_eq] at hr
  obtain ⟨hl8, hr⟩ := hr
  have hent := okE_mem l none hr
  have hn8 : n ≤ 8 := by omega
  have hn8I : (n : Int) ≤ 8 := by omega
  have HN1 := Lib.hid (fun v u hv => enNumbers 1 v [(n : Int)] u hv (by omega) (by omega) (by simp) (by intro m hm; rw [List.mem_singleton.1 hm]; exact ⟨by omega, by rw [show (256 : Nat) ^ (1 : Int).toNat = 256 by decide]; omega⟩))
  have HPK : Hid (packB l = fieldsL (1 : Int).toNat [(n : Int)] ++ (l.take n).flatMap entB) := Lib.hid (by unfold packB; rw [hl, List.take_of_length_le (by omega)]; rfl)
  have HL := Lib.hid hl; have HAT := Lib.hid hat; have HENT := Lib.hid hent
  clear hl hat hent hr hl8
  go_enter Try.func8, Try.ntmps8
  go_wp2_with fail
  refine HR.out.mono ?_
  rintro e' w2 ⟨rfl, hb2⟩
  have HB2 := Lib.hid hb2
  clear hb2 HR
  go_wp2_with fail
  refine (HN1.out _ _ (reads1_one (c_new rfl rfl) (by rw [World.size_alloc]; omega))).mono ?_
  rintro e' w3 ⟨rfl, hb3⟩
  have HB3 := Lib.hid ((HB2.out.alloc HB2.out.size (.cells #[.int .i64 (n : Nat)] 3)).trans (hb3.mono (by have := HB2.out.size; rw [World.size_alloc]; omega)))
  clear hb3 HB2 HN1
  obtain ⟨F, hF⟩ : ∃ F, fieldsL (1 : Int).toNat [(n : Int)] = F := ⟨_, rfl⟩
  rw [hF] at HPK ⊢
  have hFl : F.length = 1 := by rw [← hF, fieldsL_len]; rfl
  have HFL := Lib.hid hFl
  clear hF hFl
  go_wp2_with fail
  go_loopw [4, 20] (fun s c wr => ∃ i : Nat, i ≤ n ∧ c = .int .i64 i ∧ s = .string ⟨(F ++ (l.take i).flatMap entB).toArray⟩ ∧ Hid (Below w.heap.size w wr) ∧ Hid ((F ++ (l.take i).flatMap entB).length ≤ 1 + 79 * i)) (fun _ c _ => n - (intOf c).toNat)
  case atStart => exact ⟨0, Nat.zero_le _, rfl, by simp, HB3, Lib.hid (by simp [HFL.out])⟩
  case round =>
    clear HB3
    obtain ⟨i, hin, rfl, rfl, HW, HSZ⟩ := hrel
    by_cases hlt : i < n
    · have hltI : (i : Int) < n := by omega
      obtain ⟨b, off, rfl, hblt, hat⟩ := HAT.out.resolve_left (by omega)
      obtain ⟨hbd, va, vc, hvs, e0, e1, e2, e3⟩ := ((hat i hlt).below HW.out hblt).cell
      obtain ⟨⟨z1, z2, z3, z4⟩, hcur, hnxt, hvok⟩ := entOk_facts _ (HENT.out _ (getD_mem l i enZ (by rw [HL.out]; exact hlt)))
      have hsn := entsB_snoc l i (by rw [HL.out]; exact hlt)
      generalize l.getD i enZ = e at *
      obtain ⟨name, cur, nxt, vers⟩ := e
      simp only at hbd hvs e0 e1 e2 e3 z1 z2 z3 z4 hcur hnxt hvok
      obtain ⟨m, hm⟩ : ∃ m, vers.length = m := ⟨_, rfl⟩
      rw [hm] at hvs e3 z3 z4
      have HM := Lib.hid hm
      have hz4I : (m : Int) ≤ 6 := by omega
      have hentl : (entB ⟨name, cur, nxt, vers⟩).length ≤ 79 := by rw [entB_len]; simp only; omega
      have hentB : entB ⟨name, cur, nxt, vers⟩ = (textL name).data.toList ++ fieldsL (2 : Int).toNat [cur, nxt] ++ fieldsL (1 : Int).toNat [(m : Int)] ++ versB vers := by unfold entB; rw [← hm]; rfl
      obtain ⟨hb0, hb1, hb2⟩ := hbd
      unfold i64ok at hb1 hb2
      simp only at hb0 hb1 hb2
      have HVS := Lib.hid hvs; have HVOK := Lib.hid hvok; have HSN := Lib.hid hsn; have HEL := Lib.hid hentl; have HEB := Lib.hid hentB
      have hn := heap_alloc_new wr (.cells #[.string name, .int .i64 cur, .int .i64 nxt, .slice va m vc] 36)
      have hal := (Below.refl wr.heap.size wr).alloc (Nat.le_refl _) (.cells #[.string name, .int .i64 cur, .int .i64 nxt, .slice va m vc] 36)
      have HN := Lib.hid hn; have HAL := Lib.hid hal
      clear hvs hvok hsn hn hal hat hm hentl hentB
      go_upto_region 7 with fail
      obtain ⟨w2, hW⟩ : ∃ w2, wr.alloc (.cells #[.string name, .int .i64 cur, .int .i64 nxt, .slice va m vc] 36) = w2 := ⟨_, rfl⟩
      obtain ⟨V, hV⟩ : ∃ V, wr.heap.size = V := ⟨_, rfl⟩
      have HWW := Lib.hid (HW.out.trans (HAL.out.mono HW.out.size))
      have HVS2 := Lib.hid (HVS.out.below HAL.out)
      rw [hW] at HN HWW HVS2 ⊢
      rw [hV] at HN
      (try rw [hV])
      clear hW hV e0 e1 e2 e3 HAL HVS HW
      have q0 := below_cell (Below.refl _ w2) HN.out 0 rfl
      go_wp2_with fail
      refine (leText_ok name w2 (by omega)).mono ?_
      rintro e' w3 ⟨rfl, hb3⟩
      have HN3 := Lib.hid ((hb3.block _ (lt_of_block HN.out)).trans HN.out)
      have HW3 := Lib.hid (HWW.out.trans (hb3.mono HWW.out.size))
      have HV3 := Lib.hid (HVS2.out.below hb3)
      clear q0 hb3 HN HWW HVS2
      obtain ⟨T, hT⟩ : ∃ T, (textL name).data.toList = T := ⟨_, rfl⟩
      have hTT : textL name = ⟨T.toArray⟩ := by rw [← hT]
      have hTl : T.length ≤ 14 := by rw [← hT, ba_len, textL_size]; omega
      rw [hT] at HEB
      rw [hTT]
      clear hT hTT
      have HA := Lib.hid (fun v u hv => enNumbers 2 v [cur, nxt] u hv (by omega) (by omega) (by simp) (by
        intro x hx
        rw [show (256 : Nat) ^ (2 : Int).toNat = 65536 by decide]
        simp only [List.mem_cons, List.not_mem_nil, or_false] at hx
        omega))
      have HB := Lib.hid (fun v u hv => enNumbers 1 v [(m : Int)] u hv (by omega) (by omega) (by simp) (by intro x hx; rw [List.mem_singleton.1 hx]; exact ⟨by omega, by rw [show (256 : Nat) ^ (1 : Int).toNat = 256 by decide]; omega⟩))
      obtain ⟨A2, hA2⟩ : ∃ A2, fieldsL (2 : Int).toNat [cur, nxt] = A2 := ⟨_, rfl⟩
      obtain ⟨B1, hB1⟩ : ∃ B1, fieldsL (1 : Int).toNat [(m : Int)] = B1 := ⟨_, rfl⟩
      have hA2l : A2.length = 4 := by rw [← hA2, fieldsL_len]; rfl
      have hB1l : B1.length = 1 := by rw [← hB1, fieldsL_len]; rfl
      rw [hA2] at HA HEB
      rw [hB1] at HB HEB
      obtain ⟨S0, hS0⟩ : ∃ S0, F ++ (l.take i).flatMap entB = S0 := ⟨_, rfl⟩
      rw [hS0] at HSZ ⊢
      have hS0l := HSZ.out
      have hadd1 := fun u => add_run (P := Try.prog) ⟨T.toArray⟩ ⟨A2.toArray⟩ ⟨(T ++ A2).toArray⟩ (ba_app _ _) (by rw [ba_size, ba_size]; omega) u
      have hadd2 := fun u => add_run (P := Try.prog) ⟨(T ++ A2).toArray⟩ ⟨B1.toArray⟩ ⟨(T ++ A2 ++ B1).toArray⟩ (ba_app _ _) (by rw [ba_size, ba_size, List.length_append]; omega) u
      have hadd3 := fun u => add_run (P := Try.prog) ⟨S0.toArray⟩ ⟨(T ++ A2 ++ B1).toArray⟩ ⟨(S0 ++ (T ++ A2 ++ B1)).toArray⟩ (ba_app _ _) (by rw [ba_size, ba_size, List.length_append, List.length_append]; omega) u
      obtain ⟨S1, hS1⟩ : ∃ S1, S0 ++ (T ++ A2 ++ B1) = S1 := ⟨_, rfl⟩
      have hS1l : S1.length ≤ 1 + 79 * i + 19 := by rw [← hS1, List.length_append, List.length_append, List.length_append]; omega
      rw [hS1] at hadd3
      have HS1 := Lib.hid hS1; have HS0 := Lib.hid hS0; have HS1L := Lib.hid hS1l
      generalize (ByteArray.mk T.toArray) = X1 at *
      generalize (ByteArray.mk A2.toArray) = X2 at *
      generalize (ByteArray.mk B1.toArray) = X3 at *
      generalize (ByteArray.mk S0.toArray) = X0 at *
      generalize (ByteArray.mk (T ++ A2).toArray) = X12 at *
      generalize (ByteArray.mk (T ++ A2 ++ B1).toArray) = X123 at *
      have HSL := Lib.hid hS0l
      clear hTl hA2l hB1l hS0l hA2 hB1 hS0 hS1 hS1l HSZ
      go_upto_region 8 with fail
      go_cut [4] (fun sv wx => sv = .string ⟨S1.toArray⟩ ∧ Below w3.heap.size w3 wx)
      case first =>
        go_region_held3 (fun u => Below w3.heap.size w3 u ∧ u.cell? ⟨V, 1, none⟩ = some (.int .i64 cur) ∧ u.cell? ⟨V, 2, none⟩ = some (.int .i64 nxt) ∧ u.cell? ⟨V, 3, none⟩ = some (.slice va m vc))
          ((refine keepEn HN3.out ?_; first | assumption | exact (Below.refl _ _).drew | exact keepA (by assumption) _ | exact keepC (by assumption) (by assumption)))
          (first
          | (go_at_call_of 21 (Value.int .i64 2); refine (HA.out _ _ ?_).mono ?_; refine reads1_two ?_ ?_ ?_; (focus (repeat (first | assumption | ((with_reducible refine c_new ?_ ?_) <;> (first | rfl | ((repeat (first | rw [drew_size] | rw [World.size_alloc])); done) | ((repeat (first | rw [drew_size] | rw [World.size_alloc])); rfl))) | with_reducible refine c_drew ?_ | ((with_reducible refine c_old ?_ ?_); ((repeat (first | rw [drew_size] | rw [World.size_alloc])); omega)) | ((with_reducible refine c_call (by assumption) ?_ ?_); ((repeat (first | rw [drew_size] | rw [World.size_alloc])); omega))))); (focus (repeat (first | assumption | ((with_reducible refine c_new ?_ ?_) <;> (first | rfl | ((repeat (first | rw [drew_size] | rw [World.size_alloc])); done) | ((repeat (first | rw [drew_size] | rw [World.size_alloc])); rfl))) | with_reducible refine c_drew ?_ | ((with_reducible refine c_old ?_ ?_); ((repeat (first | rw [drew_size] | rw [World.size_alloc])); omega)) | ((with_reducible refine c_call (by assumption) ?_ ?_); ((repeat (first | rw [drew_size] | rw [World.size_alloc])); omega))))); ((repeat (first | rw [drew_size] | rw [World.size_alloc])); omega); rintro e w4 ⟨rfl, hbw4⟩; have hzw4 := hbw4.size; (repeat (first | rw [drew_size] at hzw4 | rw [World.size_alloc] at hzw4)))
          | (go_at_call_of 21 (Value.int .i64 1); refine (HB.out _ _ ?_).mono ?_; refine reads1_one ?_ ?_; (focus (repeat (first | assumption | ((with_reducible refine c_new ?_ ?_) <;> (first | rfl | ((repeat (first | rw [drew_size] | rw [World.size_alloc])); done) | ((repeat (first | rw [drew_size] | rw [World.size_alloc])); rfl))) | with_reducible refine c_drew ?_ | ((with_reducible refine c_old ?_ ?_); ((repeat (first | rw [drew_size] | rw [World.size_alloc])); omega)) | ((with_reducible refine c_call (by assumption) ?_ ?_); ((repeat (first | rw [drew_size] | rw [World.size_alloc])); omega))))); ((repeat (first | rw [drew_size] | rw [World.size_alloc])); omega); rintro e w5 ⟨rfl, hbw5⟩; have hzw5 := hbw5.size; (repeat (first | rw [drew_size] at hzw5 | rw [World.size_alloc] at hzw5)))
          | fail)
        all_goals
          go_wp2_with fail
          go_meet
          exact ⟨rfl, And.left (by assumption)⟩
      case rest =>
      obtain ⟨rfl, hb4⟩ := hcut
      have HN4 := Lib.hid ((hb4.block _ (lt_of_block HN3.out)).trans HN3.out)
      have HW4 := Lib.hid (HW3.out.trans (hb4.mono HW3.out.size))
      have HV4 := Lib.hid (HV3.out.below hb4)
      clear hb4 HN3 HW3 HV3 hadd1 hadd2 hadd3 HA HB
      have q3 := below_cell (Below.refl _ wc) HN4.out 3 rfl
      go_wp2_with fail
      clear q3
      obtain ⟨va', m', vc', hvv, hml, hmc1, hmc2, hmb, hmn, hmat⟩ := HV4.out
      injection hvv with e1 e2 e3
      subst e1 e2 e3
      have HMAT := Lib.hid hmat; have HMB := Lib.hid hmb
      clear hmat hmb HN4
      generalize hwo : wr = wo at *
      clear hwo
      go_loopw [4, 49] (fun s c wr => ∃ j : Nat, j ≤ m ∧ c = .int .i64 j ∧ s = .string ⟨(S1 ++ versB (vers.take j)).toArray⟩ ∧ Hid (Below wc.heap.size wc wr)) (fun _ c _ => m - (intOf c).toNat)
      case atStart => exact ⟨0, Nat.zero_le _, rfl, by simp [versB], Lib.hid (Below.refl _ _)⟩
      case round =>
        obtain ⟨j, hjm, rfl, rfl, HJ⟩ := hrel
        by_cases hjl : j < m
        · have hjI : (j : Int) < m := by omega
          obtain ⟨b', off', rfl, hbl', hmat⟩ := HMAT.out.resolve_left (by omega)
          obtain ⟨v0, v1, v2, v3, v4⟩ := (hmat j hjl).below HJ.out hbl'
          have hfit := verOk_fit _ (HVOK.out _ (getD_mem vers j vrZ (by rw [HM.out]; exact hjl)))
          have hvsn := versB_snoc vers j (by rw [HM.out]; exact hjl)
          have hvl : (versB (vers.take j)).length ≤ 60 := by rw [versB_len, List.length_take]; omega
          generalize vers.getD j vrZ = v at *
          obtain ⟨no, src, flt, byt, ins⟩ := v
          simp only at v0 v1 v2 v3 v4 hfit
          have HA := Lib.hid (fun v u hv => enNumbers 2 v [no, src, flt, byt, ins] u hv (by omega) (by omega) (by simp) hfit)
          have hvb : verB ⟨no, src, flt, byt, ins⟩ = fieldsL (2 : Int).toNat [no, src, flt, byt, ins] := rfl
          rw [hvb] at hvsn
          have hXl : (fieldsL (2 : Int).toNat [no, src, flt, byt, ins]).length = 10 := by rw [fieldsL_len]; rfl
          generalize fieldsL (2 : Int).toNat [no, src, flt, byt, ins] = X at *
          have hadd := fun u => add_run (P := Try.prog) ⟨(S1 ++ versB (vers.take j)).toArray⟩ ⟨X.toArray⟩ ⟨(S1 ++ versB (vers.take (j + 1))).toArray⟩ (by rw [hvsn, ← List.append_assoc]; exact ba_app _ _) (by rw [ba_size, ba_size, List.length_append]; have := HS1L.out; omega) u
          have hn := heap_alloc_new wr (.cells #[.int .i64 no, .int .i64 src, .int .i64 flt, .int .i64 byt, .int .i64 ins] 42)
          have hal := (Below.refl wr.heap.size wr).alloc (Nat.le_refl _) (.cells #[.int .i64 no, .int .i64 src, .int .i64 flt, .int .i64 byt, .int .i64 ins] 42)
          generalize (ByteArray.mk (S1 ++ versB (vers.take j)).toArray) = Y1 at *
          generalize hY2 : (ByteArray.mk (S1 ++ versB (vers.take (j + 1))).toArray) = Y2 at *
          generalize (ByteArray.mk X.toArray) = XX at *
          have HN := Lib.hid hn; have HAL := Lib.hid hal; have HY2 := Lib.hid hY2
          clear hvsn hXl hvl hn hal hmat hfit hY2 hvb
          go_upto_region 12 with fail
          obtain ⟨w5, hW⟩ : ∃ w5, wr.alloc (.cells #[.int .i64 no, .int .i64 src, .int .i64 flt, .int .i64 byt, .int .i64 ins] 42) = w5 := ⟨_, rfl⟩
          obtain ⟨V5, hV⟩ : ∃ V, wr.heap.size = V := ⟨_, rfl⟩
          have HJ5 := Lib.hid (HJ.out.trans (HAL.out.mono HJ.out.size))
          rw [hW] at HN HJ5 ⊢
          rw [hV] at HN
          (try rw [hV])
          clear hW hV v0 v1 v2 v3 v4 HAL HJ
          have q0 := below_cell (Below.refl _ w5) HN.out 0 rfl
          have q1 := below_cell (Below.refl _ w5) HN.out 1 rfl
          have q2 := below_cell (Below.refl _ w5) HN.out 2 rfl
          have q3 := below_cell (Below.refl _ w5) HN.out 3 rfl
          have q4 := below_cell (Below.refl _ w5) HN.out 4 rfl
          go_wp2_with fail
          refine (HA.out _ _ (reads1_five (c_new rfl rfl) (c_new rfl rfl) (c_new rfl rfl) (c_new rfl rfl) (c_new rfl rfl) (by rw [World.size_alloc]; omega))).mono ?_
          rintro e' w6 ⟨rfl, hb6⟩
          have HJ6 := Lib.hid ((HJ5.out.alloc HJ5.out.size (.cells #[.int .i64 no, .int .i64 src, .int .i64 flt, .int .i64 byt, .int .i64 ins] 3)).trans (hb6.mono (by have := HJ5.out.size; rw [World.size_alloc]; omega)))
          clear q0 q1 q2 q3 q4 hb6 HJ5 HN
          go_wp2_with fail
          go_roundw
          case rel => exact ⟨j + 1, by omega, by go_num, by rw [HY2.out], HJ6⟩
          case measure => simp [intOf]; omega
        · have hje : j = m := by omega
          have hnl : ¬ (j : Int) < m := by omega
          have hall : vers.take j = vers := List.take_of_length_le (by rw [HM.out]; omega)
          rw [hall]
          have hfin : S1 ++ versB vers = F ++ (l.take (i + 1)).flatMap entB := by rw [HSN.out, HEB.out, ← List.append_assoc, HS0.out, ← HS1.out]; simp only [List.append_assoc]
          rw [hfin]
          have hfl : (F ++ (l.take (i + 1)).flatMap entB).length ≤ 1 + 79 * (i + 1) := by
            have h1 := HEL.out
            have h2 := HS0.out
            rw [HSN.out, ← List.append_assoc, h2, List.length_append]
            have := HS1L.out
            have h3 := congrArg List.length HS1.out
            simp only [List.length_append] at h3
            have h4 := HSL.out
            omega
          have HFLN := Lib.hid hfl
          clear hfin hfl hall
          go_wp2_with fail
          go_roundw
          case rel => exact ⟨i + 1, by omega, by go_num, rfl, Lib.hid (HW4.out.trans (HJ.out.mono HW4.out.size)), HFLN⟩
          case measure => simp [intOf]; omega
    · obtain rfl : i = n := by omega
      have hnl : ¬ (i : Int) < i := by omega
      clear HAT HENT HSZ
      rw [← HPK.out]
      go_wp2_with fail
      go_ret2
      exact ⟨rfl, HW.out⟩
end Go.Proofs.Ytfpfcjgdihlieaa
