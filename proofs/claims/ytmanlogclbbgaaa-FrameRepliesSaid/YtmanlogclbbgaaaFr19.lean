/- frame.Reply. -/
import Derived.Test.YtmanlogclbbgaaaFr18
import Derived.Test.YtmanlogclbbgaaaBuilderK
import Derived.Test.YtmanlogclbbgaaaCrcSeal
import Derived.Deep.RegionHeld3
namespace Go.Proofs.Ytmanlogclbbgaaa
open Go.RowKit
set_option linter.unusedVariables false
set_option linter.unusedSimpArgs false

theorem bc_below {T e : TypeId} {B b : Nat} {bs : List Value} {u u' : World} (h : Lib.IsBuilder T e B b bs u) (hb : Below u.heap.size u u') : Lib.IsBuilder T e B b bs u' := bldBelow h hb
theorem bc_alloc {T e : TypeId} {B b : Nat} {bs : List Value} {u : World} (h : Lib.IsBuilder T e B b bs u) (o : Obj) : Lib.IsBuilder T e B b bs (u.alloc o) := bldBelow h ((Below.refl _ u).alloc (Nat.le_refl _) o)
theorem bc_drew {T e : TypeId} {B b : Nat} {bs : List Value} {u : World} (h : Lib.IsBuilder T e B b bs u) : Lib.IsBuilder T e B b bs u.drew := bldBelow h (Below.refl _ u).drew
theorem reads1_three {u : World} {g : Nat} {n m k : Int} (h : u.cell? ⟨g, 0, none⟩ = some (.int .i64 n)) (h1 : u.cell? ⟨g, 1, none⟩ = some (.int .i64 m)) (h2 : u.cell? ⟨g, 2, none⟩ = some (.int .i64 k)) (hg : g < u.heap.size) : Reads1 encI u (.slice (some ⟨g, 0, none⟩) 3 3) [n, m, k] :=
  ⟨_, 3, 3, rfl, rfl, Nat.le_refl _, by omega, .inr ⟨g, 0, rfl, hg, fun i hi => by
    have : i = 0 ∨ i = 1 ∨ i = 2 := by simp at hi; omega
    rcases this with rfl | rfl | rfl
    · exact h
    · exact h1
    · exact h2⟩⟩
/-- what a region of Reply leaves alone: all ahead of the builder, and the answer's box -/
def RpS (A T : Nat) (cs : Array Value) (w3 u : World) : Prop :=
  Below T w3 u ∧ T + 1 ≤ u.heap.size ∧ u.heap[A]? = some (.cells cs 37 (0, 0))
theorem RpS.alloc {A T : Nat} {cs : Array Value} {w3 u : World} (h : RpS A T cs w3 u) (o : Obj) : RpS A T cs w3 (u.alloc o) :=
  ⟨h.1.alloc (by have := h.2.1; omega) o, by have := h.2.1; rw [World.size_alloc]; omega, (heap_alloc_old u o (lt_of_block h.2.2)).trans h.2.2⟩
theorem RpS.drew {A T : Nat} {cs : Array Value} {w3 u : World} (h : RpS A T cs w3 u) : RpS A T cs w3 u.drew := ⟨h.1.drew, h.2.1, h.2.2⟩
theorem RpS.call {A T : Nat} {cs : Array Value} {w3 u u' : World} (h : RpS A T cs w3 u) (hb : Below u.heap.size u u') : RpS A T cs w3 u' :=
  ⟨h.1.trans (hb.mono (by have := h.2.1; omega)), Nat.le_trans h.2.1 hb.size, (hb.block A (lt_of_block h.2.2)).trans h.2.2⟩
theorem RpS.write {A T : Nat} {cs : Array Value} {w3 u u' : World} (hA : A < T) (h : RpS A T cs w3 u) (hb : Below T u u') : RpS A T cs w3 u' :=
  ⟨h.1.trans hb, Nat.le_trans h.2.1 hb.size, (hb.block A hA).trans h.2.2⟩
theorem RpS.cell {A T : Nat} {cs : Array Value} {w3 u : World} (h : RpS A T cs w3 u) (j : Nat) {v : Value} (hv : cs[j]? = some v) : u.cell? ⟨A, j, none⟩ = some v := below_cell (Below.refl _ u) h.2.2 j hv
theorem keepRp {A T : Nat} {w3 u : World} {v0 v1 v2 v3 v4 v5 v6 : Value} (h : RpS A T #[v0, v1, v2, v3, v4, v5, v6] w3 u) :
    RpS A T #[v0, v1, v2, v3, v4, v5, v6] w3 u ∧ u.cell? ⟨A, 0, none⟩ = some v0 ∧ u.cell? ⟨A, 1, none⟩ = some v1 ∧ u.cell? ⟨A, 2, none⟩ = some v2 ∧ u.cell? ⟨A, 3, none⟩ = some v3 ∧ u.cell? ⟨A, 4, none⟩ = some v4 ∧ u.cell? ⟨A, 5, none⟩ = some v5 ∧ u.cell? ⟨A, 6, none⟩ = some v6 :=
  ⟨h, h.cell 0 rfl, h.cell 1 rfl, h.cell 2 rfl, h.cell 3 rfl, h.cell 4 rfl, h.cell 5 rfl, h.cell 6 rfl⟩
theorem rpsA {A T : Nat} {cs : Array Value} {w3 u : World} {R : Prop} (h : RpS A T cs w3 u ∧ R) (o : Obj) : RpS A T cs w3 (u.alloc o) := h.1.alloc o
theorem rpsC {A T : Nat} {cs : Array Value} {w3 u u' : World} {R : Prop} (h : RpS A T cs w3 u ∧ R) (hb : Below u.heap.size u u') : RpS A T cs w3 u' := h.1.call hb
theorem rpsW {A T : Nat} {cs : Array Value} {w3 u u' : World} {R : Prop} (hA : A < T) (h : RpS A T cs w3 u ∧ R) (hb : Below T u u') : RpS A T cs w3 u' := h.1.write hA hb
/-- the same, and the line's box -/
def LnS (A T L : Nat) (cs lc : Array Value) (w3 u : World) : Prop := RpS A T cs w3 u ∧ u.heap[L]? = some (.cells lc 66 (0, 0))
theorem LnS.drew {A T L : Nat} {cs lc : Array Value} {w3 u : World} (h : LnS A T L cs lc w3 u) : LnS A T L cs lc w3 u.drew := ⟨h.1.drew, h.2⟩
theorem lnsA {A T L : Nat} {cs lc : Array Value} {w3 u : World} {R : Prop} (h : LnS A T L cs lc w3 u ∧ R) (o : Obj) : LnS A T L cs lc w3 (u.alloc o) := ⟨h.1.1.alloc o, (heap_alloc_old u o (lt_of_block h.1.2)).trans h.1.2⟩
theorem lnsC {A T L : Nat} {cs lc : Array Value} {w3 u u' : World} {R : Prop} (h : LnS A T L cs lc w3 u ∧ R) (hb : Below u.heap.size u u') : LnS A T L cs lc w3 u' := ⟨h.1.1.call hb, (hb.block L (lt_of_block h.1.2)).trans h.1.2⟩
theorem lnsW {A T L : Nat} {cs lc : Array Value} {w3 u u' : World} {R : Prop} (hA : A < T) (hL : T < L) (hT : 66 ≠ 5) (h : LnS A T L cs lc w3 u ∧ R) (hb : Below T u u') (hk : ∀ (L : Nat) (cs : Array Value) (Ty : TypeId), L ≠ T → Ty ≠ 5 → u.heap[L]? = some (.cells cs Ty (0, 0)) → u'.heap[L]? = some (.cells cs Ty (0, 0))) : LnS A T L cs lc w3 u' :=
  ⟨h.1.1.write hA hb, hk L lc _ (by omega) hT h.1.2⟩
theorem keepLn {A T L : Nat} {cs : Array Value} {w3 u : World} {v0 v1 v2 : Value} (h : LnS A T L cs #[v0, v1, v2] w3 u) :
    LnS A T L cs #[v0, v1, v2] w3 u ∧ u.cell? ⟨L, 0, none⟩ = some v0 ∧ u.cell? ⟨L, 1, none⟩ = some v1 ∧ u.cell? ⟨L, 2, none⟩ = some v2 :=
  ⟨h, below_cell (Below.refl _ u) h.2 0 rfl, below_cell (Below.refl _ u) h.2 1 rfl, below_cell (Below.refl _ u) h.2 2 rfl⟩
theorem rd_alloc {u : World} {v : Value} {l : List Int} (h : Reads1 encI u v l) (o : Obj) : Reads1 encI (u.alloc o) v l := h.below ((Below.refl _ u).alloc (Nat.le_refl _) o)
theorem rd_drew {u : World} {v : Value} {l : List Int} (h : Reads1 encI u v l) : Reads1 encI u.drew v l := h.below (Below.refl _ u).drew
theorem rd_below {u u' : World} {v : Value} {l : List Int} (h : Reads1 encI u v l) (hb : Below u.heap.size u u') : Reads1 encI u' v l := h.below hb
set_option maxRecDepth 100000 in
set_option maxHeartbeats 4000000 in
theorem frReply_ok (r : Rp) (v : Value) (w : World) (h : IsRp w v r) (hr : rpOk r = true) :
    Calls Try.prog 16 #[v] w fun e w' => e = .returned (.tuple #[.string (rpB r), .int .i64 0]) ∧ Below w.heap.size w w' := by
  have hfit := rp_fits hr
  have HW := Lib.hid (fun u (hu : Below w.heap.size w u) => frWritable r v u (h.below hu))
  rw [hr] at HW
  have hrl := rpIn_len r hfit
  have HRB : Hid (rpB r = sealL ⟨(rpIn r).toArray⟩) := Lib.hid rfl
  have HIN : Hid (rpIn r = headB r ++ (putL r.lines.length 1 ++ r.lines.flatMap lnB)) := Lib.hid rfl
  have hhd : headB r = fieldsL 2 [r.why, r.at_, r.no] ++ (tx r.source ++ (putL r.insns.toNat 2 ++ putL r.action.toNat 4)) := rfl
  obtain ⟨hbd, k, rfl, hk⟩ := h
  obtain ⟨A, c, rfl, hc1, hc2⟩ := hk.form
  have hsz := hfit.source
  have hac := hbd.2.2.2.2.2
  have e2 : (256 : Nat) ^ (2 : Int).toNat = 65536 := by decide
  have e4 : (256 : Nat) ^ (4 : Int).toNat = 4294967296 := by decide
  have e1 : (256 : Nat) ^ (1 : Int).toNat = 256 := by decide
  have f1 := hfit.why; have f2 := hfit.at_; have f3 := hfit.no; have f4 := hfit.insns; have f5 := hfit.lines
  have HLF := Lib.hid hfit.each
  generalize rpB r = RB at *
  generalize rpIn r = RIN at *
  generalize headB r = HD at *
  obtain ⟨why, at_, no, source, insns, action, l⟩ := r
  simp only [Rp.val] at *
  have HB3 := Lib.hid (fun v u (hu : Reads1 encI u v [why, at_, no]) => frNumber 2 v [why, at_, no] u hu (by omega) (by omega) (by simp) (by intro m hm; rw [e2]; simp only [List.mem_cons, List.not_mem_nil, or_false] at hm; rcases hm with rfl | rfl | rfl <;> omega))
  have HBI := Lib.hid (fun v u (hu : Reads1 encI u v [insns]) => frNumber 2 v [insns] u hu (by omega) (by omega) (by simp) (by intro m hm; rw [List.mem_singleton.1 hm, e2]; omega))
  have HBA := Lib.hid (fun v u (hu : Reads1 encI u v [action]) => frNumber 4 v [action] u hu (by omega) (by omega) (by simp) (by intro m hm; rw [List.mem_singleton.1 hm, e4]; omega))
  have HT := Lib.hid (fun u => frText source u (by omega))
  rw [show (⟨(fieldsL (2 : Int).toNat [insns]).toArray⟩ : ByteArray) = numS insns.toNat 2 from by simp [numS, fieldsL]] at HBI
  rw [show (⟨(fieldsL (4 : Int).toNat [action]).toArray⟩ : ByteArray) = numS action.toNat 4 from by simp [numS, fieldsL]] at HBA
  have hwa : IntKind.i64.wrap action = action := by simp [IntKind.wrap, IntKind.signed, IntKind.bits]; omega
  obtain ⟨F3, hF3⟩ : ∃ F : ByteArray, ⟨(fieldsL (2 : Int).toNat [why, at_, no]).toArray⟩ = F := ⟨_, rfl⟩
  have zF : F3.size = 6 := by rw [← hF3, ba_size, fieldsL_len]; rfl
  have hhd2 : HD = (F3 ++ textL source ++ numS insns.toNat 2 ++ numS action.toNat 4).data.toList := by
    rw [hhd, ← hF3]
    simp only [ba_append_list, numS_list, tx]
    simp
  rw [hF3] at HB3
  have z1 := textL_size source
  have z2 : (numS insns.toNat 2).size = 2 := numS_size _ _
  have z3 : (numS action.toNat 4).size = 4 := numS_size _ _
  generalize textL source = T1 at *
  generalize numS insns.toNat 2 = N2 at *
  generalize numS action.toNat 4 = N4 at *
  have a1 := add_run (P := Try.prog) F3 T1 _ rfl (by omega)
  have s1 : (F3 ++ T1).size = 8 + source.size := by rw [ByteArray.size_append]; omega
  have a2 := add_run (P := Try.prog) (F3 ++ T1) N2 _ rfl (by omega)
  have s2 : (F3 ++ T1 ++ N2).size = 10 + source.size := by rw [ByteArray.size_append]; omega
  have a3 := add_run (P := Try.prog) (F3 ++ T1 ++ N2) N4 _ rfl (by omega)
  have s3 : (F3 ++ T1 ++ N2 ++ N4).size = 14 + source.size := by rw [ByteArray.size_append]; omega
  generalize F3 ++ T1 ++ N2 ++ N4 = S3 at *
  generalize F3 ++ T1 ++ N2 = S2 at *
  generalize F3 ++ T1 = S1 at *
  obtain ⟨n, hn⟩ : ∃ n, l.length = n := ⟨_, rfl⟩
  rw [hn] at hk hc1 f5 HIN HW ⊢
  have hnI : (n : Int) ≤ 8 := by omega
  have HHL := Lib.hid (show HD.length = 14 + source.size by rw [hhd2, ba_len, s3])
  have HHD := Lib.hid hhd2; have HS3 := Lib.hid s3; have HRL := Lib.hid hrl; have HLEN := Lib.hid hn
  have b0 := heap_alloc_new w (.cells #[.int .i64 why, .int .i64 at_, .int .i64 no, .string source, .int .i64 insns, .int .u32 action, .slice A n c] 37)
  have hb0 := (Below.refl w.heap.size w).alloc (Nat.le_refl _) (.cells #[.int .i64 why, .int .i64 at_, .int .i64 no, .string source, .int .i64 insns, .int .u32 action, .slice A n c] 37)
  have HK := Lib.hid hk; have HBX := Lib.hid b0; have HB0 := Lib.hid hb0
  have hszI : (source.size : Int) ≤ 2000 := by omega
  clear hhd hhd2 s1 s2 s3 z1 z2 z3 zF hF3 hrl hn b0 hb0 hk hbd hfit hr e1 e2 e4 f1 f2 f3 f4 hac hsz
  go_enter Try.func16, Try.ntmps16
  have bb := HBX.out
  obtain ⟨u0, hU⟩ : ∃ u, w.alloc (.cells #[.int .i64 why, .int .i64 at_, .int .i64 no, .string source, .int .i64 insns, .int .u32 action, .slice A n c] 37) = u := ⟨_, rfl⟩
  have HU := Lib.hid hU
  rw [hU] at bb
  have c0 := below_cell (Below.refl _ _) bb 0 rfl
  have c1 := below_cell (Below.refl _ _) bb 1 rfl
  have c2 := below_cell (Below.refl _ _) bb 2 rfl
  have c3 := below_cell (Below.refl _ _) bb 3 rfl
  have c4 := below_cell (Below.refl _ _) bb 4 rfl
  have c5 := below_cell (Below.refl _ _) bb 5 rfl
  have c6 := below_cell (Below.refl _ _) bb 6 rfl
  have HB0u := Lib.hid (show Below w.heap.size w u0 from hU ▸ HB0.out)
  have HA0 := Lib.hid bb
  clear bb hU
  go_upto_region 1 with fail
  rw [HU.out]
  go_upto_region 4 with (first | (go_at_call 38; refine (HW.out _ HB0u.out).mono ?_; rintro e w2 ⟨rfl, hb2⟩))
  have hA2 := (hb2.block w.heap.size (lt_of_block HA0.out)).trans HA0.out
  have hB2 := HB0u.out.trans (hb2.mono HB0u.out.size)
  have h0 : Lib.IsBuilder 70 5 w2.heap.size w2.heap.size [] (w2.alloc (.cells #[.pointer none, .slice none 0 0] 70)) := Lib.fresh_isBuilder 70 5 w2
  have hA3 := (heap_alloc_old w2 (.cells #[.pointer none, .slice none 0 0] 70) (lt_of_block hA2)).trans hA2
  have hB3 := hB2.alloc hB2.size (.cells #[.pointer none, .slice none 0 0] 70)
  have hAT : w.heap.size < w2.heap.size := lt_of_block hA2
  have hz3 : (w2.alloc (.cells #[.pointer none, .slice none 0 0] 70)).heap.size = w2.heap.size + 1 := World.size_alloc _ _
  obtain ⟨T, hT⟩ : ∃ T, w2.heap.size = T := ⟨_, rfl⟩
  obtain ⟨w3, hW3⟩ : ∃ w3, w2.alloc (.cells #[.pointer none, .slice none 0 0] 70) = w3 := ⟨_, rfl⟩
  rw [hW3] at h0 hA3 hB3 hz3 ⊢
  rw [hT] at h0 hAT hz3 ⊢
  have HBLD := Lib.hid h0; have HA3 := Lib.hid hA3; have HB3W := Lib.hid hB3
  clear h0 hA3 hB3 hT hW3 hA2 hB2 hb2 c0 c1 c2 c3 c4 c5 c6 HW HU HBX HB0 HB0u HA0
  have HR3 := Lib.hid (show RpS w.heap.size T #[.int .i64 why, .int .i64 at_, .int .i64 no, .string source, .int .i64 insns, .int .u32 action, .slice A n c] w3 w3 from ⟨Below.refl _ _, by omega, HA3.out⟩)
  have hz3l : T < w3.heap.size := by omega
  clear hz3
  have HPOST : Hid (∀ u, RpS w.heap.size T #[.int .i64 why, .int .i64 at_, .int .i64 no, .string source, .int .i64 insns, .int .u32 action, .slice A n c] w3 u → Lib.BuilderAt 70 5 T T (.pointer (some ⟨T, 0, none⟩)) ([] ++ Lib.strCells S3) u → Lib.IsBuilder 70 5 T T (Lib.byteCells HD) u ∧ RpS w.heap.size T #[.int .i64 why, .int .i64 at_, .int .i64 no, .string source, .int .i64 insns, .int .u32 action, .slice A n c] w3 u) := Lib.hid (fun u h1 h2 => ⟨by rw [HHD.out]; exact Or.inr h2, h1⟩)
  go_cut [] (fun wx => Hid (Lib.IsBuilder 70 5 T T (Lib.byteCells HD) wx ∧ RpS w.heap.size T #[.int .i64 why, .int .i64 at_, .int .i64 no, .string source, .int .i64 insns, .int .u32 action, .slice A n c] w3 wx))
  case first =>
   go_region_held3 (fun u => RpS w.heap.size T #[.int .i64 why, .int .i64 at_, .int .i64 no, .string source, .int .i64 insns, .int .u32 action, .slice A n c] w3 u ∧ u.cell? ⟨w.heap.size, 0, none⟩ = some (.int .i64 why) ∧ u.cell? ⟨w.heap.size, 1, none⟩ = some (.int .i64 at_) ∧ u.cell? ⟨w.heap.size, 2, none⟩ = some (.int .i64 no) ∧ u.cell? ⟨w.heap.size, 3, none⟩ = some (.string source) ∧ u.cell? ⟨w.heap.size, 4, none⟩ = some (.int .i64 insns) ∧ u.cell? ⟨w.heap.size, 5, none⟩ = some (.int .u32 action) ∧ u.cell? ⟨w.heap.size, 6, none⟩ = some (.slice A n c))
    ((refine keepRp ?_; first | assumption | exact HR3.out.drew | exact rpsA (by assumption) _ | exact rpsC (by assumption) (by assumption) | exact rpsW hAT (by assumption) (by assumption)))
    (first
    | (go_at_call_of 25 (Value.int .i64 4); refine (HBA.out _ _ ?_).mono ?_; refine reads1_one ?_ ?_; (focus (repeat (first | assumption | ((with_reducible refine c_new ?_ ?_) <;> (first | rfl | ((repeat (first | rw [drew_size] | rw [World.size_alloc])); done) | ((repeat (first | rw [drew_size] | rw [World.size_alloc])); rfl))) | with_reducible refine c_drew ?_ | ((with_reducible refine c_old ?_ ?_); ((repeat (first | rw [drew_size] | rw [World.size_alloc])); omega)) | ((with_reducible refine c_call (by assumption) ?_ ?_); ((repeat (first | rw [drew_size] | rw [World.size_alloc])); omega))))); ((repeat (first | rw [drew_size] | rw [World.size_alloc])); omega); rintro e w5 ⟨rfl, hbw5⟩; have hzw5 := hbw5.size; (repeat (first | rw [drew_size] at hzw5 | rw [World.size_alloc] at hzw5)))
    | (go_at_call 25; refine (HB3.out _ _ ?_).mono ?_; refine reads1_three ?_ ?_ ?_ ?_; (focus (repeat (first | assumption | ((with_reducible refine c_new ?_ ?_) <;> (first | rfl | ((repeat (first | rw [drew_size] | rw [World.size_alloc])); done) | ((repeat (first | rw [drew_size] | rw [World.size_alloc])); rfl))) | with_reducible refine c_drew ?_ | ((with_reducible refine c_old ?_ ?_); ((repeat (first | rw [drew_size] | rw [World.size_alloc])); omega)) | ((with_reducible refine c_call (by assumption) ?_ ?_); ((repeat (first | rw [drew_size] | rw [World.size_alloc])); omega))))); (focus (repeat (first | assumption | ((with_reducible refine c_new ?_ ?_) <;> (first | rfl | ((repeat (first | rw [drew_size] | rw [World.size_alloc])); done) | ((repeat (first | rw [drew_size] | rw [World.size_alloc])); rfl))) | with_reducible refine c_drew ?_ | ((with_reducible refine c_old ?_ ?_); ((repeat (first | rw [drew_size] | rw [World.size_alloc])); omega)) | ((with_reducible refine c_call (by assumption) ?_ ?_); ((repeat (first | rw [drew_size] | rw [World.size_alloc])); omega))))); (focus (repeat (first | assumption | ((with_reducible refine c_new ?_ ?_) <;> (first | rfl | ((repeat (first | rw [drew_size] | rw [World.size_alloc])); done) | ((repeat (first | rw [drew_size] | rw [World.size_alloc])); rfl))) | with_reducible refine c_drew ?_ | ((with_reducible refine c_old ?_ ?_); ((repeat (first | rw [drew_size] | rw [World.size_alloc])); omega)) | ((with_reducible refine c_call (by assumption) ?_ ?_); ((repeat (first | rw [drew_size] | rw [World.size_alloc])); omega))))); ((repeat (first | rw [drew_size] | rw [World.size_alloc])); omega); rintro e w6 ⟨rfl, hbw6⟩; have hzw6 := hbw6.size; (repeat (first | rw [drew_size] at hzw6 | rw [World.size_alloc] at hzw6)))
    | (go_at_call 25; refine (HBI.out _ _ ?_).mono ?_; refine reads1_one ?_ ?_; (focus (repeat (first | assumption | ((with_reducible refine c_new ?_ ?_) <;> (first | rfl | ((repeat (first | rw [drew_size] | rw [World.size_alloc])); done) | ((repeat (first | rw [drew_size] | rw [World.size_alloc])); rfl))) | with_reducible refine c_drew ?_ | ((with_reducible refine c_old ?_ ?_); ((repeat (first | rw [drew_size] | rw [World.size_alloc])); omega)) | ((with_reducible refine c_call (by assumption) ?_ ?_); ((repeat (first | rw [drew_size] | rw [World.size_alloc])); omega))))); ((repeat (first | rw [drew_size] | rw [World.size_alloc])); omega); rintro e w7 ⟨rfl, hbw7⟩; have hzw7 := hbw7.size; (repeat (first | rw [drew_size] at hzw7 | rw [World.size_alloc] at hzw7)))
    | (go_at_call 26; refine (HT.out _).mono ?_; rintro e w8 ⟨rfl, hbw8⟩; have hzw8 := hbw8.size; (repeat (first | rw [drew_size] at hzw8 | rw [World.size_alloc] at hzw8)))
    | (go_at_call 39; refine (bldWrite T T [] S3 _ ?_ (by rw [HS3.out]; simp only [List.length_nil]; omega) ?_).mono ?_; (focus (repeat (first | exact HBLD.out | with_reducible refine bc_drew ?_ | with_reducible refine bc_alloc ?_ _ | with_reducible refine bc_below ?_ (by assumption)))); ((repeat (first | rw [drew_size] | rw [World.size_alloc])); omega); rintro e w9 ⟨rfl, hbl9, hbw9⟩)
    | fail)
   all_goals
    go_wp2_with fail
    go_meet
    refine Lib.hid (HPOST.out _ ?_ hbl9)
    first | exact And.left (by assumption) | exact (RpS.write hAT (And.left (by assumption)) hbw9)
  case rest =>
  have hbl := hcut.out.1
  have hrp := hcut.out.2
  have HBL := Lib.hid hbl; have HRP := Lib.hid hrp
  have c6 := hrp.cell 6 rfl
  have hB1 := fun u => frNumber 1 _ [(n : Int)] _ (reads1_new u n) (by omega) (by omega) (by simp) (by intro m hm; rw [List.mem_singleton.1 hm, show (256 : Nat) ^ (1 : Int).toNat = 256 from by decide]; omega)
  have hnn : (⟨(fieldsL (1 : Int).toNat [(n : Int)]).toArray⟩ : ByteArray) = ⟨(putL n 1).toArray⟩ := by simp [fieldsL]
  rw [hnn] at hB1
  have HB1 := Lib.hid hB1
  have zX : (ByteArray.mk (putL n 1).toArray).size = 1 := by rw [ba_size, putL_length]
  obtain ⟨X, hX⟩ : ∃ X, ByteArray.mk (putL n 1).toArray = X := ⟨_, rfl⟩
  rw [hX] at HB1 zX
  have HX := Lib.hid hX; have HZX := Lib.hid zX
  clear hbl hrp hB1 hnn hX zX hcut HPOST HBI HBA HB3 HT HHD a1 a2 a3 HR3 hwa
  go_upto_region 6 with (first | (go_at_call 25; refine (HB1.out wc).mono ?_; rintro e w5 ⟨rfl, hb5⟩; have hrp5 := (HRP.out.alloc (.cells #[.int .i64 n] 3)).call hb5; have hbl5 := bc_below (bc_alloc HBL.out (.cells #[.int .i64 n] 3)) hb5) | (go_at_call 39; refine (bldWrite T T _ X _ hbl5 (by rw [Lib.byteCells_length, HZX.out, HHL.out]; omega) (by have := hrp5.2.1; omega)).mono ?_; rintro e w6 ⟨rfl, hbl6, hb6⟩))
  have hrp6 := Lib.hid (hrp5.write hAT hb6)
  have hbl6' : Lib.IsBuilder 70 5 T T (Lib.byteCells (HD ++ (putL n 1 ++ (l.take 0).flatMap lnB))) w6 := by
    have : Lib.byteCells (HD ++ (putL n 1 ++ (l.take 0).flatMap lnB)) = Lib.byteCells HD ++ Lib.strCells X := by
      rw [Lib.byteCells_append, ← HX.out]; simp [Lib.strCells_eq]
    rw [this]
    exact Or.inr hbl6
  have hbl6 := Lib.hid hbl6'
  have c6 := hrp6.out.cell 6 rfl
  clear hrp5 hbl5 hbl6' hb6 hb5 HBL HRP HB1 HX HZX
  go_wp2_with fail
  go_loopw [43] (fun z wr => ∃ j : Nat, j ≤ n ∧ z = .int .i64 j ∧ Hid (Lib.IsBuilder 70 5 T T (Lib.byteCells (HD ++ (putL n 1 ++ (l.take j).flatMap lnB))) wr) ∧ Hid (RpS w.heap.size T #[.int .i64 why, .int .i64 at_, .int .i64 no, .string source, .int .i64 insns, .int .u32 action, .slice A n c] w3 wr)) (fun z _ => n - (intOf z).toNat)
  case atStart => exact ⟨0, by omega, rfl, hbl6, hrp6⟩
  case round =>
    clear hbl6 hrp6 c6
    obtain ⟨j, hj, rfl, HBL, HRP⟩ := hrel
    by_cases hlt : j < n
    · have hltI : (j : Int) < n := by omega
      have hbw : Below w.heap.size w wr := HB3W.out.trans (HRP.out.1.mono (by omega))
      have hjl : j < l.length := by rw [HLEN.out]; exact hlt
      obtain ⟨_, _, _, hv, _, _, _, _, hat⟩ := HK.out.below hbw
      injection hv with v1 v2 v3
      subst v1 v2 v3
      obtain ⟨b, off, rfl, hb, hat⟩ := hat.resolve_left (by omega)
      have hat := hat j hlt
      have hts : (l.take (j + 1)).flatMap lnB = (l.take j).flatMap lnB ++ lnB (l.getD j lnZ) := by
        rw [← List.take_append_getElem hjl, List.flatMap_append, show l.getD j lnZ = l[j] from by simp [List.getD, hjl]]; simp
      have hlf := HLF.out (l.getD j lnZ) (by rw [show l.getD j lnZ = l[j] from by simp [List.getD, hjl]]; exact List.getElem_mem hjl)
      have hll := lnsB_len (l.take j) (fun e he => HLF.out e (List.mem_of_mem_take he))
      have htl : (l.take j).length ≤ 8 := by rw [List.length_take]; omega
      generalize l.getD j lnZ = ln at *
      obtain ⟨lbd, k, hk, e0, e1, e2⟩ := hat
      obtain ⟨va, vc, rfl, hmc, hvc⟩ := reads1_form hk
      have q1 := hlf.name; have q2 := hlf.nos; have q3 := hlf.cur; have q4 := hlf.each
      obtain ⟨name, cur, nos⟩ := ln
      simp only at e0 e1 e2 hk hmc q1 q2 q3 q4
      have p2 : (256 : Nat) ^ (2 : Int).toNat = 65536 := by decide
      have p1 : (256 : Nat) ^ (1 : Int).toNat = 256 := by decide
      obtain ⟨m, hm⟩ : ∃ m, nos.length = m := ⟨_, rfl⟩
      rw [hm] at e2 hk hmc q2
      have HBC := Lib.hid (fun v u (hu : Reads1 encI u v [cur]) => frNumber 2 v [cur] u hu (by omega) (by omega) (by simp) (by intro x hx; rw [List.mem_singleton.1 hx, p2]; omega))
      have HBM := Lib.hid (fun v u (hu : Reads1 encI u v [(m : Int)]) => frNumber 1 v [(m : Int)] u hu (by omega) (by omega) (by simp) (by intro x hx; rw [List.mem_singleton.1 hx, p1]; omega))
      have HBN := Lib.hid (fun u (hu : Reads1 encI u (.slice va m vc) nos) => frNumber 2 _ nos u hu (by omega) (by omega) (by omega) (by intro x hx; have := q4 x hx; rw [p2]; omega))
      have HTN := Lib.hid (fun u => frText name u (by omega))
      rw [show (⟨(fieldsL (2 : Int).toNat [cur]).toArray⟩ : ByteArray) = numS cur.toNat 2 from by simp [numS, fieldsL]] at HBC
      rw [show (⟨(fieldsL (1 : Int).toNat [(m : Int)]).toArray⟩ : ByteArray) = numS m 1 from by simp [numS, fieldsL]] at HBM
      obtain ⟨FN, hFN⟩ : ∃ F : ByteArray, ⟨(fieldsL (2 : Int).toNat nos).toArray⟩ = F := ⟨_, rfl⟩
      have zF : FN.size = 2 * m := by rw [← hFN, ba_size, fieldsL_len, hm]; show m * 2 = _; omega
      have hlb : lnB ⟨name, cur, nos⟩ = (textL name ++ numS cur.toNat 2 ++ numS m 1 ++ FN).data.toList := by
        rw [← hFN]
        unfold lnB tx
        simp only [ba_append_list, numS_list, hm]
        simp
      rw [hlb] at hts
      rw [hFN] at HBN
      have t1 := textL_size name
      have t2 : (numS cur.toNat 2).size = 2 := numS_size _ _
      have t3 : (numS m 1).size = 1 := numS_size _ _
      generalize textL name = TN at *
      generalize numS cur.toNat 2 = NC at *
      generalize numS m 1 = NM at *
      have a1 := add_run (P := Try.prog) TN NC _ rfl (by omega)
      have s1 : (TN ++ NC).size = 4 + name.size := by rw [ByteArray.size_append]; omega
      have a2 := add_run (P := Try.prog) (TN ++ NC) NM _ rfl (by omega)
      have s2 : (TN ++ NC ++ NM).size = 5 + name.size := by rw [ByteArray.size_append]; omega
      have a3 := add_run (P := Try.prog) (TN ++ NC ++ NM) FN _ rfl (by omega)
      have s3 : (TN ++ NC ++ NM ++ FN).size = 5 + name.size + 2 * m := by rw [ByteArray.size_append]; omega
      generalize TN ++ NC ++ NM ++ FN = Y3 at *
      generalize TN ++ NC ++ NM = Y2 at *
      generalize TN ++ NC = Y1 at *
      have hlen : (Lib.byteCells (HD ++ (putL n 1 ++ (l.take j).flatMap lnB))).length + Y3.size ≤ 140737488355328 := by
        rw [Lib.byteCells_length, List.length_append, List.length_append, putL_length, HHL.out, s3]; omega
      have HTS := Lib.hid (show Lib.byteCells (HD ++ (putL n 1 ++ (l.take (j + 1)).flatMap lnB)) = Lib.byteCells (HD ++ (putL n 1 ++ (l.take j).flatMap lnB)) ++ Lib.strCells Y3 from by
        rw [hts, Lib.strCells_eq, ← Lib.byteCells_append]; simp only [List.append_assoc])
      have HLN := Lib.hid hlen
      have hal := (Below.refl wr.heap.size wr).alloc (Nat.le_refl _) (.cells #[.string name, .int .i64 cur, .slice va m vc] 66)
      have hrd := hk.below hal
      have hL := heap_alloc_new wr (.cells #[.string name, .int .i64 cur, .slice va m vc] 66)
      have hrp := HRP.out.alloc (.cells #[.string name, .int .i64 cur, .slice va m vc] 66)
      have hbl := bc_alloc HBL.out (.cells #[.string name, .int .i64 cur, .slice va m vc] 66)
      have hTL : T < wr.heap.size := by have := HRP.out.2.1; omega
      have HRD := Lib.hid hrd; have HL := Lib.hid hL; have HRP8 := Lib.hid hrp; have HBL8 := Lib.hid hbl
      have hmI : (m : Int) ≤ 6 := by omega
      have hm0 : (0 : Int) ≤ m := by omega
      have hmvI : (m : Int) ≤ vc := by omega
      clear hat hts hlf hll htl lbd hk hmc q1 q2 q3 q4 p1 p2 zF hlb t1 t2 t3 s1 s2 s3 hlen hal hrd hL hrp hbl hm hFN hbw hjl HBL HRP
      go_upto_region 9 with fail
      obtain ⟨u9, hU9⟩ : ∃ u, wr.alloc (.cells #[.string name, .int .i64 cur, .slice va m vc] 66) = u := ⟨_, rfl⟩
      obtain ⟨L, hLL⟩ : ∃ L, wr.heap.size = L := ⟨_, rfl⟩
      have hul : L < u9.heap.size := by rw [← hU9, World.size_alloc, hLL]; omega
      rw [hU9] at HRD HL HRP8 HBL8 ⊢
      rw [hLL] at HL hTL
      (try rw [hLL])
      clear hU9 hLL e0 e1 e2
      have HR9 := Lib.hid (show LnS w.heap.size T L #[.int .i64 why, .int .i64 at_, .int .i64 no, .string source, .int .i64 insns, .int .u32 action, .slice (some ⟨b, off, none⟩) n c] #[.string name, .int .i64 cur, .slice va m vc] w3 u9 from ⟨HRP8.out, HL.out⟩)
      go_region_held3 (fun u => LnS w.heap.size T L #[.int .i64 why, .int .i64 at_, .int .i64 no, .string source, .int .i64 insns, .int .u32 action, .slice (some ⟨b, off, none⟩) n c] #[.string name, .int .i64 cur, .slice va m vc] w3 u ∧ u.cell? ⟨L, 0, none⟩ = some (.string name) ∧ u.cell? ⟨L, 1, none⟩ = some (.int .i64 cur) ∧ u.cell? ⟨L, 2, none⟩ = some (.slice va m vc))
        ((refine keepLn ?_; first | assumption | exact HR9.out.drew | exact lnsA (by assumption) _ | exact lnsC (by assumption) (by assumption) | exact lnsW hAT hTL (by decide) (by assumption) hbw9 hkk9))
        (first
        | (go_at_call_of 25 (Value.int .i64 1); refine (HBM.out _ _ ?_).mono ?_; refine reads1_one ?_ ?_; (focus (repeat (first | assumption | ((with_reducible refine c_new ?_ ?_) <;> (first | rfl | ((repeat (first | rw [drew_size] | rw [World.size_alloc])); done) | ((repeat (first | rw [drew_size] | rw [World.size_alloc])); rfl))) | with_reducible refine c_drew ?_ | ((with_reducible refine c_old ?_ ?_); ((repeat (first | rw [drew_size] | rw [World.size_alloc])); omega)) | ((with_reducible refine c_call (by assumption) ?_ ?_); ((repeat (first | rw [drew_size] | rw [World.size_alloc])); omega))))); ((repeat (first | rw [drew_size] | rw [World.size_alloc])); omega); rintro e w5 ⟨rfl, hbw5⟩; have hzw5 := hbw5.size; (repeat (first | rw [drew_size] at hzw5 | rw [World.size_alloc] at hzw5)))
        | (go_at_call_of 25 va; refine (HBN.out _ ?_).mono ?_; (focus (repeat (first | exact HRD.out | with_reducible refine rd_drew ?_ | with_reducible refine rd_alloc ?_ _ | with_reducible refine rd_below ?_ (by assumption)))); rintro e w6 ⟨rfl, hbw6⟩; have hzw6 := hbw6.size; (repeat (first | rw [drew_size] at hzw6 | rw [World.size_alloc] at hzw6)))
        | (go_at_call 25; refine (HBC.out _ _ ?_).mono ?_; refine reads1_one ?_ ?_; (focus (repeat (first | assumption | ((with_reducible refine c_new ?_ ?_) <;> (first | rfl | ((repeat (first | rw [drew_size] | rw [World.size_alloc])); done) | ((repeat (first | rw [drew_size] | rw [World.size_alloc])); rfl))) | with_reducible refine c_drew ?_ | ((with_reducible refine c_old ?_ ?_); ((repeat (first | rw [drew_size] | rw [World.size_alloc])); omega)) | ((with_reducible refine c_call (by assumption) ?_ ?_); ((repeat (first | rw [drew_size] | rw [World.size_alloc])); omega))))); ((repeat (first | rw [drew_size] | rw [World.size_alloc])); omega); rintro e w7 ⟨rfl, hbw7⟩; have hzw7 := hbw7.size; (repeat (first | rw [drew_size] at hzw7 | rw [World.size_alloc] at hzw7)))
        | (go_at_call 26; refine (HTN.out _).mono ?_; rintro e w8 ⟨rfl, hbw8⟩; have hzw8 := hbw8.size; (repeat (first | rw [drew_size] at hzw8 | rw [World.size_alloc] at hzw8)))
        | (go_at_call 39; refine (bldWriteK T T _ Y3 _ ?_ HLN.out ?_).mono ?_; (focus (repeat (first | exact HBL8.out | with_reducible refine bc_drew ?_ | with_reducible refine bc_alloc ?_ _ | with_reducible refine bc_below ?_ (by assumption)))); ((repeat (first | rw [drew_size] | rw [World.size_alloc])); omega); rintro e w9 ⟨rfl, hbl9, hbw9, hkk9⟩)
        | fail)
      all_goals
        have HF := Lib.hid (show Lib.IsBuilder 70 5 T T (Lib.byteCells (HD ++ (putL n 1 ++ (l.take (j + 1)).flatMap lnB))) w9 from by rw [HTS.out]; exact Or.inr hbl9)
        have hln : LnS w.heap.size T L #[.int .i64 why, .int .i64 at_, .int .i64 no, .string source, .int .i64 insns, .int .u32 action, .slice (some ⟨b, off, none⟩) n c] #[.string name, .int .i64 cur, .slice va m vc] w3 w9 := And.left (by assumption)
        have HRF := Lib.hid hln.1
        go_wp2_with fail
        go_roundw
        case rel => exact ⟨j + 1, by omega, by go_num, HF, HRF⟩
        case measure => simp [intOf]; omega
    · have hjn : j = n := by omega
      subst hjn
      have hall : l.take j = l := List.take_of_length_le (by rw [HLEN.out]; exact Nat.le_refl _)
      rw [hall] at HBL
      have hnl : ¬ (j : Int) < j := by omega
      have hRI := HIN.out
      obtain ⟨Q, hQ⟩ : ∃ Q, HD ++ (putL j 1 ++ l.flatMap lnB) = Q := ⟨_, rfl⟩
      rw [hQ] at HBL hRI
      have hql : (ByteArray.mk Q.toArray).size ≤ 140737488355328 := by rw [ba_size, ← hRI]; have := HRL.out; omega
      have HQL := Lib.hid hql; have HRI := Lib.hid hRI
      have hz := HRP.out.2.1
      clear hall hRI hQ hql HIN
      go_wp2_with fail
      refine (Try.Builder_String_any T T Q _ HBL.out (by omega)).mono ?_
      rintro e w7 ⟨rfl, hb7⟩
      have HCS := Lib.hid (crcSeal_any ⟨Q.toArray⟩ w7 HQL.out)
      have hrbq := HRB.out
      rw [HRI.out] at hrbq
      have HRQ := Lib.hid hrbq
      have hb8 := HB3W.out.trans ((HRP.out.1.trans hb7).mono (by omega))
      have HB8 := Lib.hid hb8
      clear hrbq hb8 hb7
      go_wp2_with fail
      refine HCS.out.mono ?_
      rintro e w8 ⟨rfl, hb9⟩
      go_wp2_with fail
      go_ret2
      exact ⟨by rw [HRQ.out]; rfl, HB8.out.trans (hb9.mono HB8.out.size)⟩
set_option maxRecDepth 100000 in
set_option maxHeartbeats 1000000 in
theorem frReply_bad (r : Rp) (v : Value) (w : World) (h : IsRp w v r) (hr : rpOk r = false) :
    Calls Try.prog 16 #[v] w fun e w' => e = .returned (.tuple #[.string ⟨#[]⟩, .int .i64 1]) ∧ Below w.heap.size w w' := by
  have HW := Lib.hid (fun u (hu : Below w.heap.size w u) => frWritable r v u (h.below hu))
  rw [hr] at HW
  obtain ⟨hbd, k, rfl, hk⟩ := h
  obtain ⟨A, c, rfl, hc1, hc2⟩ := hk.form
  obtain ⟨why, at_, no, source, insns, action, l⟩ := r
  simp only [Rp.val] at *
  obtain ⟨n, hn⟩ : ∃ n, l.length = n := ⟨_, rfl⟩
  rw [hn] at HW ⊢
  have b0 := heap_alloc_new w (.cells #[.int .i64 why, .int .i64 at_, .int .i64 no, .string source, .int .i64 insns, .int .u32 action, .slice A n c] 37)
  have hb0 := (Below.refl w.heap.size w).alloc (Nat.le_refl _) (.cells #[.int .i64 why, .int .i64 at_, .int .i64 no, .string source, .int .i64 insns, .int .u32 action, .slice A n c] 37)
  have c0 := below_cell (Below.refl _ _) b0 0 rfl
  have c1 := below_cell (Below.refl _ _) b0 1 rfl
  have c2 := below_cell (Below.refl _ _) b0 2 rfl
  have c3 := below_cell (Below.refl _ _) b0 3 rfl
  have c4 := below_cell (Below.refl _ _) b0 4 rfl
  have c5 := below_cell (Below.refl _ _) b0 5 rfl
  have c6 := below_cell (Below.refl _ _) b0 6 rfl
  have HB0 := Lib.hid hb0
  clear hk hbd b0 hb0 hr hn
  go_enter Try.func16, Try.ntmps16
  go_wp2_with fail
  refine (HW.out _ HB0.out).mono ?_
  rintro e w2 ⟨rfl, hb2⟩
  go_wp2_with fail
  go_ret2
  exact ⟨rfl, HB0.out.trans (hb2.mono HB0.out.size)⟩
end Go.Proofs.Ytmanlogclbbgaaa
