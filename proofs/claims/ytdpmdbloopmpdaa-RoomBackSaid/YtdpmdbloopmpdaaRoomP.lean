/- The program's bytes of a row of bools. -/
import Derived.Test.YtdpmdbloopmpdaaChunk
namespace Go.Proofs.Ytdpmdbloopmpdaa
open Go.RowKit Go.Shelf
attribute [local go_sem] Oper.semAt_some
set_option linter.unusedVariables false

theorem or_pow_all : ∀ j : Fin 8, ∀ N : Fin 128, N.val < 2 ^ j.val → bits BinOp.or IntKind.u8 (N.val : Int) ((2 : Int) ^ j.val % 256) = ((N.val + 2 ^ j.val : Nat) : Int) := by decide +kernel
theorem or_pow (N j : Nat) (hj : j < 8) (hN : N < 2 ^ j) : bits BinOp.or IntKind.u8 (N : Int) ((2 : Int) ^ j % 256) = ((N + 2 ^ j : Nat) : Int) := by
  have : 2 ^ j ≤ 2 ^ 7 := Nat.pow_le_pow_right (by omega) (by omega)
  exact or_pow_all ⟨j, hj⟩ ⟨N, by omega⟩ hN

set_option maxRecDepth 100000 in
set_option maxHeartbeats 2000000 in
theorem roomPack_in (F : Fence) (n : Nat) (h3 : F.fn 9) (h5 : F.fn 17) (h7 : F.fn 21) (hro : F.round = none) (hn : 3 ≤ n) (v : Value) (l : List Bool) (w : World) (h : IsBools w v l) (h2 : l.length ≤ 1000000) :
    CallsIn F n Try.prog 9 #[v] w fun e w' => e = .returned (.string (packB l)) ∧ Below w.heap.size w w' := by
  obtain ⟨i0, hi, hz0, hz1, hz2⟩ := info_parts infoByte
  obtain ⟨a, len, cap, rfl, hlen, hc1, hc2, hat⟩ := h
  have hlI : (len : Int) ≤ 1000000 := by omega
  have hcI1 : (len : Int) ≤ cap := by omega
  have hcI2 : (cap : Int) ≤ 9223372036854775807 := by omega
  obtain ⟨b, off, hab, hbl⟩ : ∃ b off, (len = 0 ∨ a = some ⟨b, off, none⟩) ∧ (∀ j, j < len → b < w.heap.size ∧ w.cell? ⟨b, off + j, none⟩ = some (.bool (l.getD j false))) := by
    rcases hat with rfl | ⟨b, off, rfl, hb, hat⟩
    · exact ⟨0, 0, .inl rfl, fun j hj => by omega⟩
    · refine ⟨b, off, .inr rfl, fun j hj => ⟨hb, ?_⟩⟩
      have hj2 : j < l.length := by omega
      rw [show l.getD j false = l[j] from by simp [List.getD, hj2]]
      exact hat j hj2
  clear hat
  have h1 : 1 ≤ n := by omega
  refine callsIn_of_wp_marks Try.func9 rfl h3 ?_ hro
  simp only [Try.ntmps9, List.size_toArray, List.length_cons, List.length_nil, Nat.reduceAdd, Nat.reduceSub, Array.replicate_succ, Array.replicate_zero, List.push_toArray, List.append_toArray, List.nil_append, List.cons_append]
  gi_wp2_with (gi_at_call 17; refine (chunk_in F (n - 1) h5 hro _ _ _ _).mono ?_; rintro e w' ⟨rfl, rfl⟩)
  have bO := Boxed.new w 40 (.slice none 0 0)
  have bS := Boxed.new (w.alloc (.cells #[.slice none 0 0] 40)) 22 (.slice a len cap)
  have bN := Boxed.new ((w.alloc (.cells #[.slice none 0 0] 40)).alloc (.cells #[.slice a len cap] 22)) 3 (.int .i64 8)
  simp only [World.size_alloc] at bS bN
  have hB0 : Below w.heap.size w (((w.alloc (.cells #[.slice none 0 0] 40)).alloc (.cells #[.slice a len cap] 22)).alloc (.cells #[.int .i64 8] 3)) := (((Below.refl _ w).alloc (Nat.le_refl _) _).alloc (by simp) _).alloc (by simp; omega) _
  refine wpIn_rangeFunc_ownG hro h1 (gf := 21) (lb := #[.pointer (some ⟨w.heap.size + 1, 0, none⟩), .pointer (some ⟨w.heap.size + 1 + 1, 0, none⟩)]) rfl h7 (enters_of Try.func21 (by kernel_rfl) rfl)
    (chunk_stops F (n - 1) h7 hro (by omega) (w.heap.size + 1) (w.heap.size + 1 + 1) a b off len cap hlI hab hcI1 hcI2 _ (bS.alloc _) bN) (fun h k => ⟨fun v hv => k.1 v (h.1 v hv), fun v hv => k.2 v (h.2 v hv)⟩)
    (fun W l o o' hl _ _ _ => ⟨fun v hv => (World.putObj_heap_other (by simp at hl; omega)).trans hv, fun v hv => (World.putObj_heap_other (by simp at hl; omega)).trans hv⟩) (Below.refl _ _) (fun _ => rfl)
    (fun (pre : List Nat) W => (∃ v, Boxed W w.heap.size 40 v ∧ W.ownsRow w.heap.size 5 1 v pre.length (pre.map fun c => .int .u8 (byteN l c : Nat)) ∧ True) ∧ Below w.heap.size w W)
    (fun _ _ _ => False)
    (OwnFrom.and (Own.from (holdsRow_own w.heap.size w.heap.size 40 5 1 (fun pre : List Nat => pre.length) (fun pre : List Nat => pre.map fun c => .int .u8 (byteN l c : Nat)) (fun _ _ => True)) _) (ownFrom_below (Nat.le_refl _) (by simp; omega)))
    (fun _ _ _ _ _ hs _ _ => hs)
    ⟨⟨_, (bO.alloc _).alloc _, World.ownsRow_nil _ _ _ _, trivial⟩, hB0⟩
    (fun x : Nat => { tmps := #[.slice a len cap, undef, .string ⟨#[]⟩, .pointer (some ⟨w.heap.size, 0, none⟩), chunkV b off len x, undef, undef, undef, .slice a len cap, .func (.func 21) #[] #[.pointer (some ⟨w.heap.size + 1, 0, none⟩), .pointer (some ⟨w.heap.size + 1 + 1, 0, none⟩)], chunkV b off len x, undef, undef, undef, undef, undef, undef, undef, undef, undef, undef, undef, undef, undef, undef, undef, undef, undef, undef, undef], defers := [] }) ?assign ?body ?done ?stop
  case assign =>
    intro l x W K hK
    gi_wp2
    exact hK
  case body =>
    rintro r pre x W ⟨⟨v, hv, hrow, _⟩, hB⟩ hlt
    have hc := hv.cell
    unfold chunkV
    generalize hm : min 8 (len - 8 * x) = m
    have hm8 : (m : Int) ≤ 8 := by omega
    have hcell : ∀ j, j < m → W.cell? ⟨b, off + 8 * x + j, none⟩ = some (.bool (l.getD (8 * x + j) false)) := fun j hj => by
      obtain ⟨hb, hc⟩ := hbl (8 * x + j) (by omega)
      rw [← hc, Nat.add_assoc]
      exact hB.cell hb
    have HC := Lib.hid hcell
    have HO := Lib.hid hrow; have HV := Lib.hid hv; have HB := Lib.hid hB
    clear hcell hbl hrow hv hB hB0 bO bS bN
    gi_wp2
    gi_loop [5, 13] (fun y z => ∃ j : Nat, j ≤ m ∧ y = .int .u8 (bitsN l (8 * x) j : Nat) ∧ z = .int .i64 j) (fun _ z => m - (intOf z).toNat)
    case atStart => exact ⟨0, by omega, rfl, rfl⟩
    case round =>
      obtain ⟨j, hj, rfl, rfl⟩ := hrel
      have hbt := bitsN_lt l (8 * x) j
      have hsn : bitsN l (8 * x) (j + 1) = bitsN l (8 * x) j + (if l.getD (8 * x + j) false = true then 2 ^ j else 0) := rfl
      by_cases hend : j < m
      · have hc2 := HC.out j hend
        generalize l.getD (8 * x + j) false = B at *
        generalize hN1 : bitsN l (8 * x) (j + 1) = N1 at *
        generalize bitsN l (8 * x) j = N at *
        have hm8' : m ≤ 8 := by omega
        have HM := Lib.hid hm; have HSN := Lib.hid hsn; have HN1 := Lib.hid hN1; have HBT := Lib.hid hbt
        clear hm hsn hN1 hbt
        cases B
        · gi_wp2
          go_round
          case rel => exact ⟨j + 1, by omega, by rw [HN1.out, HSN.out]; simp, by go_num⟩
          case measure => simp [intOf]; omega
        · gi_wp2
          go_round
          case rel => exact ⟨j + 1, by omega, by rw [HN1.out, HSN.out, if_pos rfl, or_pow N j (by omega) HBT.out], by go_num⟩
          case measure => simp [intOf]; omega
      · obtain rfl : j = m := by omega
        have hbn : bitsN l (8 * x) j = byteN l x := by rw [byteN, hlen, hm]
        rw [hbn]
        have hby := byteN_lt l x
        have hbyI : (byteN l x : Int) ≤ 255 := by omega
        have hB := HB.out; have hrow := HO.out; have hv := HV.out
        have hsz := hB.size
        have hpl : pre.length ≤ 1000000 := by omega
        have HPL := Lib.hid hpl; have HSZ := Lib.hid hsz
        clear hsn hbt hbn hby hlt hm
        gi_wp2_with (gi_at_builtin; refine wpListIn_append_own _ rfl _ _ 40 rfl w.heap.size 5 i0 (.int .u8 0) 1 1 Try.underlying40 hi hz0 hz1 hz2 rfl (by decide) _ _ _ rfl (hrow.alloc _) ⟨W.heap.size, 0, none⟩ 1 1 [.int .u8 (byteN l x : Nat)] rfl rfl (cell_one_new _ _ _) (by simp [Value.oneCell']) (by have := HPL.out; unfold maxLen; omega) (by have := HPL.out; omega) (by have := HSZ.out; simp; omega) ?_; intro v' w1 hown' hgrow _; obtain ⟨g', cap', rfl⟩ := ownsRow_succ hown'; obtain ⟨hv1, hv2, hr2, hk2, hb2⟩ := hv.appended (by decide) hrow hB.size (Nat.le_refl _) hown' hgrow; have hc1 := hv1.cell; have hf1 := hv1.frozen)
        have hk3 : KeepsTwo (w.heap.size + 1) (w.heap.size + 1 + 1) W (w1.setCell ⟨w.heap.size, 0, none⟩ (.slice (some ⟨g', 0, none⟩) (pre.length + 1) cap')) :=
          ⟨fun u hu => ((hu.alloc _).kept hgrow (hu.not_row (by decide) hrow)).kept (grownBy_setCell' _ _ _) (fun e => by have := Option.some.inj e; omega), fun u hu => ((hu.alloc _).kept hgrow (hu.not_row (by decide) hrow)).kept (grownBy_setCell' _ _ _) (fun e => by have := Option.some.inj e; omega)⟩
        exact ⟨hk2.from _, hk3, ⟨_, hv2, by simpa using hr2⟩, hB.trans hb2⟩
  case done =>
    rintro D ys W hD rfl ⟨⟨v, hv, hrow, _⟩, hB⟩ hK
    have hc := hv.cell
    have hmap : (List.range ((len + 7) / 8)).map (fun c => Value.int .u8 (byteN l c : Nat)) = (packN l ((len + 7) / 8)).map fun x => Value.int .u8 x.toNat := by
      unfold packN
      rw [List.map_map]
      exact List.map_congr_left fun c _ => by simp only [Function.comp_apply]; rw [packN_val]
    rw [hmap] at hrow
    have hcv := own_string (P := Try.prog) (src := 40) (dst := 9) (packN l ((len + 7) / 8)) hrow Try.underlying40 Try.underlying5 Try.underlying9
    have hpk : packB l = ⟨(packN l ((len + 7) / 8)).toArray⟩ := by unfold packB; rw [hlen]
    have HPK := Lib.hid hpk
    have HB := Lib.hid hB
    clear hpk hmap hrow hB hB0 hbl
    gi_wp2
    refine ⟨by simp, .inl ⟨_, _, rfl, run_takeDeferred hK, ?_⟩⟩
    exact ⟨_, results_tmp rfl _ _ _, by rw [HPK.out]; rfl, HB.out.trans (belowK_b (w := w) (Nat.le_refl _) W D _ _ (by simp at hD; omega) hK rfl rfl)⟩
  case stop =>
    rintro D c pre W _ _ h _
    exact h.elim

theorem roomPack_any (v : Value) (l : List Bool) (w : World) (h : IsBools w v l) (h2 : l.length ≤ 1000000) :
    Calls Try.prog 9 #[v] w fun e w' => e = .returned (.string (packB l)) ∧ Below w.heap.size w w' :=
  callsIn_wide.1 (roomPack_in Fence.wide 3 trivial trivial trivial rfl (Nat.le_refl _) v l w h h2)
end Go.Proofs.Ytdpmdbloopmpdaa
