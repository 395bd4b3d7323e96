/- The reference of layer 21: the instructions. -/
import Derived.Test.YtnlmdajoifjddaaRef21A
import Derived.Test.YtnlmdajoifjddaaQTail
namespace Go.Proofs.Ytnlmdajoifjddaa
open Go.RowKit Go.ChangeShapes Go.Deep
set_option linter.unusedVariables false

theorem own_form4 {w : World} {base e : Nat} {v : Value} {n : Nat} {xs : List Value} (h : w.ownsRow base e 4 v n xs) : ∃ A c, v = .slice A n c := by
  rcases h.2 with ⟨rfl, h0⟩ | ⟨g, cap, cur, rfl, _⟩
  · subst h0; exact ⟨_, _, rfl⟩
  · exact ⟨_, _, rfl⟩
theorem behL_kind (l : List Stp) (T : Int) : ∀ n i j, behL l i T n = some j → (l.getD j stpZ).kind = 6 := by
  intro n
  induction n with
  | zero => intro i j h; cases h
  | succ n ih =>
    intro i j h
    rw [behL] at h
    split at h
    · rename_i hk
      injection h with h
      subst h
      exact hk.1
    · exact ih _ _ h
theorem sizeL_split (l : List Stp) (i : Nat) (h : i < l.length) : sizeL (l.drop i) = szI (l.getD i stpZ).kind + sizeL (l.drop (i + 1)) := by
  rw [List.drop_eq_getElem_cons h, sizeL_cons]
  simp [List.getD, h]
/-- how far it is to a label -/
theorem far (l : List Stp) (s : Asm) (hs : asmA l = some s) (hk : ∀ o ∈ l, o.k ≤ 4294967295) (hlen : l.length ≤ 100000) (i : Nat) (hi : i < l.length) (s1 : Asm) (h1 : asmA (l.drop (i + 1)) = some s1) (T : Int) (e : Nat) (he : s1.env T = some e) :
    ∃ j, beh l i T = some j ∧ sizeL (l.take j) + e = sizeL (l.take i) + szI (l.getD i stpZ).kind + s1.c.length ∧ e ≤ s1.c.length := by
  obtain ⟨j, sj, h2, h3, h4⟩ := env_beh l _ (i + 1) rfl (by omega) s1 h1 T e he
  have hb : beh l i T = some j := h2
  have hbd := beh_bound l i T j hb
  have hkd := behL_kind l T _ _ _ h2
  obtain ⟨ok1, n1⟩ := asmA_ok (l.drop (i + 1)) s1 (fun o ho => hk o (List.mem_of_mem_drop ho)) (by rw [List.length_drop]; omega) h1
  have nj := (asmA_ok (l.drop (j + 1)) sj (fun o ho => hk o (List.mem_of_mem_drop ho)) (by rw [List.length_drop]; omega) h3).2
  have a1 := sizeL_append (l.take j) (l.drop j)
  have a2 := sizeL_append (l.take i) (l.drop i)
  rw [List.take_append_drop] at a1 a2
  have a3 := sizeL_split l i hi
  have a4 := sizeL_split l j hbd.2
  rw [hkd] at a4
  have : szI 6 = 0 := rfl
  refine ⟨j, hb, by omega, ok1.1 T e he⟩
theorem jaK_eq (l : List Stp) (i j place e n : Nat) (z d : Nat) (h : sizeL (l.take j) + e = sizeL (l.take i) + z + n) (he : e ≤ n) (hp : place = sizeL (l.take i) + d) (hd : d + 1 ≤ z) : jaK l j place = n + (z - d - 1) - e ∧ place + 1 ≤ sizeL (l.take j) := by
  unfold jaK; omega
theorem insCells_app (c d : List Ins) : insCells (c ++ d) = insCells c ++ insCells d := by simp [insCells]
theorem own_out {w w' : World} {base : Nat} {A : Value} {v : Value} {out new : List Ins} {n m : Nat} {xs : List Value} (h : w.ownsRow base 44 4 A n (insCells out)) (hn : out.length = n) (hx : xs = insCells new) (h2 : w'.ownsRow base 44 4 v (n + m) (insCells out ++ xs)) :
    w'.ownsRow base 44 4 v (out ++ new).length (insCells (out ++ new)) := by
  subst hx
  rw [← insCells_app] at h2
  have := h2.1
  rw [insCells_len] at this
  rw [show (out ++ new).length = n + m by omega]
  exact h2
def RefAsmPost (l : List Stp) (e : Ending) (w' : World) : Prop :=
  match asmA l with
  | none => e = .returned (.tuple #[.slice none 0 0, .int .i64 1])
  | some s => if 4096 < s.c.length then e = .returned (.tuple #[.slice none 0 0, .int .i64 64]) else ∃ u, e = .returned (.tuple #[u, .int .i64 0]) ∧ IsInsns w' u s.c
theorem RefAsmPost.of_none {l : List Stp} {w' : World} (h : asmA l = none) : RefAsmPost l (.returned (.tuple #[.slice none 0 0, .int .i64 1])) w' := by unfold RefAsmPost; rw [h]
theorem RefAsmPost.of_big {l : List Stp} {w' : World} {s : Asm} (h : asmA l = some s) (hb : 4096 < s.c.length) : RefAsmPost l (.returned (.tuple #[.slice none 0 0, .int .i64 64])) w' := by
  unfold RefAsmPost; rw [h]; show if _ then _ else _; rw [if_pos hb]
theorem RefAsmPost.of_ok {l : List Stp} {w' : World} {s : Asm} {u : Value} (h : asmA l = some s) (hb : ¬ 4096 < s.c.length) (hu : IsInsns w' u s.c) : RefAsmPost l (.returned (.tuple #[u, .int .i64 0])) w' := by
  unfold RefAsmPost; rw [h]; show if _ then _ else _; rw [if_neg hb]; exact ⟨u, rfl, hu⟩
set_option maxRecDepth 100000 in
set_option maxHeartbeats 8000000 in
theorem refAssemble_any (v : Value) (l : List Stp) (w : World) (h : IsOps w v l) (hN : l.length ≤ 100000) :
    Calls Try.prog 13 #[v] w fun e w' => RefAsmPost l e w' ∧ Below w.heap.size w w' := by
  obtain ⟨iI, hNI, hzI0, hzI1, hzI2⟩ := info_parts infoInsn
  have hF := fun u hu => refFits_any v l u hu hN
  have hS := fun u hu => refSize_any l v u hu hN
  have hJ := fun p place j label u hu hp hj hk => refJa_any v l p place j label u hu hN hp hj hk
  have hk : ∀ o ∈ l, o.k ≤ 4294967295 := fun o ho => (h.bnd o ho).2.1
  have HJ := Lib.hid hJ; have HL := Lib.hid h; have HF := Lib.hid hF; have HS := Lib.hid hS; have HK := Lib.hid hk
  clear hJ hF hS
  obtain ⟨a, len, cap, rfl, hlen, hc1, hc2, hbd, hn, hat⟩ := h
  have hlI : (len : Int) ≤ 100000 := by omega
  have HA := Lib.hid hat; have HLEN := Lib.hid hlen; have HBD := Lib.hid hbd
  clear hat hbd hlen hn
  cases hs : asmA l with
  | none =>
    rw [hs] at HF
    go_enter Try.func13, Try.ntmps13
    go_wp2_with fail
    refine (HF.out _ HL.out).mono ?_
    rintro e w2 ⟨rfl, hb2⟩
    have HW2 := Lib.hid hb2; have HSS := Lib.hid hs
    clear hb2 hs
    go_wp2_with fail
    go_ret2
    exact ⟨RefAsmPost.of_none HSS.out, HW2.out⟩
  | some s =>
    rw [hs] at HF
    have hsl := (asmA_ok l s hk hN hs).2
    rw [← hsl] at HS
    clear hk
    go_enter Try.func13, Try.ntmps13
    go_wp2_with fail
    refine (HF.out _ HL.out).mono ?_
    rintro e w2 ⟨rfl, hb2⟩
    have HW2 := Lib.hid hb2
    clear hb2
    go_upto_region 3 with fail
    go_wp2_with fail
    refine (HS.out _ (HL.out.below HW2.out)).mono ?_
    rintro e w3 ⟨rfl, hb3⟩
    have HW3 := Lib.hid (HW2.out.trans (hb3.mono HW2.out.size))
    have HSS := Lib.hid hs; have HSL := Lib.hid hsl
    clear hb3 HS HF hs hsl HW2
    obtain ⟨N, hNN⟩ : ∃ N, s.c.length = N := ⟨_, rfl⟩
    rw [hNN] at HSL
    rw [hNN]
    by_cases hbig : 4096 < N
    · have hbI : (4096 : Int) < N := by omega
      have HNN := Lib.hid hNN
      clear hNN hbig
      go_wp2_with fail
      go_ret2
      exact ⟨RefAsmPost.of_big HSS.out (by have := HNN.out; omega), HW3.out⟩
    · have hbI : (N : Int) ≤ 4096 := by omega
      have HNN := Lib.hid hNN
      clear hNN
      go_upto_region 5 with fail
      have hown0 : (w3.alloc (.cells #[] 44)).ownsRow w.heap.size 44 4 (.slice (some ⟨w3.heap.size, 0, none⟩) 0 0) 0 [] := World.ownsRow_made w3 #[] 0 HW3.out.size (by unfold maxLen; omega) rfl
      have hw4 := HW3.out.alloc HW3.out.size (.cells #[] 44)
      have HOW := Lib.hid hown0; have HW4 := Lib.hid hw4
      clear hown0 hw4
      go_wp2_with fail
      go_loopw [4, 17] (fun v z wr => ∃ (i : Nat) (out : List Ins) (sp : Asm), z = .int .i64 i ∧ i ≤ len ∧ asmA (l.drop i) = some sp ∧ s.c = out ++ sp.c ∧ wr.ownsRow w.heap.size 44 4 v out.length (insCells out) ∧ Below w.heap.size w wr) (fun _ z _ => len - (intOf z).toNat)
      case atStart => exact ⟨0, [], s, rfl, by omega, HSS.out, rfl, HOW.out, HW4.out⟩
      case round =>
        obtain ⟨i, out, sp, rfl, hi, hsp, hsc, hown, hwr⟩ := hrel
        obtain ⟨A4, c4, rfl⟩ := own_form4 hown
        by_cases hlt : i < len
        · obtain ⟨b, off, rfl, hb, hat⟩ := HA.out.resolve_left (by omega)
          have hst := (hat i hlt).below hwr hb
          have hiI : (i : Int) < len := by omega
          have hil : i < l.length := by rw [HLEN.out]; exact hlt
          obtain ⟨s1, h1, h2⟩ := drop_step l i sp hil hsp
          have hfar := fun T e he => far l s HSS.out HK.out hN i hil s1 h1 T e he
          have hspl := (asmA_ok (l.drop i) sp (fun o ho => HK.out o (List.mem_of_mem_drop ho)) (by rw [List.length_drop]; omega) hsp).2
          have ha2 := sizeL_append (l.take i) (l.drop i)
          rw [List.take_append_drop] at ha2
          have hcl := congrArg List.length hsc
          rw [List.length_append, HNN.out] at hcl
          have hol : out.length = sizeL (l.take i) := by have := HSL.out; omega
          have hn0 : out.length ≤ 4096 := by omega
          have hbo : (l.getD i stpZ).bounded := by
            rw [List.getD_eq_getElem?_getD, List.getElem?_eq_getElem hil]
            exact HBD.out _ (List.getElem_mem _)
          have hjj := fun place j label u hu hj hk => HJ.out i place j label u hu hil hj hk
          clear hspl ha2 hat hsp
          rw [← hol] at hfar
          generalize l.getD i stpZ = o at *
          obtain ⟨kind, k, t, f⟩ := o
          obtain ⟨c0, c1, c2, c3⟩ := hst
          dsimp only at c0 c1 c2 c3 h2 hfar
          obtain ⟨bk, bk2, bt, bf⟩ := hbo
          dsimp only at bk bk2 bt bf
          have hnw := heap_alloc_new wr (.cells #[.int .i64 kind, .int .u32 (k : Nat), .int .i64 t, .int .i64 f] 32)
          have hwa := (Below.refl wr.heap.size wr).alloc (Nat.le_refl _) (.cells #[.int .i64 kind, .int .u32 (k : Nat), .int .i64 t, .int .i64 f] 32)
          have hoa := hown.alloc (.cells #[.int .i64 kind, .int .u32 (k : Nat), .int .i64 t, .int .i64 f] 32)
          have HWA := Lib.hid (hwr.trans (hwa.mono hwr.size)); have HOA := Lib.hid hoa; have HFAR := Lib.hid hfar; have HJJ := Lib.hid hjj; have H2 := Lib.hid h2; have H1 := Lib.hid h1; have HSC := Lib.hid hsc; have HCL := Lib.hid hcl
          have hlen1 : (insCells out).length = out.length * 4 := insCells_len out
          obtain ⟨n0, hn0e⟩ : ∃ n, out.length = n := ⟨_, rfl⟩
          rw [hn0e] at hn0 HOA HFAR HCL ⊢
          have HN0 := Lib.hid hn0e
          have hn0I : (n0 : Int) ≤ 4096 := by omega
          clear hwr hown hoa hfar hjj h2 h1 hsc hol hcl hlen1 hn0e
          go_upto_region 9 with fail
          generalize wr.alloc (.cells #[.int .i64 kind, .int .u32 (k : Nat), .int .i64 t, .int .i64 f] 32) = wa at *
          have q0 := below_cell (Below.refl _ _) hnw 0 rfl
          have q1 := below_cell (Below.refl _ _) hnw 1 rfl
          have q2 := below_cell (Below.refl _ _) hnw 2 rfl
          have q3 := below_cell (Below.refl _ _) hnw 3 rfl
          have HNW := Lib.hid hnw
          clear hnw hwa c0 c1 c2 c3
          have step1 : ∀ c, s1.step ⟨kind, k, t, f⟩ = some (s1.add c) → sp.c = c :: s1.c := fun c h => by
            have := H2.out.symm.trans h
            injection this with this
            rw [this]; rfl
          have hbel := HWA.out
          by_cases k1 : kind = 1
          · have hnew := step1 ⟨32, 0, 0, (k : Int)⟩ (by rw [k1]; rfl)
            have HNEW := Lib.hid hnew
            clear hnew step1
            subst k1
            go_wp2_with (first | (at_builtin; go_must (refine wpList_pushes (m := 1) (news := Ins.cells ⟨32, 0, 0, (k : Int)⟩) _ _ 24 44 HOA.out hbel (Nat.le_refl _) Try.underlying24 hNI hzI0 hzI1 hzI2 rfl (by decide) rfl rfl rfl rfl rfl (by simp [Ins.cells, Value.oneCell']) ?c7 ?_)))
            case c7 => omega
            intro v7 w7 hown7 hb7
            have HO7 := Lib.hid (own_out (new := [⟨32, 0, 0, (k : Int)⟩]) HOA.out HN0.out (by rfl) hown7); have HB7 := Lib.hid hb7
            clear hown7 hb7
            go_wp2_with fail
            go_roundw
            case rel => exact ⟨i + 1, out ++ [⟨32, 0, 0, (k : Int)⟩], s1, by go_num, by omega, H1.out, by rw [HSC.out, HNEW.out, List.append_assoc]; rfl, HO7.out, HB7.out⟩
            case measure => simp [intOf]; omega
          by_cases k2 : kind = 2
          · have hnew := step1 ⟨84, 0, 0, (k : Int)⟩ (by rw [k2]; rfl)
            have HNEW := Lib.hid hnew
            clear hnew step1
            subst k2
            go_wp2_with (first | (at_builtin; go_must (refine wpList_pushes (m := 1) (news := Ins.cells ⟨84, 0, 0, (k : Int)⟩) _ _ 24 44 HOA.out hbel (Nat.le_refl _) Try.underlying24 hNI hzI0 hzI1 hzI2 rfl (by decide) rfl rfl rfl rfl rfl (by simp [Ins.cells, Value.oneCell']) ?c7 ?_)))
            case c7 => omega
            intro v7 w7 hown7 hb7
            have HO7 := Lib.hid (own_out (new := [⟨84, 0, 0, (k : Int)⟩]) HOA.out HN0.out (by rfl) hown7); have HB7 := Lib.hid hb7
            clear hown7 hb7
            go_wp2_with fail
            go_roundw
            case rel => exact ⟨i + 1, out ++ [⟨84, 0, 0, (k : Int)⟩], s1, by go_num, by omega, H1.out, by rw [HSC.out, HNEW.out, List.append_assoc]; rfl, HO7.out, HB7.out⟩
            case measure => simp [intOf]; omega
          by_cases k8 : kind = 8
          · have hnew := step1 ⟨6, 0, 0, (k : Int)⟩ (by rw [k8]; rfl)
            have HNEW := Lib.hid hnew
            clear hnew step1
            subst k8
            go_wp2_with (first | (at_builtin; go_must (refine wpList_pushes (m := 1) (news := Ins.cells ⟨6, 0, 0, (k : Int)⟩) _ _ 24 44 HOA.out hbel (Nat.le_refl _) Try.underlying24 hNI hzI0 hzI1 hzI2 rfl (by decide) rfl rfl rfl rfl rfl (by simp [Ins.cells, Value.oneCell']) ?c7 ?_)))
            case c7 => omega
            intro v7 w7 hown7 hb7
            have HO7 := Lib.hid (own_out (new := [⟨6, 0, 0, (k : Int)⟩]) HOA.out HN0.out (by rfl) hown7); have HB7 := Lib.hid hb7
            clear hown7 hb7
            go_wp2_with fail
            go_roundw
            case rel => exact ⟨i + 1, out ++ [⟨6, 0, 0, (k : Int)⟩], s1, by go_num, by omega, H1.out, by rw [HSC.out, HNEW.out, List.append_assoc]; rfl, HO7.out, HB7.out⟩
            case measure => simp [intOf]; omega
          by_cases k3 : kind = 3
          · have hst := H2.out
            have hstep : s1.test 21 ⟨kind, k, t, f⟩ = some sp := by rw [← hst, k3]; rfl
            obtain ⟨e1, e2, he1, he2, hspe⟩ := test_env hstep
            obtain ⟨j1, hj1, hd1, hle1⟩ := HFAR.out f e1 he1
            obtain ⟨j2, hj2, hd2, hle2⟩ := HFAR.out t e2 he2
            rw [k3, show szI 3 = 3 from rfl] at hd1 hd2
            have hK1 : jaK l j1 (n0 + 2) = s1.c.length - e1 ∧ n0 + 2 + 1 ≤ sizeL (l.take j1) := by unfold jaK; omega
            have hK2 : jaK l j2 (n0 + 1) = s1.c.length + 1 - e2 ∧ n0 + 1 + 1 ≤ sizeL (l.take j2) := by unfold jaK; omega
            have hJ1 := fun u hu => HJJ.out (n0 + 2) j1 f u hu hj1 hK1.2
            have hJ2 := fun u hu => HJJ.out (n0 + 1) j2 t u hu hj2 hK2.2
            rw [hK1.1, show ((n0 + 2 : Nat) : Int) = (n0 : Int) + 2 from rfl] at hJ1
            rw [hK2.1, show ((n0 + 1 : Nat) : Int) = (n0 : Int) + 1 from rfl] at hJ2
            have hspc : sp.c = ⟨21, 0, 1, (k : Int)⟩ :: ⟨5, 0, 0, ((s1.c.length + 1 - e2 : Nat) : Int)⟩ :: ⟨5, 0, 0, ((s1.c.length - e1 : Nat) : Int)⟩ :: s1.c := by rw [hspe]
            have hle : n0 + 3 ≤ N := by rw [hspc] at HCL; have := HCL.out; simp at this; omega
            have hK1b : s1.c.length - e1 ≤ 4294967295 := by rw [hspc] at HCL; have := HCL.out; simp at this; omega
            have hK2b : s1.c.length + 1 - e2 ≤ 4294967295 := by rw [hspc] at HCL; have := HCL.out; simp at this; omega
            generalize s1.c.length + 1 - e2 = K2 at *
            generalize s1.c.length - e1 = K1 at *
            unfold Ins.value at hJ1 hJ2
            dsimp only at hJ1 hJ2
            have HJ1 := Lib.hid hJ1; have HJ2 := Lib.hid hJ2; have HSP := Lib.hid hspc
            clear hst hstep he1 he2 hspe hj1 hj2 hd1 hd2 hle1 hle2 hK1 hK2 hJ1 hJ2 hspc step1 H2
            subst k3
            go_upto_region 16 with fail
            have r1 : ∀ x : KeepT wa, x.val.cell? ⟨wr.heap.size, 1, none⟩ = some (.int .u32 (k : Int)) := fun x => keep_at HNW.out 1 rfl x
            have r2 : ∀ x : KeepT wa, x.val.cell? ⟨wr.heap.size, 2, none⟩ = some (.int .i64 t) := fun x => keep_at HNW.out 2 rfl x
            have r3 : ∀ x : KeepT wa, x.val.cell? ⟨wr.heap.size, 3, none⟩ = some (.int .i64 f) := fun x => keep_at HNW.out 3 rfl x
            have hops : ∀ x : KeepT wa, IsOps x.val (.slice (some ⟨b, off, none⟩) len cap) l := fun x => HL.out.below (HWA.out.trans (x.below.mono HWA.out.size))
            have HOPS := Lib.hid hops
            clear q0 q1 q2 q3 hops
            refine wp_region_keep_tail1 (w0 := wa) (v0 := .slice A4 n0 c4) 18 (by kernel_rfl) (by kernel_rfl) (Below.refl _ _) (fun _ _ _ h => h) (Or.inl ⟨by rfl, fun _ => by rfl⟩) ?_
            simp only [List.take_succ_cons, List.take_zero, List.drop_succ_cons, List.drop_zero, Nat.reduceSub]
            go_simp
            repeat (go_big_quiet_step ((first | (go_at_call_of 23 t; exact keepCall (HJ2.out _ (HOPS.out _))) | (go_at_call_of 23 f; exact keepCall (HJ1.out _ (HOPS.out _))))))
            refine wpQuiet_nil ?_
            intro x
            have hO2 := own_stays HOA.out x.below
            have hb2 := HWA.out.trans (x.below.mono HWA.out.size)
            clear r1 r2 r3 HOPS
            generalize x.val = wz at *
            have HO2 := Lib.hid hO2
            clear hO2
            go_wp2_with (first | (at_builtin; go_must (refine wpList_pushes (m := 3) (news := [.int .i64 21, .int .i64 0, .int .i64 1, .int .u32 (k : Int), .int .i64 5, .int .i64 0, .int .i64 0, .int .u32 (K2 : Int), .int .i64 5, .int .i64 0, .int .i64 0, .int .u32 (K1 : Int)]) _ _ 24 44 HO2.out hb2 (Nat.le_refl _) Try.underlying24 hNI hzI0 hzI1 hzI2 rfl (by decide) rfl rfl rfl rfl rfl (by simp [Value.oneCell']) ?c7 ?_)))
            case c7 => omega
            intro v7 w7 hown7 hb7
            have HO7 := Lib.hid (own_out (new := [⟨21, 0, 1, (k : Int)⟩, ⟨5, 0, 0, (K2 : Int)⟩, ⟨5, 0, 0, (K1 : Int)⟩]) HO2.out HN0.out (by rfl) hown7); have HB7 := Lib.hid hb7
            clear hown7 hb7
            go_wp2_with fail
            go_roundw
            case rel => exact ⟨i + 1, out ++ [⟨21, 0, 1, (k : Int)⟩, ⟨5, 0, 0, (K2 : Int)⟩, ⟨5, 0, 0, (K1 : Int)⟩], s1, by go_num, by omega, H1.out, by rw [HSC.out, HSP.out, List.append_assoc]; rfl, HO7.out, HB7.out⟩
            case measure => simp [intOf]; omega
          by_cases k4 : kind = 4
          · have hst := H2.out
            have hstep : s1.test 37 ⟨kind, k, t, f⟩ = some sp := by rw [← hst, k4]; rfl
            obtain ⟨e1, e2, he1, he2, hspe⟩ := test_env hstep
            obtain ⟨j1, hj1, hd1, hle1⟩ := HFAR.out f e1 he1
            obtain ⟨j2, hj2, hd2, hle2⟩ := HFAR.out t e2 he2
            rw [k4, show szI 4 = 3 from rfl] at hd1 hd2
            have hK1 : jaK l j1 (n0 + 2) = s1.c.length - e1 ∧ n0 + 2 + 1 ≤ sizeL (l.take j1) := by unfold jaK; omega
            have hK2 : jaK l j2 (n0 + 1) = s1.c.length + 1 - e2 ∧ n0 + 1 + 1 ≤ sizeL (l.take j2) := by unfold jaK; omega
            have hJ1 := fun u hu => HJJ.out (n0 + 2) j1 f u hu hj1 hK1.2
            have hJ2 := fun u hu => HJJ.out (n0 + 1) j2 t u hu hj2 hK2.2
            rw [hK1.1, show ((n0 + 2 : Nat) : Int) = (n0 : Int) + 2 from rfl] at hJ1
            rw [hK2.1, show ((n0 + 1 : Nat) : Int) = (n0 : Int) + 1 from rfl] at hJ2
            have hspc : sp.c = ⟨37, 0, 1, (k : Int)⟩ :: ⟨5, 0, 0, ((s1.c.length + 1 - e2 : Nat) : Int)⟩ :: ⟨5, 0, 0, ((s1.c.length - e1 : Nat) : Int)⟩ :: s1.c := by rw [hspe]
            have hle : n0 + 3 ≤ N := by rw [hspc] at HCL; have := HCL.out; simp at this; omega
            have hK1b : s1.c.length - e1 ≤ 4294967295 := by rw [hspc] at HCL; have := HCL.out; simp at this; omega
            have hK2b : s1.c.length + 1 - e2 ≤ 4294967295 := by rw [hspc] at HCL; have := HCL.out; simp at this; omega
            generalize s1.c.length + 1 - e2 = K2 at *
            generalize s1.c.length - e1 = K1 at *
            unfold Ins.value at hJ1 hJ2
            dsimp only at hJ1 hJ2
            have HJ1 := Lib.hid hJ1; have HJ2 := Lib.hid hJ2; have HSP := Lib.hid hspc
            clear hst hstep he1 he2 hspe hj1 hj2 hd1 hd2 hle1 hle2 hK1 hK2 hJ1 hJ2 hspc step1 H2
            subst k4
            go_upto_region 18 with fail
            have r1 : ∀ x : KeepT wa, x.val.cell? ⟨wr.heap.size, 1, none⟩ = some (.int .u32 (k : Int)) := fun x => keep_at HNW.out 1 rfl x
            have r2 : ∀ x : KeepT wa, x.val.cell? ⟨wr.heap.size, 2, none⟩ = some (.int .i64 t) := fun x => keep_at HNW.out 2 rfl x
            have r3 : ∀ x : KeepT wa, x.val.cell? ⟨wr.heap.size, 3, none⟩ = some (.int .i64 f) := fun x => keep_at HNW.out 3 rfl x
            have hops : ∀ x : KeepT wa, IsOps x.val (.slice (some ⟨b, off, none⟩) len cap) l := fun x => HL.out.below (HWA.out.trans (x.below.mono HWA.out.size))
            have HOPS := Lib.hid hops
            clear q0 q1 q2 q3 hops
            refine wp_region_keep_tail1 (w0 := wa) (v0 := .slice A4 n0 c4) 18 (by kernel_rfl) (by kernel_rfl) (Below.refl _ _) (fun _ _ _ h => h) (Or.inl ⟨by rfl, fun _ => by rfl⟩) ?_
            simp only [List.take_succ_cons, List.take_zero, List.drop_succ_cons, List.drop_zero, Nat.reduceSub]
            go_simp
            repeat (go_big_quiet_step ((first | (go_at_call_of 23 t; exact keepCall (HJ2.out _ (HOPS.out _))) | (go_at_call_of 23 f; exact keepCall (HJ1.out _ (HOPS.out _))))))
            refine wpQuiet_nil ?_
            intro x
            have hO2 := own_stays HOA.out x.below
            have hb2 := HWA.out.trans (x.below.mono HWA.out.size)
            clear r1 r2 r3 HOPS
            generalize x.val = wz at *
            have HO2 := Lib.hid hO2
            clear hO2
            go_wp2_with (first | (at_builtin; go_must (refine wpList_pushes (m := 3) (news := [.int .i64 37, .int .i64 0, .int .i64 1, .int .u32 (k : Int), .int .i64 5, .int .i64 0, .int .i64 0, .int .u32 (K2 : Int), .int .i64 5, .int .i64 0, .int .i64 0, .int .u32 (K1 : Int)]) _ _ 24 44 HO2.out hb2 (Nat.le_refl _) Try.underlying24 hNI hzI0 hzI1 hzI2 rfl (by decide) rfl rfl rfl rfl rfl (by simp [Value.oneCell']) ?c7 ?_)))
            case c7 => omega
            intro v7 w7 hown7 hb7
            have HO7 := Lib.hid (own_out (new := [⟨37, 0, 1, (k : Int)⟩, ⟨5, 0, 0, (K2 : Int)⟩, ⟨5, 0, 0, (K1 : Int)⟩]) HO2.out HN0.out (by rfl) hown7); have HB7 := Lib.hid hb7
            clear hown7 hb7
            go_wp2_with fail
            go_roundw
            case rel => exact ⟨i + 1, out ++ [⟨37, 0, 1, (k : Int)⟩, ⟨5, 0, 0, (K2 : Int)⟩, ⟨5, 0, 0, (K1 : Int)⟩], s1, by go_num, by omega, H1.out, by rw [HSC.out, HSP.out, List.append_assoc]; rfl, HO7.out, HB7.out⟩
            case measure => simp [intOf]; omega
          by_cases k5 : kind = 5
          · have hst := H2.out
            have hstep : s1.test 53 ⟨kind, k, t, f⟩ = some sp := by rw [← hst, k5]; rfl
            obtain ⟨e1, e2, he1, he2, hspe⟩ := test_env hstep
            obtain ⟨j1, hj1, hd1, hle1⟩ := HFAR.out f e1 he1
            obtain ⟨j2, hj2, hd2, hle2⟩ := HFAR.out t e2 he2
            rw [k5, show szI 5 = 3 from rfl] at hd1 hd2
            have hK1 : jaK l j1 (n0 + 2) = s1.c.length - e1 ∧ n0 + 2 + 1 ≤ sizeL (l.take j1) := by unfold jaK; omega
            have hK2 : jaK l j2 (n0 + 1) = s1.c.length + 1 - e2 ∧ n0 + 1 + 1 ≤ sizeL (l.take j2) := by unfold jaK; omega
            have hJ1 := fun u hu => HJJ.out (n0 + 2) j1 f u hu hj1 hK1.2
            have hJ2 := fun u hu => HJJ.out (n0 + 1) j2 t u hu hj2 hK2.2
            rw [hK1.1, show ((n0 + 2 : Nat) : Int) = (n0 : Int) + 2 from rfl] at hJ1
            rw [hK2.1, show ((n0 + 1 : Nat) : Int) = (n0 : Int) + 1 from rfl] at hJ2
            have hspc : sp.c = ⟨53, 0, 1, (k : Int)⟩ :: ⟨5, 0, 0, ((s1.c.length + 1 - e2 : Nat) : Int)⟩ :: ⟨5, 0, 0, ((s1.c.length - e1 : Nat) : Int)⟩ :: s1.c := by rw [hspe]
            have hle : n0 + 3 ≤ N := by rw [hspc] at HCL; have := HCL.out; simp at this; omega
            have hK1b : s1.c.length - e1 ≤ 4294967295 := by rw [hspc] at HCL; have := HCL.out; simp at this; omega
            have hK2b : s1.c.length + 1 - e2 ≤ 4294967295 := by rw [hspc] at HCL; have := HCL.out; simp at this; omega
            generalize s1.c.length + 1 - e2 = K2 at *
            generalize s1.c.length - e1 = K1 at *
            unfold Ins.value at hJ1 hJ2
            dsimp only at hJ1 hJ2
            have HJ1 := Lib.hid hJ1; have HJ2 := Lib.hid hJ2; have HSP := Lib.hid hspc
            clear hst hstep he1 he2 hspe hj1 hj2 hd1 hd2 hle1 hle2 hK1 hK2 hJ1 hJ2 hspc step1 H2
            subst k5
            go_upto_region 20 with fail
            have r1 : ∀ x : KeepT wa, x.val.cell? ⟨wr.heap.size, 1, none⟩ = some (.int .u32 (k : Int)) := fun x => keep_at HNW.out 1 rfl x
            have r2 : ∀ x : KeepT wa, x.val.cell? ⟨wr.heap.size, 2, none⟩ = some (.int .i64 t) := fun x => keep_at HNW.out 2 rfl x
            have r3 : ∀ x : KeepT wa, x.val.cell? ⟨wr.heap.size, 3, none⟩ = some (.int .i64 f) := fun x => keep_at HNW.out 3 rfl x
            have hops : ∀ x : KeepT wa, IsOps x.val (.slice (some ⟨b, off, none⟩) len cap) l := fun x => HL.out.below (HWA.out.trans (x.below.mono HWA.out.size))
            have HOPS := Lib.hid hops
            clear q0 q1 q2 q3 hops
            refine wp_region_keep_tail1 (w0 := wa) (v0 := .slice A4 n0 c4) 18 (by kernel_rfl) (by kernel_rfl) (Below.refl _ _) (fun _ _ _ h => h) (Or.inl ⟨by rfl, fun _ => by rfl⟩) ?_
            simp only [List.take_succ_cons, List.take_zero, List.drop_succ_cons, List.drop_zero, Nat.reduceSub]
            go_simp
            repeat (go_big_quiet_step ((first | (go_at_call_of 23 t; exact keepCall (HJ2.out _ (HOPS.out _))) | (go_at_call_of 23 f; exact keepCall (HJ1.out _ (HOPS.out _))))))
            refine wpQuiet_nil ?_
            intro x
            have hO2 := own_stays HOA.out x.below
            have hb2 := HWA.out.trans (x.below.mono HWA.out.size)
            clear r1 r2 r3 HOPS
            generalize x.val = wz at *
            have HO2 := Lib.hid hO2
            clear hO2
            go_wp2_with (first | (at_builtin; go_must (refine wpList_pushes (m := 3) (news := [.int .i64 53, .int .i64 0, .int .i64 1, .int .u32 (k : Int), .int .i64 5, .int .i64 0, .int .i64 0, .int .u32 (K2 : Int), .int .i64 5, .int .i64 0, .int .i64 0, .int .u32 (K1 : Int)]) _ _ 24 44 HO2.out hb2 (Nat.le_refl _) Try.underlying24 hNI hzI0 hzI1 hzI2 rfl (by decide) rfl rfl rfl rfl rfl (by simp [Value.oneCell']) ?c7 ?_)))
            case c7 => omega
            intro v7 w7 hown7 hb7
            have HO7 := Lib.hid (own_out (new := [⟨53, 0, 1, (k : Int)⟩, ⟨5, 0, 0, (K2 : Int)⟩, ⟨5, 0, 0, (K1 : Int)⟩]) HO2.out HN0.out (by rfl) hown7); have HB7 := Lib.hid hb7
            clear hown7 hb7
            go_wp2_with fail
            go_roundw
            case rel => exact ⟨i + 1, out ++ [⟨53, 0, 1, (k : Int)⟩, ⟨5, 0, 0, (K2 : Int)⟩, ⟨5, 0, 0, (K1 : Int)⟩], s1, by go_num, by omega, H1.out, by rw [HSC.out, HSP.out, List.append_assoc]; rfl, HO7.out, HB7.out⟩
            case measure => simp [intOf]; omega
          by_cases k7 : kind = 7
          · have hst := H2.out
            have hstep : s1.way t = some sp := by rw [← hst, k7]; rfl
            obtain ⟨e2, he2, hspe⟩ := way_env hstep
            obtain ⟨j2, hj2, hd2, hle2⟩ := HFAR.out t e2 he2
            rw [k7, show szI 7 = 1 from rfl] at hd2
            have hK2 : jaK l j2 n0 = s1.c.length - e2 ∧ n0 + 1 ≤ sizeL (l.take j2) := by unfold jaK; omega
            have hJ2 := fun u hu => HJJ.out n0 j2 t u hu hj2 hK2.2
            rw [hK2.1] at hJ2
            have hspc : sp.c = ⟨5, 0, 0, ((s1.c.length - e2 : Nat) : Int)⟩ :: s1.c := by rw [hspe]; rfl
            have hle : n0 + 1 ≤ N := by rw [hspc] at HCL; have := HCL.out; simp at this; omega
            generalize s1.c.length - e2 = K2 at *
            unfold Ins.value at hJ2
            dsimp only at hJ2
            have HJ2 := Lib.hid hJ2; have HSP := Lib.hid hspc
            clear hst hstep he2 hspe hj2 hd2 hle2 hK2 hJ2 hspc step1 H2
            subst k7
            go_upto_region 22 with fail
            go_wp2_with fail
            refine (HJ2.out _ (HL.out.below HWA.out)).mono ?_
            rintro e w5 ⟨rfl, hb5⟩
            have hO5 := own_stays HOA.out hb5
            have hb2 := HWA.out.trans (hb5.mono HWA.out.size)
            have HO5 := Lib.hid hO5
            clear hO5 hb5 q0 q1 q2 q3
            go_wp2_with (first | (at_builtin; go_must (refine wpList_pushes (m := 1) (news := Ins.cells ⟨5, 0, 0, (K2 : Int)⟩) _ _ 24 44 HO5.out hb2 (Nat.le_refl _) Try.underlying24 hNI hzI0 hzI1 hzI2 rfl (by decide) rfl rfl rfl rfl rfl (by simp [Ins.cells, Value.oneCell']) ?c7 ?_)))
            case c7 => omega
            intro v7 w7 hown7 hb7
            have HO7 := Lib.hid (own_out (new := [⟨5, 0, 0, (K2 : Int)⟩]) HO5.out HN0.out (by rfl) hown7); have HB7 := Lib.hid hb7
            clear hown7 hb7
            go_wp2_with fail
            go_roundw
            case rel => exact ⟨i + 1, out ++ [⟨5, 0, 0, (K2 : Int)⟩], s1, by go_num, by omega, H1.out, by rw [HSC.out, HSP.out, List.append_assoc]; rfl, HO7.out, HB7.out⟩
            case measure => simp [intOf]; omega
          have k6 : kind = 6 := by
            have h := H2.out
            unfold Asm.step at h
            dsimp only at h
            by_cases k6 : kind = 6
            · exact k6
            · rw [if_neg k6, if_neg k1, if_neg k2, if_neg k8, if_neg k7, if_neg k3, if_neg k4, if_neg k5] at h
              cases h
          have hspc : sp.c = s1.c := by
            have h := H2.out
            rw [k6] at h
            injection h with h
            rw [← h]
          have HSP := Lib.hid hspc
          have hO6 := HOA.out
          have HO6 : Hid (wa.ownsRow w.heap.size 44 4 (.slice A4 n0 c4) out.length (insCells out)) := Lib.hid (by rw [HN0.out]; exact hO6)
          clear hspc hO6 step1 H2 k1 k2 k8 k3 k4 k5 k7
          subst k6
          go_wp2_with fail
          go_roundw
          case rel => exact ⟨i + 1, out, s1, by go_num, by omega, H1.out, by rw [HSC.out, HSP.out], HO6.out, HWA.out⟩
          case measure => simp [intOf]; omega
        · obtain rfl : i = len := by omega
          rw [List.drop_of_length_le (by have := HLEN.out; omega)] at hsp
          injection hsp with hsp
          have hout : s.c = out := by rw [hsc, ← hsp]; exact List.append_nil _
          have hI : IsInsns wr (.slice A4 out.length c4) s.c := by
            rw [hout]
            refine OwnIns.reads hown (fun j hj => ?_)
            rw [← hout] at hj
            exact (asmA_ok l s HK.out hN HSS.out).1.2 j hj
          have HI := Lib.hid hI; have HWR := Lib.hid hwr
          clear hI hown hsc hout hwr hsp
          go_wp2_with fail
          go_ret2
          exact ⟨RefAsmPost.of_ok HSS.out (by have := HNN.out; omega) HI.out, HWR.out⟩
end Go.Proofs.Ytnlmdajoifjddaa
