/- Lists of names as bytes: how they are read; plain. -/
import Derived.Test.YtfpfcjgdihlieaaEnK
import Derived.Test.YtfpfcjgdihlieaaLeCut
namespace Go.Proofs.Ytfpfcjgdihlieaa
set_option linter.unusedVariables false

def numA (s : ByteArray) (p k : Nat) : Int := (getL (cutL s p k) : Nat)
def vrAt (s : ByteArray) (p : Nat) : Vr := ⟨numA s p 2, numA s (p + 2) 2, numA s (p + 4) 2, numA s (p + 6) 2, numA s (p + 8) 2⟩
def versL (s : ByteArray) (p n : Nat) : List Vr := (List.range n).map fun j => vrAt s (p + 10 * j)
/-- an entry that stands at a place, and the place behind it -/
def prEnt (s : ByteArray) (p : Nat) : Option (En × Nat) :=
  if cutE s p = 0 then
    (if (cutT s p).toNat + 5 ≤ s.size then
      (if (cutT s p).toNat + 5 + 10 * getL (cutL s ((cutT s p).toNat + 4) 1) ≤ s.size then
        some (⟨cutS s p, numA s (cutT s p).toNat 2, numA s ((cutT s p).toNat + 2) 2, versL s ((cutT s p).toNat + 5) (getL (cutL s ((cutT s p).toNat + 4) 1))⟩, (cutT s p).toNat + 5 + 10 * getL (cutL s ((cutT s p).toNat + 4) 1))
      else none)
    else none)
  else none
def prEnts (s : ByteArray) : Nat → Nat → Option (List En × Nat)
  | 0, p => some ([], p)
  | n + 1, p => match prEnt s p with
    | none => none
    | some (e, q) => match prEnts s n q with
      | none => none
      | some (l, r) => some (e :: l, r)
def parseE (s : ByteArray) : Option (List En × Nat) := if 1 ≤ s.size then prEnts s (getL (cutL s 0 1)) 1 else none
/-- what the bytes are -/
def unpE (s : ByteArray) : Option (List En) := match parseE s with
  | none => none
  | some (l, _) => if rightE l = true ∧ (ByteArray.mk (packB l).toArray) = s then some l else none

/-! what is written is read again -/
theorem cutL_at (A X B : List UInt8) (k : Nat) (hk : X.length = k) : cutL ⟨(A ++ X ++ B).toArray⟩ A.length k = X := by
  unfold cutL
  simp only [List.append_assoc]
  rw [List.drop_left, ← hk, List.take_left]
theorem numA_at (A B : List UInt8) (n : Int) (k : Nat) (h0 : 0 ≤ n) (hn : n.toNat < 256 ^ k) : numA ⟨(A ++ putL n.toNat k ++ B).toArray⟩ A.length k = n := by
  unfold numA
  rw [cutL_at A _ B k (putL_length _ _), getL_putL, Nat.mod_eq_of_lt hn]
  omega
theorem vrAt_at (A B : List UInt8) (v : Vr) (h : verOk v = true) : vrAt ⟨(A ++ verB v ++ B).toArray⟩ A.length = v := by
  have hf := verOk_fit v h
  obtain ⟨no, src, flt, byt, ins⟩ := v
  have e2 : (2 : Int).toNat = 2 := rfl
  rw [e2] at hf
  simp only [List.mem_cons, List.not_mem_nil, or_false, forall_eq_or_imp, forall_eq] at hf
  obtain ⟨f0, f1, f2, f3, f4⟩ := hf
  have hv : verB ⟨no, src, flt, byt, ins⟩ = putL no.toNat 2 ++ (putL src.toNat 2 ++ (putL flt.toNat 2 ++ (putL byt.toNat 2 ++ putL ins.toNat 2))) := by
    simp [verB, fieldsL]
  rw [hv]
  unfold vrAt
  have l0 := putL_length no.toNat 2
  have l1 := putL_length src.toNat 2
  have l2 := putL_length flt.toNat 2
  have l3 := putL_length byt.toNat 2
  have a0 := numA_at A (putL src.toNat 2 ++ (putL flt.toNat 2 ++ (putL byt.toNat 2 ++ putL ins.toNat 2)) ++ B) no 2 f0.1 f0.2
  have a1 := numA_at (A ++ putL no.toNat 2) (putL flt.toNat 2 ++ (putL byt.toNat 2 ++ putL ins.toNat 2) ++ B) src 2 f1.1 f1.2
  have a2 := numA_at (A ++ putL no.toNat 2 ++ putL src.toNat 2) (putL byt.toNat 2 ++ putL ins.toNat 2 ++ B) flt 2 f2.1 f2.2
  have a3 := numA_at (A ++ putL no.toNat 2 ++ putL src.toNat 2 ++ putL flt.toNat 2) (putL ins.toNat 2 ++ B) byt 2 f3.1 f3.2
  have a4 := numA_at (A ++ putL no.toNat 2 ++ putL src.toNat 2 ++ putL flt.toNat 2 ++ putL byt.toNat 2) B ins 2 f4.1 f4.2
  simp only [List.length_append, l0, l1, l2, l3, List.append_assoc] at a0 a1 a2 a3 a4 ⊢
  rw [a0, a1, show A.length + 4 = A.length + (2 + 2) by omega, a2, show A.length + 6 = A.length + (2 + (2 + 2)) by omega, a3, show A.length + 8 = A.length + (2 + (2 + (2 + 2))) by omega, a4]
theorem versL_cons (s : ByteArray) (p n : Nat) : versL s p (n + 1) = vrAt s p :: versL s (p + 10) n := by
  unfold versL
  rw [List.range_succ_eq_map, List.map_cons, List.map_map]
  congr 1
  apply List.map_congr_left
  intro j _
  simp only [Function.comp]
  rw [show p + 10 * (j + 1) = p + 10 + 10 * j by omega]
theorem verB_len (v : Vr) : (verB v).length = 10 := by unfold verB; rw [fieldsL_len]; rfl
theorem versL_at (B : List UInt8) : ∀ (l : List Vr) (A : List UInt8), (∀ v ∈ l, verOk v = true) → versL ⟨(A ++ versB l ++ B).toArray⟩ A.length l.length = l
  | [], A, _ => rfl
  | v :: l, A, h => by
    rw [List.length_cons, versL_cons]
    have e1 : A ++ versB (v :: l) ++ B = A ++ verB v ++ (versB l ++ B) := by simp [versB]
    have e2 : A ++ versB (v :: l) ++ B = (A ++ verB v) ++ versB l ++ B := by simp [versB]
    have h1 := vrAt_at A (versB l ++ B) v (h v (by simp))
    have h2 := versL_at B l (A ++ verB v) (fun x hx => h x (by simp [hx]))
    rw [List.length_append, verB_len] at h2
    rw [← e1] at h1
    rw [← e2] at h2
    rw [h1, h2]
theorem cut_at (A B : List UInt8) (n : ByteArray) (hn : n.size ≤ 65535) : cutE ⟨(A ++ (textL n).data.toList ++ B).toArray⟩ A.length = 0 ∧ cutT ⟨(A ++ (textL n).data.toList ++ B).toArray⟩ A.length = ((A.length + 2 + n.size : Nat) : Int) ∧ cutS ⟨(A ++ (textL n).data.toList ++ B).toArray⟩ A.length = n := by
  have hz : (ByteArray.mk (A ++ (textL n).data.toList ++ B).toArray).size = A.length + (2 + n.size) + B.length := by
    rw [ba_size, List.length_append, List.length_append, ba_len, textL_size]
  have ht : (textL n).data.toList = putL n.size 2 ++ n.data.toList := by simp [textL]
  have hE : getE ⟨(A ++ (textL n).data.toList ++ B).toArray⟩ A.length 2 = 0 := by
    unfold getE; rw [hz]; rw [if_pos (by omega), if_pos (by omega)]
  have hc : cutL ⟨(A ++ (textL n).data.toList ++ B).toArray⟩ A.length 2 = putL n.size 2 := by
    rw [ht, show A ++ (putL n.size 2 ++ n.data.toList) ++ B = A ++ putL n.size 2 ++ (n.data.toList ++ B) by simp]
    exact cutL_at A _ _ 2 (putL_length _ _)
  have hg : getL (putL n.size 2) = n.size := by rw [getL_putL, Nat.mod_eq_of_lt (by rw [show (256 : Nat) ^ 2 = 65536 by decide]; omega)]
  have hN : getN ⟨(A ++ (textL n).data.toList ++ B).toArray⟩ A.length 2 = (n.size : Nat) := by
    unfold getN
    rw [if_pos hE, Int.toNat_natCast, show (2 : Int).toNat = 2 from rfl, hc, hg]
  have hC : cutE ⟨(A ++ (textL n).data.toList ++ B).toArray⟩ A.length = 0 := by
    unfold cutE
    rw [hE, if_neg (by decide), hN, if_pos (by rw [hz]; omega)]
  refine ⟨hC, ?_, ?_⟩
  · unfold cutT
    rw [if_pos hC, hN]; omega
  · unfold cutS
    rw [if_pos hC, Int.toNat_natCast, hc, hg]
    have : cutL ⟨(A ++ (textL n).data.toList ++ B).toArray⟩ (A.length + 2) n.size = n.data.toList := by
      rw [ht, show A ++ (putL n.size 2 ++ n.data.toList) ++ B = (A ++ putL n.size 2) ++ n.data.toList ++ B by simp]
      have := cutL_at (A ++ putL n.size 2) n.data.toList B n.size (ba_len n)
      rwa [List.length_append, putL_length] at this
    rw [this, ← ba_eq]
theorem prEnt_at (A B : List UInt8) (e : En) (h : entOk e = true) : prEnt ⟨(A ++ entB e ++ B).toArray⟩ A.length = some (e, A.length + (entB e).length) := by
  obtain ⟨⟨z1, z2, z3, z4⟩, hc, hn, hv⟩ := entOk_facts e h
  obtain ⟨name, cur, nxt, vers⟩ := e
  simp only at z1 z2 z3 z4 hc hn hv
  have hl := entB_len ⟨name, cur, nxt, vers⟩
  simp only at hl
  obtain ⟨T, hT⟩ : ∃ T, (textL name).data.toList = T := ⟨_, rfl⟩
  have hTl : T.length = 2 + name.size := by rw [← hT, ba_len, textL_size]
  have hEB : entB ⟨name, cur, nxt, vers⟩ = T ++ (putL cur.toNat 2 ++ (putL nxt.toNat 2 ++ (putL vers.length 1 ++ versB vers))) := by
    unfold entB; simp only [hT]; simp [fieldsL]
  have hsz : (ByteArray.mk (A ++ entB ⟨name, cur, nxt, vers⟩ ++ B).toArray).size = A.length + (2 + name.size + 5 + 10 * vers.length) + B.length := by
    rw [ba_size, List.length_append, List.length_append, hl]
  have h256 : (256 : Nat) ^ 2 = 65536 := by decide
  have hcut := cut_at A (putL cur.toNat 2 ++ (putL nxt.toNat 2 ++ (putL vers.length 1 ++ versB vers)) ++ B) name (by omega)
  have l0 := putL_length cur.toNat 2
  have l1 := putL_length nxt.toNat 2
  have l2 := putL_length vers.length 1
  have a0 := numA_at (A ++ T) (putL nxt.toNat 2 ++ (putL vers.length 1 ++ versB vers) ++ B) cur 2 hc.1 (by omega)
  have a1 := numA_at (A ++ T ++ putL cur.toNat 2) (putL vers.length 1 ++ versB vers ++ B) nxt 2 hn.1 (by omega)
  have a2 := cutL_at (A ++ T ++ putL cur.toNat 2 ++ putL nxt.toNat 2) (putL vers.length 1) (versB vers ++ B) 1 l2
  have a3 := versL_at B vers (A ++ T ++ putL cur.toNat 2 ++ putL nxt.toNat 2 ++ putL vers.length 1) hv
  rw [hT] at hcut
  rw [hEB] at hsz ⊢
  simp only [List.length_append, l0, l1, l2, hTl, List.append_assoc] at a0 a1 a2 a3 hcut hsz ⊢
  obtain ⟨c1, c2, c3⟩ := hcut
  have hp : (cutT ⟨(A ++ (T ++ (putL cur.toNat 2 ++ (putL nxt.toNat 2 ++ (putL vers.length 1 ++ (versB vers ++ B)))))).toArray⟩ A.length).toNat = A.length + (2 + name.size) := by rw [c2]; omega
  have hg : getL (putL vers.length 1) = vers.length := by rw [getL_putL, Nat.mod_eq_of_lt (by rw [show (256 : Nat) ^ 1 = 256 by decide]; omega)]
  unfold prEnt
  rw [if_pos c1, hp, hsz, if_pos (by omega), show A.length + (2 + name.size) + 4 = A.length + (2 + name.size + (2 + 2)) by omega, a2, hg, if_pos (by omega), c3, a0, show A.length + (2 + name.size) + 2 = A.length + (2 + name.size + 2) by omega, a1,
    show A.length + (2 + name.size) + 5 = A.length + (2 + name.size + (2 + (2 + 1))) by omega, a3, versB_len]
  congr 2
  omega
theorem prEnts_at (B : List UInt8) : ∀ (l : List En) (A : List UInt8), (∀ e ∈ l, entOk e = true) → prEnts ⟨(A ++ l.flatMap entB ++ B).toArray⟩ l.length A.length = some (l, A.length + (l.flatMap entB).length)
  | [], A, _ => by simp [prEnts]
  | e :: l, A, h => by
    have e1 : A ++ (e :: l).flatMap entB ++ B = A ++ entB e ++ (l.flatMap entB ++ B) := by simp
    have e2 : A ++ (e :: l).flatMap entB ++ B = (A ++ entB e) ++ l.flatMap entB ++ B := by simp
    have h1 := prEnt_at A (l.flatMap entB ++ B) e (h e (by simp))
    have h2 := prEnts_at B l (A ++ entB e) (fun x hx => h x (by simp [hx]))
    rw [← e1] at h1
    rw [← e2, List.length_append] at h2
    rw [List.length_cons, prEnts, h1]
    simp only
    rw [h2]
    simp only [List.flatMap_cons, List.length_append]
    rw [Nat.add_assoc]
theorem parse_pack (l : List En) (h : rightE l = true) : parseE ⟨(packB l).toArray⟩ = some (l, (packB l).length) := by
  unfold rightE at h
  rw [Bool.and_eq_true, decide_eq_true_eq] at h
  have hent := okE_mem l none h.2
  have hp : packB l = [UInt8.ofNat (l.length % 256)] ++ l.flatMap entB := by
    unfold packB fieldsL
    simp [putL]
  have h1 := prEnts_at [] l [UInt8.ofNat (l.length % 256)] hent
  rw [List.append_nil, ← hp] at h1
  have hc : cutL ⟨(packB l).toArray⟩ 0 1 = [UInt8.ofNat (l.length % 256)] := by
    unfold cutL
    rw [hp]; simp
  have hg : getL [UInt8.ofNat (l.length % 256)] = l.length := by
    simp only [getL, u8_mod]; omega
  unfold parseE
  rw [hc, hg]
  rw [List.length_singleton] at h1
  rw [if_pos (by rw [ba_size, hp]; simp), h1, hp, List.length_append, List.length_singleton]
theorem unp_pack (l : List En) (h : rightE l = true) : unpE ⟨(packB l).toArray⟩ = some l := by
  unfold unpE
  rw [parse_pack l h]
  exact if_pos ⟨h, rfl⟩
theorem unp_some {s : ByteArray} {l : List En} (h : unpE s = some l) : rightE l = true ∧ (ByteArray.mk (packB l).toArray) = s := by
  unfold unpE at h
  split at h
  · cases h
  · split at h
    · rename_i hh
      injection h with h
      subst h
      exact hh
    · cases h
end Go.Proofs.Ytfpfcjgdihlieaa
