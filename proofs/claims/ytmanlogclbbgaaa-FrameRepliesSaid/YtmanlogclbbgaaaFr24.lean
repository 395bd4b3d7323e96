/- frame.ReadReply: what reads the fields. -/
import Derived.Test.YtmanlogclbbgaaaFr23
import Derived.Test.YtmanlogclbbgaaaResRow
import Derived.Deep.RegionLaw
namespace Go.Proofs.Ytmanlogclbbgaaa
open Go.RowKit
set_option linter.unusedVariables false
set_option linter.unusedSimpArgs false

def rpZ : Rp := ⟨0, 0, 0, ⟨#[]⟩, 0, 0, []⟩
structure Grew2 (R B : Nat) (w w' : World) : Prop where
  os : w'.os = w.os
  tape : w'.tape = w.tape
  output : w'.output = w.output
  size : w.heap.size ≤ w'.heap.size
  block : ∀ k, k < w.heap.size → k ≠ R → k ≠ B → w'.heap[k]? = w.heap[k]?
theorem Grew2.of {R B : Nat} {w w1 : World} (h : w.grownBy w1 (some R)) : Grew2 R B w w1 :=
  ⟨h.os, h.tape, h.output, h.size, fun k hk h1 _ => h.block k hk (fun e => absurd (Option.some.inj e) (by omega))⟩
theorem Grew2.grown {R B : Nat} {w w1 w2 : World} (h1 : Grew2 R B w w1) (h2 : w1.grownBy w2 (some R)) : Grew2 R B w w2 :=
  ⟨h2.os.trans h1.os, h2.tape.trans h1.tape, h2.output.trans h1.output, Nat.le_trans h1.size h2.size, fun k hk hr hb => (h2.block k (Nat.lt_of_lt_of_le hk h1.size) (fun e => absurd (Option.some.inj e) (by omega))).trans (h1.block k hk hr hb)⟩
theorem Grew2.below {R B b : Nat} {w w1 w2 : World} (h1 : Grew2 R B w w1) (h2 : Below b w1 w2) (hb : w.heap.size ≤ b) : Grew2 R B w w2 :=
  ⟨h2.os.trans h1.os, h2.tape.trans h1.tape, h2.output.trans h1.output, Nat.le_trans h1.size h2.size, fun k hk hr hbb => (h2.block k (Nat.lt_of_lt_of_le hk hb)).trans (h1.block k hk hr hbb)⟩
theorem Grew2.set {R B : Nat} {w w1 : World} (h1 : Grew2 R B w w1) (j : Nat) (v : Value) : Grew2 R B w (w1.setCell ⟨B, j, none⟩ v) :=
  ⟨h1.os, h1.tape, h1.output, by rw [World.size_setCell]; exact h1.size, fun k hk hr hb => (Below.heap_setCell w1 ⟨B, j, none⟩ v k (by show k ≠ B; exact hb)).trans (h1.block k hk hr hb)⟩
def boxA (r : Rp) (v : Value) : Obj := .cells #[.int .i64 r.why, .int .i64 r.at_, .int .i64 r.no, .string r.source, .int .i64 r.insns, .int .u32 r.action, v] 37 (0, 0)
def BoxA (w : World) (b B : Nat) (r : Rp) : Prop := ∃ v xs, w.heap[B]? = some (boxA r v) ∧ w.ownsRow b 66 3 v r.lines.length xs ∧ RowV w b xs r.lines
def RpPost (R B : Nat) (t : ByteArray) (o : Option (Rp × Nat)) (w : World) (e : Ending) (w' : World) : Prop :=
  Grew2 R B w w' ∧ ∃ r', r'.bounded ∧ BoxA w' w.heap.size B r' ∧ match o with
    | some (r, q) => e = .returned (.tuple #[]) ∧ r' = r ∧ Rd R t q w'
    | none => e = .panicked endP
theorem rpZ_bounded : rpZ.bounded := by
  unfold Rp.bounded rpZ i64ok; simp
  exact Nat.zero_le _
theorem boxZ {w' : World} {B b : Nat} (h : w'.heap[B]? = some (boxA rpZ (.slice none 0 0))) : BoxA w' b B rpZ :=
  ⟨_, [], h, World.ownsRow_nil _ _ _ _, rfl, fun j hj => by simp [rpZ] at hj⟩
/-- a way that ends ahead of the box's writing -/
theorem rpBad {R B : Nat} {t : ByteArray} {w w' : World} (hB : w.heap[B]? = some (boxA rpZ (.slice none 0 0))) (hRB : B ≠ R) (hg : w.grownBy w' (some R)) : RpPost R B t none w (.panicked endP) w' :=
  ⟨Grew2.of hg, rpZ, rpZ_bounded, boxZ ((hg.block B (lt_of_block hB) (fun e => absurd (Option.some.inj e) (by omega))).trans hB), rfl⟩
set_option maxRecDepth 100000 in
set_option maxHeartbeats 4000000 in
theorem frReplyFields (t : ByteArray) (R B : Nat) (w : World) (h : Rd R t 0 w) (hB : w.heap[B]? = some (boxA rpZ (.slice none 0 0))) (hs : t.size ≤ 3000) :
    Calls Try.prog 41 #[.pointer (some ⟨R, 0, none⟩), .pointer (some ⟨B, 0, none⟩)] w (RpPost R B t (prRp t) w) := by
  have hRB : B ≠ R := by
    rintro rfl
    unfold Rd at h
    rw [hB] at h
    injection h with h
    injection h with _ h
    exact absurd h (by decide)
  have HB := Lib.hid hB
  clear hB
  have hPR : prRp t = ((prNum t 0 2).bind fun a => (prNum t a.2 2).bind fun b => (prNum t b.2 2).bind fun c => (prTxt t c.2).bind fun d => (prNum t d.2 2).bind fun e => (prNum t e.2 4).bind fun f => some ((⟨a.1, b.1, c.1, d.1, e.1, f.1, []⟩ : Rp), f.2)).bind fun h => (prNum t h.2 1).bind fun c => (prLns t c.1.toNat c.2).bind fun l => some (h.1.with_ l.1, l.2) := rfl
  have hHD : prHead t 0 = ((prNum t 0 2).bind fun a => (prNum t a.2 2).bind fun b => (prNum t b.2 2).bind fun c => (prTxt t c.2).bind fun d => (prNum t d.2 2).bind fun e => (prNum t e.2 4).bind fun f => some ((⟨a.1, b.1, c.1, d.1, e.1, f.1, []⟩ : Rp), f.2)) := rfl
  generalize prRp t = PR at *
  by_cases c0 : 0 + 2 ≤ t.size
  case neg =>
    rw [prNum_no c0] at hPR
    have hPN : PR = none := hPR
    clear hPR hHD
    subst hPN
    have C := Lib.hid c0
    clear c0
    go_enter Try.func41, Try.ntmps41
    go_wp2_with fail
    refine (rdNumber_bad t 0 2 R _ h hs (by omega) (by omega) (by omega) C.out).mono ?_
    rintro e' wz ⟨rfl, hgz⟩
    go_wp2_with fail
    exact ⟨rfl, rpBad (t := t) HB.out hRB hgz⟩
  rw [prNum_yes (by omega) c0] at hPR hHD
  simp only [Option.bind_some, Nat.reduceAdd, Nat.zero_add] at hPR hHD
  have HN0 := Lib.hid (fun u hu => rdNumber_ok t 0 2 R u hu hs (by omega) (by omega) c0)
  obtain ⟨v0, hv0⟩ : ∃ v, numA t 0 2 = v := ⟨_, rfl⟩
  rw [hv0] at HN0 hPR hHD
  clear hv0
  by_cases c1 : 2 + 2 ≤ t.size
  case neg =>
    rw [prNum_no c1] at hPR
    have hPN : PR = none := hPR
    clear hPR hHD
    subst hPN
    have C := Lib.hid c1
    clear c1
    go_enter Try.func41, Try.ntmps41
    go_wp2_with fail
    refine (HN0.out _ h).mono ?_
    rintro e' w2 ⟨rfl, hrd2, hg2⟩
    have HG2 := Lib.hid hg2
    clear hg2
    go_wp2_with fail
    refine (rdNumber_bad t 2 2 R _ hrd2 hs (by omega) (by omega) (by omega) C.out).mono ?_
    rintro e' wz ⟨rfl, hgz⟩
    go_wp2_with fail
    exact ⟨rfl, rpBad (t := t) HB.out hRB (grown_trans HG2.out hgz)⟩
  rw [prNum_yes (by omega) c1] at hPR hHD
  simp only [Option.bind_some, Nat.reduceAdd, Nat.zero_add] at hPR hHD
  have HN1 := Lib.hid (fun u hu => rdNumber_ok t 2 2 R u hu hs (by omega) (by omega) c1)
  obtain ⟨v1, hv1⟩ : ∃ v, numA t 2 2 = v := ⟨_, rfl⟩
  rw [hv1] at HN1 hPR hHD
  clear hv1
  by_cases c2 : 4 + 2 ≤ t.size
  case neg =>
    rw [prNum_no c2] at hPR
    have hPN : PR = none := hPR
    clear hPR hHD
    subst hPN
    have C := Lib.hid c2
    clear c2
    go_enter Try.func41, Try.ntmps41
    go_wp2_with fail
    refine (HN0.out _ h).mono ?_
    rintro e' w2 ⟨rfl, hrd2, hg2⟩
    have HG2 := Lib.hid hg2
    clear hg2
    go_wp2_with fail
    refine (HN1.out _ hrd2).mono ?_
    rintro e' w3 ⟨rfl, hrd3, hg3⟩
    have HG3 := Lib.hid (grown_trans HG2.out hg3)
    clear hg3 HG2
    go_wp2_with fail
    refine (rdNumber_bad t 4 2 R _ hrd3 hs (by omega) (by omega) (by omega) C.out).mono ?_
    rintro e' wz ⟨rfl, hgz⟩
    go_wp2_with fail
    exact ⟨rfl, rpBad (t := t) HB.out hRB (grown_trans HG3.out hgz)⟩
  rw [prNum_yes (by omega) c2] at hPR hHD
  simp only [Option.bind_some, Nat.reduceAdd, Nat.zero_add] at hPR hHD
  have HN2 := Lib.hid (fun u hu => rdNumber_ok t 4 2 R u hu hs (by omega) (by omega) c2)
  obtain ⟨v2, hv2⟩ : ∃ v, numA t 4 2 = v := ⟨_, rfl⟩
  rw [hv2] at HN2 hPR hHD
  clear hv2
  by_cases c3 : cutE t (6 : Nat) = 0
  case neg =>
    rw [prTxt_no c3] at hPR
    have hPN : PR = none := hPR
    clear hPR hHD
    subst hPN
    have C := Lib.hid c3
    clear c3
    go_enter Try.func41, Try.ntmps41
    go_wp2_with fail
    refine (HN0.out _ h).mono ?_
    rintro e' w2 ⟨rfl, hrd2, hg2⟩
    have HG2 := Lib.hid hg2
    clear hg2
    go_wp2_with fail
    refine (HN1.out _ hrd2).mono ?_
    rintro e' w3 ⟨rfl, hrd3, hg3⟩
    have HG3 := Lib.hid (grown_trans HG2.out hg3)
    clear hg3 HG2
    go_wp2_with fail
    refine (HN2.out _ hrd3).mono ?_
    rintro e' w4 ⟨rfl, hrd4, hg4⟩
    have HG4 := Lib.hid (grown_trans HG3.out hg4)
    clear hg4 HG3
    go_wp2_with fail
    refine (rdText_bad t 6 R _ hrd4 hs (by omega) C.out).mono ?_
    rintro e' wz ⟨rfl, hgz⟩
    go_wp2_with fail
    exact ⟨rfl, rpBad (t := t) HB.out hRB (grown_trans HG4.out hgz)⟩
  rw [prTxt_yes c3] at hPR hHD
  simp only [Option.bind_some, Nat.reduceAdd, Nat.zero_add] at hPR hHD
  have HN3 := Lib.hid (fun u hu => rdText_ok t 6 R u hu hs (by omega) c3)
  have l1 := cutP_le2 t 6 c3
  obtain ⟨p1, hp1⟩ : ∃ p1, cutP t 6 = p1 := ⟨_, rfl⟩
  rw [show (cutT t (6 : Nat)).toNat = cutP t 6 from rfl, hp1] at HN3
  rw [hp1] at l1
  try rw [hp1] at hPR hHD
  obtain ⟨v3, hv3⟩ : ∃ v, cutS t (6 : Nat) = v := ⟨_, rfl⟩
  rw [hv3] at HN3 hPR hHD
  clear hp1 c3 hv3
  by_cases c4 : p1 + 2 ≤ t.size
  case neg =>
    rw [prNum_no c4] at hPR
    have hPN : PR = none := hPR
    clear hPR hHD
    subst hPN
    have C := Lib.hid c4
    clear c4
    go_enter Try.func41, Try.ntmps41
    go_wp2_with fail
    refine (HN0.out _ h).mono ?_
    rintro e' w2 ⟨rfl, hrd2, hg2⟩
    have HG2 := Lib.hid hg2
    clear hg2
    go_wp2_with fail
    refine (HN1.out _ hrd2).mono ?_
    rintro e' w3 ⟨rfl, hrd3, hg3⟩
    have HG3 := Lib.hid (grown_trans HG2.out hg3)
    clear hg3 HG2
    go_wp2_with fail
    refine (HN2.out _ hrd3).mono ?_
    rintro e' w4 ⟨rfl, hrd4, hg4⟩
    have HG4 := Lib.hid (grown_trans HG3.out hg4)
    clear hg4 HG3
    go_wp2_with fail
    refine (HN3.out _ hrd4).mono ?_
    rintro e' w5 ⟨rfl, hrd5, hg5⟩
    have HG5 := Lib.hid (grown_trans HG4.out hg5)
    clear hg5 HG4
    go_wp2_with fail
    refine (rdNumber_bad t p1 2 R _ hrd5 hs (by omega) (by omega) (by omega) C.out).mono ?_
    rintro e' wz ⟨rfl, hgz⟩
    go_wp2_with fail
    exact ⟨rfl, rpBad (t := t) HB.out hRB (grown_trans HG5.out hgz)⟩
  rw [prNum_yes (by omega) c4] at hPR hHD
  simp only [Option.bind_some, Nat.reduceAdd, Nat.zero_add] at hPR hHD
  have HN4 := Lib.hid (fun u hu => rdNumber_ok t p1 2 R u hu hs (by omega) (by omega) c4)
  obtain ⟨v4, hv4⟩ : ∃ v, numA t p1 2 = v := ⟨_, rfl⟩
  rw [hv4] at HN4 hPR hHD
  clear hv4
  by_cases c5 : p1 + 2 + 4 ≤ t.size
  case neg =>
    rw [prNum_no c5] at hPR
    have hPN : PR = none := hPR
    clear hPR hHD
    subst hPN
    have C := Lib.hid c5
    clear c5
    go_enter Try.func41, Try.ntmps41
    go_wp2_with fail
    refine (HN0.out _ h).mono ?_
    rintro e' w2 ⟨rfl, hrd2, hg2⟩
    have HG2 := Lib.hid hg2
    clear hg2
    go_wp2_with fail
    refine (HN1.out _ hrd2).mono ?_
    rintro e' w3 ⟨rfl, hrd3, hg3⟩
    have HG3 := Lib.hid (grown_trans HG2.out hg3)
    clear hg3 HG2
    go_wp2_with fail
    refine (HN2.out _ hrd3).mono ?_
    rintro e' w4 ⟨rfl, hrd4, hg4⟩
    have HG4 := Lib.hid (grown_trans HG3.out hg4)
    clear hg4 HG3
    go_wp2_with fail
    refine (HN3.out _ hrd4).mono ?_
    rintro e' w5 ⟨rfl, hrd5, hg5⟩
    have HG5 := Lib.hid (grown_trans HG4.out hg5)
    clear hg5 HG4
    go_wp2_with fail
    refine (HN4.out _ hrd5).mono ?_
    rintro e' w6 ⟨rfl, hrd6, hg6⟩
    have HG6 := Lib.hid (grown_trans HG5.out hg6)
    clear hg6 HG5
    go_wp2_with fail
    refine (rdNumber_bad t (p1 + 2) 4 R _ hrd6 hs (by omega) (by omega) (by omega) C.out).mono ?_
    rintro e' wz ⟨rfl, hgz⟩
    go_wp2_with fail
    exact ⟨rfl, rpBad (t := t) HB.out hRB (grown_trans HG6.out hgz)⟩
  rw [prNum_yes (by omega) c5] at hPR hHD
  simp only [Option.bind_some, Nat.reduceAdd, Nat.zero_add] at hPR hHD
  have HN5 := Lib.hid (fun u hu => rdNumber_ok t (p1 + 2) 4 R u hu hs (by omega) (by omega) c5)
  obtain ⟨v5, hv5⟩ : ∃ v, numA t (p1 + 2) 4 = v := ⟨_, rfl⟩
  rw [hv5] at HN5 hPR hHD
  have HV5 := Lib.hid hv5
  clear hv5
  have HBD := Lib.hid (prHead_in hHD).2.2
  clear hHD
  have hw5 : 0 ≤ v5 ∧ v5 < 4294967296 := by
    have h1 := getL_lt (cutL t (p1 + 2) 4)
    have h2 : (cutL t (p1 + 2) 4).length ≤ 4 := List.length_take_le _ _
    have h3 : 256 ^ (cutL t (p1 + 2) 4).length ≤ 256 ^ 4 := Nat.pow_le_pow_right (by omega) h2
    rw [show (256 : Nat) ^ 4 = 4294967296 by decide] at h3
    have h4 := HV5.out
    rw [numA_get t (p1 + 2) 4 (by omega)] at h4
    omega
  have hwr : IntKind.u32.wrap v5 = v5 := by
    simp [IntKind.wrap, IntKind.signed, IntKind.bits]; omega
  have hwm : v5 % 4294967296 = v5 := by omega
  clear hw5
  have HPR := Lib.hid hPR
  clear hPR
  have hBw : B < w.heap.size := lt_of_block HB.out
  have hRw : R < w.heap.size := lt_of_block h
  go_enter Try.func41, Try.ntmps41
  go_wp2_with fail
  refine (HN0.out _ h).mono ?_
  rintro e' w2 ⟨rfl, hrd2, hg2⟩
  have HG2 := Lib.hid hg2
  clear hg2
  go_wp2_with fail
  refine (HN1.out _ hrd2).mono ?_
  rintro e' w3 ⟨rfl, hrd3, hg3⟩
  have HG3 := Lib.hid (grown_trans HG2.out hg3)
  clear hg3 HG2
  go_wp2_with fail
  refine (HN2.out _ hrd3).mono ?_
  rintro e' w4 ⟨rfl, hrd4, hg4⟩
  have HG4 := Lib.hid (grown_trans HG3.out hg4)
  clear hg4 HG3
  go_wp2_with fail
  refine (HN3.out _ hrd4).mono ?_
  rintro e' w5 ⟨rfl, hrd5, hg5⟩
  have HG5 := Lib.hid (grown_trans HG4.out hg5)
  clear hg5 HG4
  go_wp2_with fail
  refine (HN4.out _ hrd5).mono ?_
  rintro e' w6 ⟨rfl, hrd6, hg6⟩
  have HG6 := Lib.hid (grown_trans HG5.out hg6)
  clear hg6 HG5
  go_wp2_with fail
  refine (HN5.out _ hrd6).mono ?_
  rintro e' w7 ⟨rfl, hrd7, hg7⟩
  have HG7 := Lib.hid (grown_trans HG6.out hg7)
  clear hg7 HG6
  have hB8 := (HG7.out.block B (lt_of_block HB.out) (fun e => absurd (Option.some.inj e) (by omega))).trans HB.out
  unfold boxA at hB8
  clear h hrd2 hrd3 hrd4 hrd5 hrd6 HN0 HN1 HN2 HN3 HN4 HN5 HB
  go_wp2_with (first | (refine wpList_store_row rfl 37 _ _ rfl B #[.int .i64 v0, .int .i64 v1, .int .i64 v2, .string v3, .int .i64 v4, .int .u32 v5, .slice none 0 0] rfl rfl 37 _ hB8 (by kernel_rfl) rfl (by simp [Value.oneCell']) ?_))
  have hB9 := setRow_heap w7 B _ #[.int .i64 v0, .int .i64 v1, .int .i64 v2, .string v3, .int .i64 v4, .int .u32 v5, .slice none 0 0] _ _ hB8
  have hR9 : Rd R t (p1 + 2 + 4) (w7.setRow B #[.int .i64 v0, .int .i64 v1, .int .i64 v2, .string v3, .int .i64 v4, .int .u32 v5, .slice none 0 0]) := (setRow_other w7 B R _ (by omega)).trans hrd7
  have HG9 := Lib.hid (show Grew2 R B w (w7.setRow B #[.int .i64 v0, .int .i64 v1, .int .i64 v2, .string v3, .int .i64 v4, .int .u32 v5, .slice none 0 0]) from ⟨HG7.out.os, HG7.out.tape, HG7.out.output, by simp; exact HG7.out.size, fun k hk hr hb => (setRow_other w7 B k _ hb).trans ((Grew2.of HG7.out).block k hk hr hb)⟩)
  have hz9 : (w7.setRow B #[.int .i64 v0, .int .i64 v1, .int .i64 v2, .string v3, .int .i64 v4, .int .u32 v5, .slice none 0 0]).heap.size = w7.heap.size := by simp
  have hz7 := HG7.out.size
  generalize w7.setRow B #[.int .i64 v0, .int .i64 v1, .int .i64 v2, .string v3, .int .i64 v4, .int .u32 v5, .slice none 0 0] = w8 at *
  have hBz9 : w.heap.size ≤ w8.heap.size := by omega
  clear hz9 hz7 hB8 hrd7 HG7 hwr hwm HV5
  have hPR := HPR.out
  clear HPR
  by_cases c6 : p1 + 2 + 4 + 1 ≤ t.size
  case neg =>
    rw [prNum_no c6] at hPR
    have hPN : PR = none := hPR
    clear hPR
    subst hPN
    have C := Lib.hid c6; clear c6
    refine (rdNumber_bad t (p1 + 2 + 4) 1 R _ hR9 hs (by omega) (by omega) (by omega) C.out).mono ?_
    rintro e' wz ⟨rfl, hgz⟩
    have HBZ := Lib.hid ((hgz.block B (lt_of_block hB9) (fun e => absurd (Option.some.inj e) (by omega))).trans hB9)
    have HGZ := Lib.hid (HG9.out.grown hgz)
    clear hgz hB9 hR9 HG9
    go_wp2_with fail
    exact ⟨rfl, HGZ.out, ⟨v0, v1, v2, v3, v4, v5, []⟩, HBD.out, ⟨_, [], HBZ.out, World.ownsRow_nil _ _ _ _, rfl, fun j hj => by simp at hj⟩, rfl⟩
  rw [prNum_yes (by omega) c6] at hPR
  simp only [Option.bind_some] at hPR
  obtain ⟨c, hcc⟩ : ∃ c : Nat, numA t (p1 + 2 + 4) 1 = (c : Int) := ⟨_, numA_1 t (p1 + 2 + 4)⟩
  have hc255 : c ≤ 255 := by
    have h1 := numA_1 t (p1 + 2 + 4)
    have h2 := getL_lt (cutL t (p1 + 2 + 4) 1)
    have h3 : (cutL t (p1 + 2 + 4) 1).length ≤ 1 := List.length_take_le _ _
    have h4 : 256 ^ (cutL t (p1 + 2 + 4) 1).length ≤ 256 ^ 1 := Nat.pow_le_pow_right (by omega) h3
    rw [hcc] at h1
    omega
  rw [hcc, Int.toNat_natCast] at hPR
  have hcI : (c : Int) ≤ 255 := by omega
  obtain ⟨O, hO⟩ : ∃ O, prLns t c (p1 + 2 + 4 + 1) = O := ⟨_, rfl⟩
  rw [hO] at hPR
  have HPR := Lib.hid hPR
  have HO0 := Lib.hid (show O = concL [] (prLns t (c - 0) (p1 + 2 + 4 + 1)) from by rw [Nat.sub_zero, hO]; unfold concL; cases O <;> simp)
  clear hPR hO
  refine (rdNumber_ok t (p1 + 2 + 4) 1 R _ hR9 hs (by omega) (by omega) c6).mono ?_
  rw [hcc]
  rintro e' w9 ⟨rfl, hrd, hg⟩
  have HBX := Lib.hid ((hg.block B (lt_of_block hB9) (fun e => absurd (Option.some.inj e) (by omega))).trans hB9)
  have HGX := Lib.hid (HG9.out.grown hg)
  have hBz := Nat.le_trans hBz9 hg.size
  have HOX := Lib.hid (World.ownsRow_nil w9 w.heap.size 66 3)
  clear hg hB9 hR9 HG9 hcc hBz9
  obtain ⟨iL, hNL, hzL0, hzL1, hzL2⟩ := info_parts infoLn
  go_wp2_with fail
  go_loopw [19] (fun z wr => ∃ (i p : Nat) (v : Value) (xs : List Value) (acc : List Ln), i ≤ c ∧ z = .int .i64 i ∧ p ≤ 1000000 ∧ Rd R t p wr ∧ w.heap.size ≤ wr.heap.size ∧ Hid (acc.length = i) ∧ Hid (O = concL acc (prLns t (c - i) p)) ∧ Hid (Grew2 R B w wr) ∧ Hid (wr.heap[B]? = some (.cells #[.int .i64 v0, .int .i64 v1, .int .i64 v2, .string v3, .int .i64 v4, .int .u32 v5, v] 37 (0, 0))) ∧ Hid (wr.ownsRow w.heap.size 66 3 v i xs) ∧ Hid (RowV wr w.heap.size xs acc)) (fun z _ => c - (intOf z).toNat)
  case atStart => exact ⟨0, p1 + 2 + 4 + 1, _, [], [], Nat.zero_le _, rfl, by omega, hrd, hBz, Lib.hid rfl, HO0, HGX, HBX, HOX, Lib.hid ⟨rfl, fun j hj => by simp at hj⟩⟩
  case round =>
    clear HO0 HGX HBX HOX hrd hBz
    obtain ⟨i, p, v, xs, acc, hic, rfl, hpp, hrd, hBz, hA, hP, hgT, hB, hO, hV⟩ := hrel
    obtain ⟨ta, tc, rfl, _⟩ := own_formS hO.out
    by_cases hlt : i < c
    · have hltI : (i : Int) < c := by omega
      have c3 := below_cell (Below.refl _ wr) hB.out 6 rfl
      have c3a := fun o : Obj => (World.cell?_of_block (a := ⟨B, 6, none⟩) (Below.heap_alloc wr o B (lt_of_block hB.out))).trans c3
      have hci : c - i = (c - (i + 1)) + 1 := by omega
      cases hpr : prLn t p with
      | none =>
        have hON : O = none := by rw [hP.out, hci, prLns_none hpr]
        have hN : PR = none := by rw [HPR.out, hON]; rfl
        subst hN
        have HC : Hid (∀ u, Rd R t p u → Calls Try.prog 42 #[.pointer (some ⟨R, 0, none⟩)] u (BadPost R u)) := Lib.hid (fun u hu => by have := rdLine t p R u hu hs hpp; rw [hpr] at this; exact this)
        clear HPR hP hci hON hpr
        go_upto_region 3 with fail
        go_region_law (first
          | (go_simp; go_at_call 42; refine (HC.out _ (by exact hrd)).mono ?_; rintro e' w7 ⟨rfl, hgr⟩; have hgT := Lib.hid (show Grew2 R B w w7 from (by first | exact hgT.out.grown hgr | exact hgT.out.grown (grown_drew hgr))); have hB := Lib.hid ((hgr.block B (lt_of_block (by exact hB.out)) (fun e => absurd (Option.some.inj e) (by omega))).trans (by exact hB.out)); have hO := Lib.hid (World.ownsRow.kept (w := _) (by first | exact hO.out | exact hO.out.drew) hgr (.inr (fun e => absurd (hO.out.lt R e).1 (by omega)))); have hV := Lib.hid (RowV.kept (w := _) (by first | exact hV.out | exact hV.out.drew) hgr (.inl (by omega))); go_simp; refine as_any _ ⟨#[], []⟩ w7 ?_)
          | fail)
        all_goals
          refine And.intro rfl (show RpPost R B t none w (.panicked endP) w7 from ⟨hgT.out, ⟨v0, v1, v2, v3, v4, v5, acc⟩, HBD.out, ⟨_, xs, hB.out, ?_, hV.out⟩, rfl⟩)
          show World.ownsRow _ _ _ _ _ acc.length _
          rw [hA.out]; exact hO.out
      | some eq =>
        obtain ⟨en, q⟩ := eq
        have hcn := Lib.hid (show O = concL (acc ++ [en]) (prLns t (c - (i + 1)) q) from by rw [hP.out, hci, prLns_some hpr])
        obtain ⟨_, f2, f3, _⟩ := prLn_in hpr
        have HF := Lib.hid f3
        have hq6 : q ≤ 1000000 := by omega
        have hEP : ∀ u, Rd R t p u → Calls Try.prog 42 #[.pointer (some ⟨R, 0, none⟩)] u (LnPost R t q en u) := fun u hu => by have := rdLine t p R u hu hs hpp; rw [hpr] at this; exact this
        obtain ⟨name, cur, nos⟩ := en
        have HC : Hid (∀ u, Rd R t p u → Calls Try.prog 42 #[.pointer (some ⟨R, 0, none⟩)] u (fun e' w' => ∃ k, e' = .returned (.agg #[.string name, .int .i64 cur, k]) ∧ w'.ownsRow u.heap.size 3 1 k nos.length (nosV nos) ∧ Rd R t q w' ∧ u.grownBy w' (some R))) := Lib.hid hEP
        clear hP hci hpr f2 f3 hEP
        go_upto_region 3 with fail
        go_region_law (first
          | (go_simp; go_at_call 42; refine (HC.out _ (by exact hrd)).mono ?_; rintro e' w7 ⟨k, rfl, hk, hrd, hgr⟩; have hk := own_base (b' := w.heap.size) hk (by exact hBz); have hgT := Lib.hid (show Grew2 R B w w7 from (by first | exact hgT.out.grown hgr | exact hgT.out.grown (grown_drew hgr))); have hB := Lib.hid ((hgr.block B (lt_of_block (by exact hB.out)) (fun e => absurd (Option.some.inj e) (by omega))).trans (by exact hB.out)); have hO := Lib.hid (World.ownsRow.kept (w := _) (by first | exact hO.out | exact hO.out.drew) hgr (.inr (fun e => absurd (hO.out.lt R e).1 (by omega)))); have hV := Lib.hid (RowV.kept (w := _) (by first | exact hV.out | exact hV.out.drew) hgr (.inl (by omega))); have hBz := Nat.le_trans hBz hgr.size; have c3 := below_cell (Below.refl _ w7) hB.out 6 rfl; have c3a := fun o : Obj => (World.cell?_of_block (a := ⟨B, 6, none⟩) (Below.heap_alloc w7 o B (lt_of_block hB.out))).trans c3; obtain ⟨ka, kc, rfl, _⟩ := own_formS hk; go_simp)
          | (refine step_push (m := 1) (c := 1) (Operand.tmp 22) (Operand.tmp 25) 35 66 [.string name, .int .i64 cur, .slice ka nos.length kc] (hO.out.alloc _) ((Below.refl _ _).alloc hBz _) hBz Try.underlying35 hNL hzL0 hzL1 hzL2 rfl (by decide) (by rfl) (by rfl) (by rfl) (by rfl) (cells_new _ [.string name, .int .i64 cur, .slice ka nos.length kc] 66) (by rfl) (by intro u hu; simp only [List.mem_cons, List.not_mem_nil, or_false] at hu; rcases hu with rfl | rfl | rfl <;> rfl) ⟨by omega, by omega⟩ ?_; intro v8 w8 hown8 hb8 hgr8; obtain ⟨ta8, tc8, rfl, _⟩ := own_formS hown8; have hB8 := (hb8.block B (by omega)).trans hB.out; have c08 := below_cell (Below.refl _ w8) hB8 6 rfl; have f08 := block_frozen hB8 6)
          | fail)
        all_goals
          have hB9 := Lib.hid (block_set hB8 6 (.slice ta8 (i + 1) tc8))
          have hO9 := Lib.hid (ownsRow_setCell_below (a := ⟨B, 6, none⟩) hown8 (by show B < w.heap.size; omega) (.slice ta8 (i + 1) tc8))
          have hV0 := RowV.snoc (e := ⟨name, cur, nos⟩) hV.out HF.out hk
          have hV1 : RowV w8 w.heap.size (xs ++ [.string name, .int .i64 cur, .slice ka nos.length kc]) (acc ++ [⟨name, cur, nos⟩]) := RowV.grew hV0 hown8 (grown_trans (World.grownBy_alloc w7 _ _) hgr8) hO.out
          have hV9 := Lib.hid (RowV.kept hV1 (grown_set (R := B) (w := w8) ⟨rfl, rfl, rfl, Nat.le_refl _, fun _ _ _ => rfl⟩ 6 (.slice ta8 (i + 1) tc8)) (.inl (by omega)))
          have hg9 := Lib.hid ((hgT.out.below hb8 (by omega)).set 6 (.slice ta8 (i + 1) tc8))
          have hrd9 : Rd R t q (w8.setCell ⟨B, 6, none⟩ (.slice ta8 (i + 1) tc8)) :=
            (Below.heap_setCell w8 ⟨B, 6, none⟩ _ R (by show R ≠ B; omega)).trans ((hb8.block R (by omega)).trans hrd)
          have hBz9 : w.heap.size ≤ (w8.setCell ⟨B, 6, none⟩ (.slice ta8 (i + 1) tc8)).heap.size := by rw [World.size_setCell]; exact Nat.le_trans hBz hb8.size
          have hA9 : Hid ((acc ++ [(⟨name, cur, nos⟩ : Ln)]).length = i + 1) := Lib.hid (by rw [List.length_append, hA.out]; rfl)
          clear hB8 c08 f08 hb8 hgr8 hown8 hB hO hV hgT c3 c3a hrd hBz hV0 hV1 hk
          go_wp2_with fail
          go_roundw
          case rel => exact ⟨i + 1, q, _, _, _, by omega, by go_num, hq6, hrd9, hBz9, hA9, hcn, hg9, hB9, hO9, hV9⟩
          case measure => simp [intOf]; omega
    · have hicc : i = c := by omega
      subst hicc
      have hnl : ¬ (i : Int) < i := by omega
      have hON : O = some (acc, p) := by rw [hP.out, Nat.sub_self]; simp [prLns, concL]
      have hPS : PR = some (⟨v0, v1, v2, v3, v4, v5, acc⟩, p) := by rw [HPR.out, hON]; rfl
      subst hPS
      clear HPR hP
      go_wp2_with fail
      go_end0
      refine ⟨hgT.out, ⟨v0, v1, v2, v3, v4, v5, acc⟩, HBD.out, ⟨_, xs, hB.out, ?_, hV.out⟩, rfl, rfl, hrd⟩
      show World.ownsRow _ _ _ _ _ acc.length _
      rw [hA.out]; exact hO.out
end Go.Proofs.Ytmanlogclbbgaaa
