/- frame.ReadAsk: what reads the fields. -/
import Derived.Test.YtmanlogclbbgaaaFr6
namespace Go.Proofs.Ytmanlogclbbgaaa
open Go.RowKit
set_option linter.unusedVariables false

def AsqPost (R B : Nat) (t : ByteArray) (o : Option (Asq × Nat)) (w : World) (e : Ending) (w' : World) : Prop :=
  match o with
  | some (q, r) => e = .returned (.tuple #[]) ∧ ∃ w1 : World, Rd R t r w1 ∧ w.grownBy w1 (some R) ∧ w' = w1.setRow B #[.int .i64 q.kind, .string q.name, .int .i64 q.no, .string q.source, .string q.record]
  | none => BadPost R w e w'
theorem cutP_le (t : ByteArray) (p : Nat) (h : cutE t p = 0) : cutP t p ≤ t.size := (cut_facts t p h).2.2.2.1
set_option maxRecDepth 100000 in
set_option maxHeartbeats 4000000 in
theorem frAskFields (t : ByteArray) (R B : Nat) (q0 : Asq) (w : World) (h : Rd R t 0 w) (hB : AsqAt w B q0) (hs : t.size ≤ 3000) :
    Calls Try.prog 28 #[.pointer (some ⟨R, 0, none⟩), .pointer (some ⟨B, 0, none⟩)] w (AsqPost R B t (prAsk t) w) := by
  have hRB : B ≠ R := by
    rintro rfl
    unfold AsqAt at hB
    unfold Rd at h
    rw [hB] at h
    injection h with h
    injection h with _ h
    exact absurd h (by decide)
  by_cases c1 : 0 + 1 ≤ t.size
  case neg =>
    have hn : prAsk t = none := by unfold prAsk; rw [if_neg (by omega)]
    rw [hn]
    have C1 := Lib.hid c1
    clear hn c1
    go_enter Try.func28, Try.ntmps28
    go_wp2_with fail
    refine (rdNumber_bad t 0 1 R _ h hs (by omega) (by omega) (by omega) C1.out).mono ?_
    rintro e' w2 ⟨rfl, hg2⟩
    go_wp2_with fail
    exact ⟨rfl, rfl, hg2⟩
  have HN1 := Lib.hid (fun u hu => rdNumber_ok t 0 1 R u hu hs (by omega) (by omega) c1)
  by_cases c2 : cutE t (1 : Nat) = 0
  case neg =>
    have hn : prAsk t = none := by unfold prAsk; rw [if_neg (fun h => c2 h.2.1)]
    rw [hn]
    have C2 := Lib.hid c2
    clear hn c1 c2
    go_enter Try.func28, Try.ntmps28
    go_wp2_with fail
    refine (HN1.out _ h).mono ?_
    rintro e' w2 ⟨rfl, hrd2, hg2⟩
    have HG2 := Lib.hid hg2
    clear hg2
    go_wp2_with fail
    refine (rdText_bad t 1 R _ hrd2 hs (by omega) C2.out).mono ?_
    rintro e' w3 ⟨rfl, hg3⟩
    go_wp2_with fail
    exact ⟨rfl, rfl, grown_trans HG2.out hg3⟩
  have HT2 := Lib.hid (fun u hu => rdText_ok t 1 R u hu hs (by omega) c2)
  have l2 := cutP_le t 1 c2
  obtain ⟨p1, hp1⟩ : ∃ p1, cutP t 1 = p1 := ⟨_, rfl⟩
  rw [show (cutT t (1 : Nat)).toNat = cutP t 1 from rfl, hp1] at HT2
  rw [hp1] at l2
  by_cases c3 : p1 + 8 ≤ t.size
  case neg =>
    have hn : prAsk t = none := by unfold prAsk; rw [hp1, if_neg (fun h => c3 h.2.2.1)]
    rw [hn]
    have C3 := Lib.hid c3
    clear hn c1 c2 c3 hp1
    go_enter Try.func28, Try.ntmps28
    go_wp2_with fail
    refine (HN1.out _ h).mono ?_
    rintro e' w2 ⟨rfl, hrd2, hg2⟩
    have HG2 := Lib.hid hg2
    clear hg2
    go_wp2_with fail
    refine (HT2.out _ hrd2).mono ?_
    rintro e' w3 ⟨rfl, hrd3, hg3⟩
    have HG3 := Lib.hid (grown_trans HG2.out hg3)
    clear hg3 HG2
    go_wp2_with fail
    refine (rdNumber_bad t p1 8 R _ hrd3 hs (by omega) (by omega) (by omega) C3.out).mono ?_
    rintro e' w4 ⟨rfl, hg4⟩
    go_wp2_with fail
    exact ⟨rfl, rfl, grown_trans HG3.out hg4⟩
  have HN3 := Lib.hid (fun u hu => rdNumber_ok t p1 8 R u hu hs (by omega) (by omega) c3)
  by_cases c4 : cutE t (p1 + 8 : Nat) = 0
  case neg =>
    have hn : prAsk t = none := by unfold prAsk; rw [hp1, if_neg (fun h => c4 h.2.2.2.1)]
    rw [hn]
    have C4 := Lib.hid c4
    clear hn c1 c2 c3 c4 hp1
    go_enter Try.func28, Try.ntmps28
    go_wp2_with fail
    refine (HN1.out _ h).mono ?_
    rintro e' w2 ⟨rfl, hrd2, hg2⟩
    have HG2 := Lib.hid hg2
    clear hg2
    go_wp2_with fail
    refine (HT2.out _ hrd2).mono ?_
    rintro e' w3 ⟨rfl, hrd3, hg3⟩
    have HG3 := Lib.hid (grown_trans HG2.out hg3)
    clear hg3 HG2
    go_wp2_with fail
    refine (HN3.out _ hrd3).mono ?_
    rintro e' w4 ⟨rfl, hrd4, hg4⟩
    have HG4 := Lib.hid (grown_trans HG3.out hg4)
    clear hg4 HG3
    go_wp2_with fail
    refine (rdText_bad t (p1 + 8) R _ hrd4 hs (by omega) C4.out).mono ?_
    rintro e' w5 ⟨rfl, hg5⟩
    go_wp2_with fail
    exact ⟨rfl, rfl, grown_trans HG4.out hg5⟩
  have HT4 := Lib.hid (fun u hu => rdText_ok t (p1 + 8) R u hu hs (by omega) c4)
  have l4 := cutP_le t (p1 + 8) c4
  obtain ⟨p2, hp2⟩ : ∃ p2, cutP t (p1 + 8) = p2 := ⟨_, rfl⟩
  rw [show (cutT t (p1 + 8 : Nat)).toNat = cutP t (p1 + 8) from rfl, hp2] at HT4
  rw [hp2] at l4
  by_cases c5 : cutE t (p2 : Nat) = 0
  case neg =>
    have hn : prAsk t = none := by unfold prAsk; rw [hp1, hp2, if_neg (fun h => c5 h.2.2.2.2)]
    rw [hn]
    have C5 := Lib.hid c5
    clear hn c1 c2 c3 c4 c5 hp1 hp2
    go_enter Try.func28, Try.ntmps28
    go_wp2_with fail
    refine (HN1.out _ h).mono ?_
    rintro e' w2 ⟨rfl, hrd2, hg2⟩
    have HG2 := Lib.hid hg2
    clear hg2
    go_wp2_with fail
    refine (HT2.out _ hrd2).mono ?_
    rintro e' w3 ⟨rfl, hrd3, hg3⟩
    have HG3 := Lib.hid (grown_trans HG2.out hg3)
    clear hg3 HG2
    go_wp2_with fail
    refine (HN3.out _ hrd3).mono ?_
    rintro e' w4 ⟨rfl, hrd4, hg4⟩
    have HG4 := Lib.hid (grown_trans HG3.out hg4)
    clear hg4 HG3
    go_wp2_with fail
    refine (HT4.out _ hrd4).mono ?_
    rintro e' w5 ⟨rfl, hrd5, hg5⟩
    have HG5 := Lib.hid (grown_trans HG4.out hg5)
    clear hg5 HG4
    go_wp2_with fail
    refine (rdText_bad t p2 R _ hrd5 hs (by omega) C5.out).mono ?_
    rintro e' w6 ⟨rfl, hg6⟩
    go_wp2_with fail
    exact ⟨rfl, rfl, grown_trans HG5.out hg6⟩
  have HT5 := Lib.hid (fun u hu => rdText_ok t p2 R u hu hs (by omega) c5)
  obtain ⟨p3, hp3⟩ : ∃ p3, cutP t p2 = p3 := ⟨_, rfl⟩
  rw [show (cutT t (p2 : Nat)).toNat = cutP t p2 from rfl, hp3] at HT5
  have hn : prAsk t = some (⟨numA t 0 1, cutS t (1 : Nat), numA t p1 8, cutS t (p1 + 8 : Nat), cutS t (p2 : Nat)⟩, p3) := by
    unfold prAsk; rw [hp1, hp2, hp3, if_pos ⟨c1, c2, c3, c4, c5⟩]
  rw [hn]
  have HB := Lib.hid hB
  generalize numA t 0 1 = n1 at *
  generalize cutS t (1 : Nat) = s1 at *
  generalize numA t p1 8 = n8 at *
  generalize cutS t (p1 + 8 : Nat) = s2 at *
  generalize cutS t (p2 : Nat) = s3 at *
  clear hn c1 c2 c3 c4 c5 hp1 hp2 hp3 hB l2 l4
  go_enter Try.func28, Try.ntmps28
  go_wp2_with fail
  refine (HN1.out _ h).mono ?_
  rintro e' w2 ⟨rfl, hrd2, hg2⟩
  have HG2 := Lib.hid hg2
  clear hg2
  go_wp2_with fail
  refine (HT2.out _ hrd2).mono ?_
  rintro e' w3 ⟨rfl, hrd3, hg3⟩
  have HG3 := Lib.hid (grown_trans HG2.out hg3)
  clear hg3 HG2
  go_wp2_with fail
  refine (HN3.out _ hrd3).mono ?_
  rintro e' w4 ⟨rfl, hrd4, hg4⟩
  have HG4 := Lib.hid (grown_trans HG3.out hg4)
  clear hg4 HG3
  go_wp2_with fail
  refine (HT4.out _ hrd4).mono ?_
  rintro e' w5 ⟨rfl, hrd5, hg5⟩
  have HG5 := Lib.hid (grown_trans HG4.out hg5)
  clear hg5 HG4
  go_wp2_with fail
  refine (HT5.out _ hrd5).mono ?_
  rintro e' w6 ⟨rfl, hrd6, hg6⟩
  have HG6 := Lib.hid (grown_trans HG5.out hg6)
  have hB6 := (HG6.out.block B (lt_of_block HB.out) (fun e => hRB (Option.some.inj e))).trans HB.out
  have HR6 := Lib.hid hrd6
  clear hg6 HG5 h hrd2 hrd3 hrd4 hrd5 hrd6
  go_wp2_with (first | (refine wpList_store_row rfl 23 _ _ rfl B #[.int .i64 n1, .string s1, .int .i64 n8, .string s2, .string s3] rfl rfl 23 _ hB6 (by kernel_rfl) rfl (by simp [Value.oneCell']) ?_))
  go_end0
  exact ⟨rfl, w6, HR6.out, HG6.out, rfl⟩
end Go.Proofs.Ytmanlogclbbgaaa
