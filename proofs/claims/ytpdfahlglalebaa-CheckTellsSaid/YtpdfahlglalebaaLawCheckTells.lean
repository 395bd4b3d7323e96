/- The walk of CheckTells. -/
import Derived.Test.YtpdfahlglalebaaChkL
import Derived.Test.YtpdfahlglalebaaCk6
namespace Go.Proofs.Ytpdfahlglalebaa.lawCheckTells
open Go.ChangeShapes Go.WideShapes Go.ChangeAt Go.RowKit Go.Joins Go.Deep
set_option linter.unusedVariables false

theorem openInsns {H : Type} {enc : TypeId × Value → H} {W : World} {base : Nat} {v : Value} {d : DataW H} {p : List MemPlace}
    (hok : Value.okWide Try.prog W .any base 22 v) (h : DataW.Trod enc Try.prog W 0 (fun _ => true) true 22 v d p) : ∃ l, IsIns W v l := openIns hok h
theorem nil_rows (w : World) : IsRows w (.slice none 0 0) [] := ⟨none, 0, 0, rfl, rfl, Nat.le_refl _, by omega, .inl rfl⟩
set_option maxRecDepth 100000 in
set_option maxHeartbeats 2000000 in
theorem walk (v0 : Value) (l0 : List Ins) (w : World) (w0 : IsIns w v0 l0) :
    Calls Try.prog 3 #[v0] w fun e w' => e = .returned (.bool true) ∧ Below w.heap.size w w' := by
  obtain ⟨a, len, cap, rfl, hlen, hc1, hc2, htk⟩ := w0.1.take
  have hn := fewN_le len
  have hl := htk (fewN len) hn.1
  have hll : (l0.take (fewN len)).length = fewN len := by rw [List.length_take]; omega
  have hF := fun u => chkFew_at a len cap u hc1 hc2
  generalize l0.take (fewN len) = l at *
  generalize fewN len = n at *
  have hb : ∀ i ∈ l, i.bounded := by obtain ⟨_, _, _, _, _, _, _, hb, _⟩ := hl; exact hb
  have hN : l.length ≤ 5000 := by omega
  have HL := Lib.hid hl; have HF := Lib.hid hF
  have HC := Lib.hid (fun u hu => chkCheck_any l (.slice a n cap) u hu)
  have HRC := Lib.hid (fun u hu => ck_check l (.slice a n cap) u hu hN)
  have HCE := Lib.hid (fun u hu => chkCells_any l (.slice a n cap) u hu)
  have HAL := Lib.hid (fun u => chkAlive u)
  obtain ⟨x, y, hv⟩ : ∃ (x y : Int), checkV l = .tuple #[.int .i64 x, .int .i64 y] := by
    rcases checkV_cases l with ⟨_, hv⟩ | ⟨_, x, y, hv, _⟩
    · exact ⟨0, 0, hv⟩
    · exact ⟨x, y, hv⟩
  rw [hv] at HC HRC
  have hxx : (x == x) = true := by simp
  have hyy : (y == y) = true := by simp
  have HREF := Lib.hid (fun u (hu : IsInsns u (.slice a n cap) l) (h : allWell l) => ck_cellsOk l (.slice a n cap) u hu h)
  have HREFB := Lib.hid (fun u (hu : IsInsns u (.slice a n cap) l) (h : ¬ allWell l) => ck_cellsBad l (.slice a n cap) u hu hN h)
  have HBD := Lib.hid hb; have HN := Lib.hid hN
  clear htk w0 hlen hl hF hll hn hv hb hN
  go_enter Try.func3, Try.ntmps3
  go_wp2_with fail
  refine (HF.out _).mono ?_
  rintro e w2 ⟨rfl, rfl⟩
  go_wp2_with fail
  refine (HC.out _ HL.out).mono ?_
  rintro e w2 ⟨rfl, hb2⟩
  have HW2 := Lib.hid hb2
  clear hb2 HC HF
  go_wp2_with fail
  refine (HRC.out _ (insns_below HL.out HW2.out)).mono ?_
  rintro e w3 ⟨rfl, hb3⟩
  have HW3 := Lib.hid (HW2.out.trans (hb3.mono HW2.out.size))
  clear hb3 HRC HW2
  go_wp2_with fail
  refine (HCE.out _ (insns_below HL.out HW3.out)).mono ?_
  rintro e w4 ⟨hcell, hb4⟩
  have HW4 := Lib.hid (HW3.out.trans (hb4.mono HW3.out.size))
  clear hb4 HCE HW3
  obtain ⟨va, E, rows, rfl, hva, hrl, hr16, href⟩ : ∃ (va : Value) (E : Int) (rows : List (List Bool)), e = .returned (.tuple #[va, .int .i64 E]) ∧ IsRows w4 va rows ∧ rows.length ≤ 5000 ∧ (∀ r ∈ rows, r.length ≤ 16) ∧ (∀ u, IsInsns u (.slice a n cap) l → Calls Try.prog 11 #[.slice a n cap] u fun e' w' => (∃ vb, e' = .returned (.tuple #[vb, .int .i64 E]) ∧ IsRows w' vb rows) ∧ Below u.heap.size u w') := by
    rcases hcell with ⟨h1, gA, gR, rfl, hJ⟩ | ⟨h1, x, y, hw, _, rfl⟩
    · exact ⟨_, 0, rowsL l, rfl, js_rows hJ h1 HBD.out, by rw [rowsL, List.length_map, List.length_range]; exact HN.out, rowsL_le l, fun u hu => HREF.out u hu h1⟩
    · refine ⟨_, y, [], rfl, nil_rows _, by simp, by simp, fun u hu => (HREFB.out u hu h1).mono ?_⟩
      rintro e' w' ⟨⟨x2, y2, hw2, rfl⟩, hb⟩
      rw [hw] at hw2
      injection hw2 with hw2
      injection hw2 with hw2
      injection hw2 with _ hw2
      injection hw2 with hw2
      injection hw2 with _ hw2
      subst hw2
      exact ⟨⟨_, rfl, nil_rows _⟩, hb⟩
  have HVA := Lib.hid hva; have HRF := Lib.hid href; have HRL := Lib.hid hrl; have HR16 := Lib.hid hr16
  obtain ⟨a4, n4, c4, rfl, _⟩ := id hva
  have hee : (E == E) = true := by simp
  clear hcell hva href hrl hr16 HREF HREFB
  go_wp2_with fail
  refine (HRF.out _ (insns_below HL.out HW4.out)).mono ?_
  rintro e w5 ⟨⟨vb, rfl, hvb⟩, hb5⟩
  have HW5 := Lib.hid (HW4.out.trans (hb5.mono HW4.out.size))
  have HVA5 := Lib.hid (HVA.out.below hb5)
  have HVB5 := Lib.hid hvb
  obtain ⟨a5, n5, c5, rfl, _⟩ := id hvb
  clear hb5 HRF HVA hvb HW4
  go_wp2_with fail
  refine (HAL.out _).mono ?_
  rintro e w6 ⟨rfl, hb6⟩
  have HW6 := Lib.hid (HW5.out.trans (hb6.mono HW5.out.size))
  have HVA6 := Lib.hid (HVA5.out.below hb6)
  have HVB6 := Lib.hid (HVB5.out.below hb6)
  clear hb6 HVA5 HVB5 HW5
  go_wp2_with fail
  refine (ck_like rows _ _ w6 HVA6.out HVB6.out HRL.out HR16.out).mono ?_
  rintro e w7 ⟨rfl, hb7⟩
  have HW7 := Lib.hid (HW6.out.trans (hb7.mono HW6.out.size))
  clear hb7 HW6 HVA6 HVB6
  go_wp2_with fail
  go_ret
  exact ⟨rfl, HW7.out⟩
end Go.Proofs.Ytpdfahlglalebaa.lawCheckTells
