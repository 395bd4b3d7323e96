/- A row of bytes that the call made, out of a text or by appending: what can be read of it, and one byte more. -/
import Derived.Test.YtimiooiaohfelaaDoorGen
import Derived.ArgAppend
import Derived.Lib.ConvBytes
import Derived.Deep.Onto
namespace Go.Proofs.YtimiooiaohfelaaDoor
open Go.RowKit
set_option linter.unusedVariables false

def sliceLen : Value → Nat
  | .slice _ n _ => n
  | _ => 0
def Spare (w : World) (base : Nat) (v : Value) (n : Nat) (l : List UInt8) : Prop :=
  l.length = n ∧ ∃ g cap, v = .slice (some ⟨g, 0, none⟩) n cap ∧ base ≤ g ∧ g < w.heap.size ∧ n ≤ cap ∧
    (∀ j, j < n → w.cell? ⟨g, j, none⟩ = some (.int .u8 (l.getD j 0).toNat)) ∧
    (∀ j, n ≤ j → j < cap → (w.cell? ⟨g, j, none⟩).isSome = true ∧ w.frozen? ⟨g, j, none⟩ = false)
theorem Spare.alloc {w : World} {base : Nat} {v : Value} {n : Nat} {l : List UInt8} (h : Spare w base v n l) (o : Obj) : Spare (w.alloc o) base v n l := by
  obtain ⟨hl, g, cap, rfl, hb, hg, hc, h1, h2⟩ := h
  have hblk := Below.heap_alloc w o g hg
  refine ⟨hl, g, cap, rfl, hb, by simp; omega, hc, fun j hj => ?_, fun j hj hjc => ⟨?_, ?_⟩⟩
  · rw [World.cell?_of_block (a := ⟨g, j, none⟩) hblk]; exact h1 j hj
  · rw [World.cell?_of_block (a := ⟨g, j, none⟩) hblk]; exact (h2 j hj hjc).1
  · rw [World.frozen?_of_block (a := ⟨g, j, none⟩) hblk]; exact (h2 j hj hjc).2
theorem Spare.of_own {w : World} {base : Nat} {e : TypeId} {v : Value} {n : Nat} {l : List UInt8} (h : w.ownsRow base e 1 v n (l.map fun x => .int .u8 x.toNat)) (hn : 0 < n) : Spare w base v n l := by
  have hlen : l.length = n := by have := h.1; simpa using this
  have hcells := fun g => h.cells (g := g)
  rcases h.2 with ⟨_, h0⟩ | ⟨g, cap, cur, rfl, hb, hg, hnc, hcm, hsz, htk⟩
  · omega
  · have hlt := (Array.getElem?_eq_some_iff.1 hg).1
    refine ⟨hlen, g, cap, rfl, hb, hlt, hnc, fun j hj => ?_, fun j hj hjc => ⟨?_, ?_⟩⟩
    · have := hcells g rfl j (.int .u8 (l.getD j 0).toNat) (by simp [List.getD, show j < l.length by omega])
      have hadd : (⟨g, 0, none⟩ : Addr).add j = ⟨g, 0 + j, none⟩ := by unfold Addr.add; split <;> simp_all
      rw [hadd, Nat.zero_add] at this
      exact this
    · rw [cell_of_row w g j cur e (0, 0) hg]
      simp
      omega
    · simp [World.frozen?, hg]
theorem Spare.of_bytes (w : World) (e : TypeId) (s : ByteArray) : Spare (Lib.bytesWorld w e s) w.heap.size (.slice (some ⟨w.heap.size, 0, none⟩) s.size (grownCap w s.size 0 e)) s.size s.data.toList := by
  have hge := grownCap_ge w s.size 0 e
  have hsz : (Lib.bytesCells w e s).size = grownCap w s.size 0 e := by
    simp only [Lib.bytesCells, Array.size_append, Array.size_map, Array.size_replicate]
    have : s.data.size = s.size := rfl
    omega
  have hnew := Lib.bytesWorld_at_new w e s
  refine ⟨ba_len s, w.heap.size, _, rfl, Nat.le_refl _, (Array.getElem?_eq_some_iff.1 hnew).1, hge, fun j hj => Lib.bytesWorld_cell w e s j hj, fun j hj hjc => ⟨?_, ?_⟩⟩
  · rw [cell_of_row _ _ j _ e _ hnew]
    simp
    omega
  · simp only [World.frozen?, hnew]
    simp; omega
theorem bytesWorld_bel (w : World) (e : TypeId) (s : ByteArray) : Below w.heap.size w (Lib.bytesWorld w e s) :=
  ⟨by simp [Lib.bytesWorld, World.freeze]; rfl, by simp [Lib.bytesWorld, World.freeze], by simp [Lib.bytesWorld, World.freeze]; rfl, by rw [Lib.bytesWorld_size]; omega, fun k hk => Lib.bytesWorld_at_old w e s k hk⟩
theorem Spare.string {P : Program} {w : World} {base : Nat} {v : Value} {n : Nat} {l : List UInt8} (h : Spare w base v n l) {src dst e : TypeId}
    (hs : P.underlying src = some (.slice e)) (he : P.underlying e = some (.int .u8)) (hd : P.underlying dst = some .string) :
    (convert src dst v).run P w = .ok (.string ⟨l.toArray⟩) w := by
  obtain ⟨hl, g, cap, rfl, hb, hg, hc, h1, h2⟩ := h
  have := run_convert_bytes_arg (P := P) w src e hs he g 0 n cap (l.map fun b => (b.toNat : Int)) (by simpa using hl)
    (by
      intro i hi
      rw [Nat.zero_add, h1 i hi]
      simp [List.getD, show i < l.length by omega]) dst hd
  rw [this]
  congr 2
  simp [strOfNums, Function.comp_def]
/-- 's = append(s, x)': one byte more -/
theorem wpList_push_spare {P : Program} {ops : Array Oper} {rest : List Oper} {o : Oper} {a : Act} {Q : Exit → Act → World → Prop} {w w0 : World}
    (s x : Operand) (t : TypeId) (e : TypeId) {i : TypeInfo} {base : Nat} {v : Value} {n : Nat} {l : List UInt8} (y : UInt8)
    (hown : Spare w base v n l) (hbel : Below base w0 w) (hbase : base ≤ w0.heap.size)
    (ht : P.underlying t = some (.slice e)) (hi : P.info? e = some i) (hz : i.zero = some (.int .u8 0))
    (hsize : i.size = 1) (hby : i.bytes = 1)
    (hgd : o.guard = none) (ho : o.op = .call { callee := .builtin .append, args := #[s, x], argTypes := #[t, t] })
    (hs : a.eval s = v) (hx : a.eval x = .slice (some ⟨w.heap.size, 0, none⟩) 1 1)
    (hroom : n ≤ 17592186044416)
    (h : ∀ v' w', Spare w' base v' (n + 1) (l ++ [y]) → Below base w0 w' → wpList P ops Q rest (a.put o.dst v') w') :
    wpList P ops Q (o :: rest) a (w.alloc (.cells #[.int .u8 y.toNat] e)) := by
  have hall := hown.alloc (.cells #[.int .u8 y.toNat] e)
  have hb1 : Below base w0 (w.alloc (.cells #[.int .u8 y.toNat] e)) := hbel.alloc (by have := hbel.size; omega) _
  obtain ⟨hl, g, cap, rfl, hb, hg, hc, h1, h2⟩ := hall
  have hgw : g < w.heap.size := by
    obtain ⟨_, g', _, e', _, hg', _⟩ := hown
    injection e' with e1; injection e1 with e2; injection e2 with e3
    subst e3; exact hg'
  refine wpList_append_arg (w.alloc (.cells #[.int .u8 y.toNat] e)) hgd s x t ho e i (.int .u8 0) 1 1 ht hi hz hsize hby rfl (by decide) g 0 n cap (l.map fun x => .int .u8 x.toNat) hs (by simpa using hl)
    (fun j u hj => ?_) ⟨w.heap.size, 0, none⟩ 1 1 [.int .u8 y.toNat] hx rfl (cells_new w [.int .u8 y.toNat] e) (by simp [Value.oneCell'])
    (fun hr j hj => ?_) (by unfold maxLen; omega) (by omega) (fun hr => ?_) (fun hr v' w' hv hgr => ?_)
  · have hjl : j < l.length := by have := (List.getElem?_eq_some_iff.1 hj).1; simpa using this
    rw [Nat.zero_add, h1 j (by omega), ← hj]
    simp [List.getD, hjl]
  · obtain rfl : j = 0 := by simpa using hj
    rw [Nat.zero_add, Nat.mul_one, Nat.add_zero]
    exact h2 n (Nat.le_refl _) (by omega)
  · rw [Nat.zero_add, Nat.mul_one]
    show wpList P ops Q rest (a.put o.dst (.slice (some ⟨g, 0, none⟩) (n + 1) cap)) ((w.alloc (.cells #[.int .u8 y.toNat] e)).setCell ⟨g, n, none⟩ (.int .u8 y.toNat))
    refine h _ _ ⟨by simp [hl], g, cap, rfl, hb, by rw [World.size_setCell]; exact hg, hr, fun j hj => ?_, fun j hj hjc => ?_⟩ (hb1.setCell (p := ⟨g, n, none⟩) hb _)
    · by_cases e : j = n
      · subst e
        obtain ⟨u, hu⟩ := Option.isSome_iff_exists.1 (h2 j (Nat.le_refl _) (by omega)).1
        rw [World.cell?_setCell_same _ _ _ hu]
        simp [List.getD, hl]
      · rw [World.cell?_setCell_other _ _ _ _ (by intro h; injection h with h1 h2 h3; omega), h1 j (by omega)]
        simp [List.getD, List.getElem?_append_left (show j < l.length by omega)]
    · rw [World.cell?_setCell_other _ _ _ _ (by intro h; injection h with h1 h2 h3; omega), World.frozen?_setCell]
      exact h2 j (by omega) hjc
  · refine h v' w' (Spare.of_own (e := e) ?_ (by omega)) (hb1.grown hgr (by have := hbel.size; simp; omega) (fun k hk => by cases hk))
    have := World.ownsRow.mono (base' := base) hv (by have := hbel.size; simp; omega)
    simpa using this
end Go.Proofs.YtimiooiaohfelaaDoor
