/- Laws over any program, in the form in which our walks use them. -/
import Derived.Test.YtbcoooaoofbboaaBytes
import Derived.Lib.Hide
import Derived.Deep.QuietTactic
import Derived.BigQuiet
import Derived.Deep.DeepCutAuto
namespace Go.Proofs.Ytbcoooaoofbboaa
open Go.RowKit
set_option linter.unusedVariables false

theorem cells_new (w : World) (news : List Value) (e : TypeId) : ∀ j u, news[j]? = some u → (w.alloc (.cells news.toArray e)).cell? ((⟨w.heap.size, 0, none⟩ : Addr).add j) = some u := by
  intro j u hu
  have hadd : (⟨w.heap.size, 0, none⟩ : Addr).add j = ⟨w.heap.size, j, none⟩ := by unfold Addr.add; split <;> simp_all
  rw [hadd, World.cell?_alloc_new]
  simpa using hu

/-- 's = append(s, x)': x lies alone in the block that was laid last; s is the call's own. -/
theorem wpList_push {P : Program} {ops : Array Oper} {rest : List Oper} {o : Oper} {a : Act} {Q : Exit → Act → World → Prop} {w w0 : World}
    (s x : Operand) (t : TypeId) (e : TypeId) {i : TypeInfo} {z : Value} {size bytes : Nat} {base : Nat} {v : Value} {n : Nat} {xs news : List Value}
    (hown : w.ownsRow base e size v n xs) (hbel : Below base w0 w) (hbase : base ≤ w0.heap.size)
    (ht : P.underlying t = some (.slice e)) (hi : P.info? e = some i) (hz : i.zero = some z)
    (hsize : i.size = size) (hby : i.bytes = bytes) (hzs : z.cells.size = size) (hsz : 0 < size)
    (hgd : o.guard = none) (ho : o.op = .call { callee := .builtin .append, args := #[s, x], argTypes := #[t, t] })
    (hs : a.eval s = v) (hx : a.eval x = .slice (some ⟨w.heap.size, 0, none⟩) 1 1)
    (hl : news.length = size) (h1 : ∀ u ∈ news, u.oneCell' = true)
    (hroom : n ≤ 17592186044416 ∧ n * bytes + bytes ≤ 140737488355328)
    (h : ∀ v' w', w'.ownsRow base e size v' (n + 1) (xs ++ news) → Below base w0 w' → wpList P ops Q rest (a.put o.dst v') w') :
    wpList P ops Q (o :: rest) a (w.alloc (.cells news.toArray e)) := by
  refine wpList_append_own (w := w.alloc (.cells news.toArray e)) hgd s x t ho base e i z size bytes ht hi hz hsize hby hzs hsz v n xs hs (hown.alloc _) ⟨w.heap.size, 0, none⟩ 1 1 news hx (by simpa using hl) (cells_new w news e) h1
    (by unfold maxLen; omega) (by rw [Nat.add_mul]; omega) (by have := hbel.size; simp; omega) ?_
  intro v' w' h2 h3 h4
  refine h v' w' h2 ?_
  have hb1 : Below base w0 (w.alloc (.cells news.toArray e)) := hbel.alloc (by have := hbel.size; omega) _
  refine hb1.grown h3 (by have := hbel.size; simp; omega) ?_
  intro k hk
  exact (hown.lt k hk).1

/-- the bytes of a slice of the call's own, as a text -/
theorem own_string {P : Program} {w : World} {base : Nat} {e : TypeId} {v : Value} {n : Nat} (l : List UInt8) {src dst : TypeId}
    (hown : w.ownsRow base e 1 v n (l.map fun x => .int .u8 x.toNat))
    (hs : P.underlying src = some (.slice e)) (he : P.underlying e = some (.int .u8)) (hd : P.underlying dst = some .string) :
    (convert src dst v).run P w = .ok (.string ⟨l.toArray⟩) w := by
  have hlen : l.length = n := by simpa using hown.1
  rcases hown.2 with ⟨rfl, rfl⟩ | ⟨g, cap, cur, rfl, hg, hh, hn, hc, hcs, htake⟩
  · obtain rfl : l = [] := List.length_eq_zero_iff.1 hlen
    rw [run_convert_bytes_nil (P := P) w src e hs he 0 0 dst hd]
    rfl
  · have := run_convert_bytes_arg (P := P) w src e hs he g 0 n cap (l.map fun b => (b.toNat : Int)) (by simpa using hlen)
      (by
        intro i hi
        have hc := hown.cells (g := g) rfl i (.int .u8 ((l.map fun b => (b.toNat : Int)).getD i 0)) (by
          have : i < l.length := by omega
          simp [List.getD, this])
        have hadd : (⟨g, 0, none⟩ : Addr).add i = ⟨g, 0 + i, none⟩ := by unfold Addr.add; split <;> simp_all
        rw [hadd] at hc; exact hc) dst hd
    rw [this]
    congr 2
    simp [strOfNums, Function.comp_def]

/-- 'min(n, c)', as the walk spells it, under one name -/
theorem min_if (n : Nat) (c : Int) (hc : 0 ≤ c) : ∃ m : Nat, (if c < (n : Int) then c else (n : Int)) = (m : Int) ∧ m ≤ n ∧ (m : Int) ≤ c ∧ m = min n c.toNat := by
  refine ⟨min n c.toNat, ?_, Nat.min_le_left _ _, by omega, rfl⟩
  split <;> omega
theorem below_setRow {B : Nat} {a w : World} (h : Below B a w) {g : Nat} (hg : B ≤ g) (cs : Array Value) : Below B a (w.setRow g cs) :=
  h.trans ⟨rfl, rfl, rfl, by simp, fun k hk => by
    simp only [World.setRow, Array.getElem?_modify]
    rw [if_neg (by omega)]⟩
/-- what a call leaves as it was, seen from where the caller began -/
theorem keep {P : Program} {f : FuncId} {args : Array Value} {w w0 : World} {Q : Ending → Prop} (hb : Below w0.heap.size w0 w)
    (h : Calls P f args w fun e w' => Q e ∧ Below w.heap.size w w') : Calls P f args w fun e w' => Q e ∧ Below w0.heap.size w0 w' :=
  h.mono fun _ _ ⟨hq, hb'⟩ => ⟨hq, hb.trans (hb'.mono hb.size)⟩
theorem extract0_size (s : ByteArray) (m : Nat) (h : m ≤ s.size) : (s.extract 0 m).size = m := by
  rw [ByteArray.size_extract]; omega

/-! A region that draws its order, whose callees lay blocks of their own: one walk, in the order of the text. -/
/-- a world that is as w0 was below w0's end -/
def KeepT (w0 : World) : Type := { w' : World // Below w0.heap.size w0 w' }
def KeepT.val {w0 : World} (x : KeepT w0) : World := x.1
theorem KeepT.below {w0 : World} (x : KeepT w0) : Below w0.heap.size w0 x.val := x.2
instance (w0 : World) : Nonempty (KeepT w0) := ⟨⟨w0, Below.refl _ _⟩⟩
theorem wp_region_keep {P : Program} {id : Nat} {Q : Exit → Act → World → Prop} {a : Act} {w w0 : World} {l : List Oper} (hm : P.follows .mixedOrders = true) (hB : Region.lexB .any l.toArray = true)
    (hb : Below w0.heap.size w0 w)
    (h : wpQuiet P l.toArray (fun w' => ∃ x : KeepT w0, w' = x.val) (fun a' => ∀ w', (∃ x : KeepT w0, w' = x.val) → Q .normal a' w') l a) : (Code.region id l.toArray true).wp P Q a w :=
  wp_region_quiet (C := fun w' => ∃ x : KeepT w0, w' = x.val) hm hB ⟨⟨_, hb.drew⟩, rfl⟩ (by simpa using h)
/-- a callee that lays blocks of its own -/
theorem keepCall {P : Program} {f : FuncId} {args : Array Value} {w0 : World} {x : KeepT w0} {v : Value}
    (h : Calls P f args x.val fun e w' => e = .returned v ∧ Below x.val.heap.size x.val w') : Calls P f args x.val fun e w'' => e = .returned v ∧ ∃ y : KeepT w0, w'' = y.val :=
  h.mono fun _ w' ⟨he, hb⟩ => ⟨he, ⟨w', x.below.trans (hb.mono x.below.size)⟩, rfl⟩
/-- a callee that leaves the world alone -/
theorem keepSame {P : Program} {f : FuncId} {args : Array Value} {w0 : World} {x : KeepT w0} {v : Value}
    (h : Calls P f args x.val fun e w' => e = .returned v ∧ x.val = w') : Calls P f args x.val fun e w'' => e = .returned v ∧ ∃ y : KeepT w0, w'' = y.val :=
  h.mono fun _ w' ⟨he, hw⟩ => ⟨he, x, hw.symm⟩

/-! a row that is filled from its beginning on -/
def fill (l : List Value) (z : Value) (n : Nat) : Array Value := (l ++ List.replicate (n - l.length) z).toArray
theorem fill_zero (z : Value) (n : Nat) : madeCells #[z] n = fill [] z n := by
  apply Array.toList_inj.1
  simp only [fill, List.nil_append, List.length_nil, Nat.sub_zero, madeCells, Array.toList_map, Array.toList_range]
  rw [List.eq_replicate_iff]
  refine ⟨by simp, ?_⟩
  intro b hb
  obtain ⟨a, _, rfl⟩ := List.mem_map.1 hb
  simp [Nat.mod_one]
theorem fill_get (l : List Value) (z : Value) (n : Nat) (h : l.length < n) : (fill l z n)[l.length]? = some z := by
  simp only [fill, List.getElem?_toArray]
  rw [List.getElem?_append_right (Nat.le_refl _), Nat.sub_self, List.getElem?_replicate, if_pos (by omega)]
theorem fill_set (l : List Value) (z v : Value) (n : Nat) (h : l.length < n) : (fill l z n).setIfInBounds l.length v = fill (l ++ [v]) z n := by
  apply Array.toList_inj.1
  simp only [fill, List.setIfInBounds_toArray]
  rw [List.set_append_right _ _ (Nat.le_refl _), Nat.sub_self, show n - l.length = (n - (l ++ [v]).length) + 1 from by simp; omega, List.replicate_succ]
  simp
theorem fill_full (l : List Value) (z : Value) (n : Nat) (h : l.length = n) : fill l z n = l.toArray := by
  simp [fill, h]
theorem fill_size (l : List Value) (z : Value) (n : Nat) (h : l.length ≤ n) : (fill l z n).size = n := by
  simp [fill]; omega
/-- the text of the bytes of a block -/
theorem block_string {P : Program} {w : World} {g : Nat} {e : TypeId} {cap : Nat} (l : List UInt8) {src dst : TypeId} (n : Nat) (hn : l.length = n)
    (hg : w.heap[g]? = some (.cells (l.map fun x => Value.int .u8 x.toNat).toArray e (0, 0)))
    (hs : P.underlying src = some (.slice e)) (he : P.underlying e = some (.int .u8)) (hd : P.underlying dst = some .string) :
    (convert src dst (.slice (some ⟨g, 0, none⟩) n cap)).run P w = .ok (.string ⟨l.toArray⟩) w := by
  have := run_convert_bytes_arg (P := P) w src e hs he g 0 n cap (l.map fun b => (b.toNat : Int)) (by simpa using hn)
    (by
      intro i hi
      have : i < l.length := by omega
      rw [Nat.zero_add, cell_of_row w g i _ e (0, 0) hg]
      simp [List.getD, this]) dst hd
  rw [this]
  congr 2
  simp [strOfNums, Function.comp_def]

/-- 'a + b' on short texts -/
theorem add_run {P : Program} (a b c : ByteArray) (h : c = a ++ b) (hs : a.size + b.size ≤ 9223372036854775807) (u : World) : (Op.stringOp .add a b).run P u = .ok (.string c) u := by
  rw [h]; exact run_string_add_sum _ _ _ hs
/-- a number's bytes, as a text -/
def numS (n k : Nat) : ByteArray := ⟨(putL n k).toArray⟩
theorem numS_size (n k : Nat) : (numS n k).size = k := by rw [numS, ba_size, putL_length]
theorem numS_list (n k : Nat) : (numS n k).data.toList = putL n k := by simp [numS]
theorem keep_cell {w0 : World} {B : Nat} {o : Obj} (h : w0.heap[B]? = some o) (x : KeepT w0) (j : Nat) : x.val.cell? ⟨B, j, none⟩ = w0.cell? ⟨B, j, none⟩ :=
  x.below.cell (p := ⟨B, j, none⟩) (lt_of_block h)

/-- a cell of a block that was there -/
theorem below_cell {w0 w : World} {B : Nat} {cs : Array Value} {t : TypeId} {fr : Nat × Nat} (h : Below w0.heap.size w0 w) (hb : w0.heap[B]? = some (.cells cs t fr)) (j : Nat) {v : Value} (hv : cs[j]? = some v) :
    w.cell? ⟨B, j, none⟩ = some v := by
  rw [h.cell (p := ⟨B, j, none⟩) (lt_of_block hb), cell_of_row w0 B j cs t fr hb, hv]
theorem keep_at {w0 : World} {B : Nat} {cs : Array Value} {t : TypeId} {fr : Nat × Nat} (hb : w0.heap[B]? = some (.cells cs t fr)) (j : Nat) {v : Value} (hv : cs[j]? = some v) (x : KeepT w0) :
    x.val.cell? ⟨B, j, none⟩ = some v := below_cell x.below hb j hv
end Go.Proofs.Ytbcoooaoofbboaa
