/- Bytes, Gen, Sized, LePut, LeGet, RowOpen, Trim, Strs, Wrt, Disk, DiskR, ResRow, Row1, Bools, Fill, TrimMath, TrimTwice, in one text. -/
import Derived.WalkKit
import Derived.WalkSpells
import Derived.WalkLawsBesides
import Derived.Lib.Hide
import Derived.Deep.QuietTactic
import Derived.BigQuiet
import Derived.Deep.DeepCutAuto
import Derived.Test.YthnmnnlbglpjaaaGreatDoorRows
import Derived.ProofKit
import Derived.Lib.SmallJoins
import Derived.Deep.Slices
import Derived.SliceStrings
import Derived.ChangeSame
import Derived.Laws.ResultCell
import Derived.Laws.Rows
import Derived.Lib.Builder
import Derived.Laws.AppendOwnNone
import Derived.Outline
import Derived.Test.YthnmnnlbglpjaaaGreatDoorShelf
namespace Go.Proofs.YthnmnnlbglpjaaaGreatDoor
section SBytes
set_option linter.unusedVariables false

/-- n's bytes, the lowest one first, so many. -/
def putL (n : Nat) : Nat → List UInt8
  | 0 => []
  | k + 1 => UInt8.ofNat (n % 256) :: putL (n / 256) k
/-- the number that bytes make -/
def getL : List UInt8 → Nat
  | [] => 0
  | b :: r => b.toNat + 256 * getL r

theorem putL_length (n k : Nat) : (putL n k).length = k := by
  induction k generalizing n with
  | zero => rfl
  | succ k ih => simp [putL, ih]
theorem u8_mod (n : Nat) : (UInt8.ofNat (n % 256)).toNat = n % 256 := by
  rw [UInt8.toNat_ofNat']; omega
theorem putL_append (n a b : Nat) : putL n (a + b) = putL n a ++ putL (n / 256 ^ a) b := by
  induction a generalizing n with
  | zero => simp [putL]
  | succ a ih =>
    rw [show a + 1 + b = (a + b) + 1 from by omega]
    simp only [putL, List.cons_append]
    rw [ih, Nat.div_div_eq_div_mul, Nat.pow_succ, Nat.mul_comm 256]
theorem putL_snoc (n k : Nat) : putL n (k + 1) = putL n k ++ [UInt8.ofNat (n / 256 ^ k % 256)] := by
  rw [putL_append]; rfl
theorem getL_putL (n k : Nat) : getL (putL n k) = n % 256 ^ k := by
  induction k generalizing n with
  | zero => simp [putL, getL, Nat.mod_one]
  | succ k ih =>
    simp only [putL, getL, u8_mod, ih]
    rw [Nat.pow_succ, Nat.mul_comm (256 ^ k), Nat.mod_mul]
theorem getL_lt (l : List UInt8) : getL l < 256 ^ l.length := by
  induction l with
  | nil => simp [getL]
  | cons b r ih =>
    have hb := b.toNat_lt
    simp only [getL, List.length_cons, Nat.pow_succ]
    omega
theorem putL_getL (l : List UInt8) : putL (getL l) l.length = l := by
  induction l with
  | nil => rfl
  | cons b r ih =>
    have hb := b.toNat_lt
    simp only [getL, List.length_cons, putL]
    rw [show (b.toNat + 256 * getL r) % 256 = b.toNat from by omega, show (b.toNat + 256 * getL r) / 256 = getL r from by omega, ih]
    simp
theorem getL_append (a b : List UInt8) : getL (a ++ b) = getL a + 256 ^ a.length * getL b := by
  induction a with
  | nil => simp [getL]
  | cons x r ih =>
    simp only [List.cons_append, getL, ih, List.length_cons, Nat.pow_succ]
    rw [Nat.mul_add, Nat.mul_comm (256 ^ r.length) 256, Nat.mul_assoc]; omega
theorem getL_snoc (a : List UInt8) (x : UInt8) : getL (a ++ [x]) = getL a + 256 ^ a.length * x.toNat := by
  rw [getL_append]; simp [getL]
theorem putL_inj {n m k : Nat} (hn : n < 256 ^ k) (hm : m < 256 ^ k) (h : putL n k = putL m k) : n = m := by
  have := congrArg getL h
  rwa [getL_putL, getL_putL, Nat.mod_eq_of_lt hn, Nat.mod_eq_of_lt hm] at this
theorem pow256_8 : (256 : Nat) ^ 8 = 18446744073709551616 := by decide
theorem pow256_le {k : Nat} (h : k ≤ 8) : 256 ^ k ≤ 18446744073709551616 := by
  rw [← pow256_8]; exact Nat.pow_le_pow_right (by omega) h
theorem pow256_2 (k : Nat) : (256 : Nat) ^ k = 2 ^ (8 * k) := by rw [Nat.pow_mul]
/-- what is below 256 to so many: what the text asks is whether the byte above the last one but one is a byte -/
theorem lt_pow_iff (n k : Nat) (hk : 1 ≤ k) : n / 2 ^ (8 * (k - 1)) ≤ 255 ↔ n < 256 ^ k := by
  obtain ⟨j, rfl⟩ : ∃ j, k = j + 1 := ⟨k - 1, by omega⟩
  rw [show 8 * (j + 1 - 1) = 8 * j from by omega, ← pow256_2, Nat.pow_succ]
  rw [Nat.mul_comm (256 ^ j) 256, ← Nat.div_lt_iff_lt_mul (Nat.pow_pos (by omega))]
  omega
/-- a byte laid above what stands below: or is plus -/
theorem or_byte (x j b : Nat) (hj : j < 8) (hx : x < 256 ^ j) (hb : b < 256) :
    bits BinOp.or IntKind.u64 (x : Int) (IntKind.u64.wrap (IntKind.u64.wrap (b : Int) * 2 ^ (8 * j))) = ((x + 256 ^ j * b : Nat) : Int) := by
  have h8 : 256 ^ (j + 1) ≤ 18446744073709551616 := pow256_le (by omega)
  rw [Nat.pow_succ] at h8
  have hlt : 256 ^ j * b < 256 ^ j * 256 := Nat.mul_lt_mul_of_pos_left hb (Nat.pow_pos (by omega))
  have hx64 : x < 18446744073709551616 := by have := Nat.pow_pos (n := j) (show 0 < 256 by omega); omega
  have e1 : IntKind.u64.wrap (b : Int) = b := IntWalk.u64_in _ ⟨by omega, by omega⟩
  have e2 : ((b : Int) * 2 ^ (8 * j)) = ((256 ^ j * b : Nat) : Int) := by
    rw [pow256_2, Int.natCast_mul, Int.natCast_pow]; exact Int.mul_comm _ _
  have e3 : IntKind.u64.wrap ((256 ^ j * b : Nat) : Int) = ((256 ^ j * b : Nat) : Int) := IntWalk.u64_in _ ⟨by omega, by omega⟩
  rw [e1, e2, e3, u64_or_nat _ _ hx64 (by omega)]
  congr 1
  rw [Nat.or_comm, nat_join (8 * j) (256 ^ j * b) x (by rw [← pow256_2]; exact Nat.mul_mod_right _ _) (by rw [← pow256_2]; exact hx)]
  omega

/-! texts as lists of bytes -/
theorem ba_eq (s : ByteArray) : s = ⟨s.data.toList.toArray⟩ := by cases s; simp
theorem ba_size (l : List UInt8) : (ByteArray.mk l.toArray).size = l.length := by simp [ByteArray.size]
theorem ba_ext {a b : ByteArray} (h : a.data.toList = b.data.toList) : a = b := by
  rw [ba_eq a, ba_eq b, h]
theorem ba_inj {a b : List UInt8} (h : ByteArray.mk a.toArray = ByteArray.mk b.toArray) : a = b := by
  have := congrArg (fun s : ByteArray => s.data.toList) h; simpa using this
/-- two texts that are not one, as the walk asks it -/
theorem ba_tne {a b : ByteArray} (h : a ≠ b) : (a.toList == b.toList) = false := by
  rw [ByteArray.toList_eq, ByteArray.toList_eq, beq_eq_false_iff_ne]
  exact fun e => h (ba_ext e)
theorem ba_len (s : ByteArray) : s.data.toList.length = s.size := by rw [Array.length_toList]; rfl
theorem ba_extract (s : ByteArray) (a b : Nat) : s.extract a b = ⟨((s.data.toList.drop a).take (b - a)).toArray⟩ := by
  rw [← ByteArray.extract_mk, ← ba_eq]
theorem ba_extract_list (s : ByteArray) (a b : Nat) : (s.extract a b).data.toList = (s.data.toList.drop a).take (b - a) := by
  rw [ba_extract]
theorem ba_append_list (s t : ByteArray) : (s ++ t).data.toList = s.data.toList ++ t.data.toList := by simp
theorem take_getL (s : ByteArray) (p j : Nat) (h : p + j < s.size) :
    (s.data.toList.drop p).take (j + 1) = (s.data.toList.drop p).take j ++ [s[p + j]] := by
  rw [List.take_succ_eq_append_getElem (by simp; have := ba_len s; rw [Array.length_toList] at this; omega)]
  simp; rfl
end SBytes
section SGen
open Go.RowKit
set_option linter.unusedVariables false

theorem cells_new (w : World) (news : List Value) (e : TypeId) : ∀ j u, news[j]? = some u → (w.alloc (.cells news.toArray e)).cell? ((⟨w.heap.size, 0, none⟩ : Addr).add j) = some u := by
  intro j u hu
  have hadd : (⟨w.heap.size, 0, none⟩ : Addr).add j = ⟨w.heap.size, j, none⟩ := by unfold Addr.add; split <;> simp_all
  rw [hadd, World.cell?_alloc_new]
  simpa using hu

/-- 's = append(s, x)': x lies alone in the block that was laid last; s is the call's own. -/
theorem wpList_push {P : Program} {ops : Array Oper} {rest : List Oper} {o : Oper} {a : Act} {Q : Exit → Act → World → Prop} {w w0 : World}
    (s x : Operand) (t : TypeId) (e : TypeId) {i : TypeInfo} {z : Value} {size bytes : Nat} {base : Nat} {v : Value} {n : Nat} {xs news : List Value}
    (hown : w.ownsRow base e size v n xs) (hbel : Below base w0 w) (hbase : base ≤ w0.heap.size)
    (ht : P.underlying t = some (.slice e)) (hi : P.info? e = some i) (hz : i.zero = some z)
    (hsize : i.size = size) (hby : i.bytes = bytes) (hzs : z.cells.size = size) (hsz : 0 < size)
    (hgd : o.guard = none) (ho : o.op = .call { callee := .builtin .append, args := #[s, x], argTypes := #[t, t] })
    (hs : a.eval s = v) (hx : a.eval x = .slice (some ⟨w.heap.size, 0, none⟩) 1 1)
    (hl : news.length = size) (h1 : ∀ u ∈ news, u.oneCell' = true)
    (hroom : n ≤ 17592186044416 ∧ n * bytes + bytes ≤ 140737488355328)
    (h : ∀ v' w', w'.ownsRow base e size v' (n + 1) (xs ++ news) → Below base w0 w' → wpList P ops Q rest (a.put o.dst v') w') :
    wpList P ops Q (o :: rest) a (w.alloc (.cells news.toArray e)) := by
  refine wpList_append_own (w := w.alloc (.cells news.toArray e)) hgd s x t ho base e i z size bytes ht hi hz hsize hby hzs hsz v n xs hs (hown.alloc _) ⟨w.heap.size, 0, none⟩ 1 1 news hx (by simpa using hl) (cells_new w news e) h1
    (by unfold maxLen; omega) (by rw [Nat.add_mul]; omega) (by have := hbel.size; simp; omega) ?_
  intro v' w' h2 h3 h4
  refine h v' w' h2 ?_
  have hb1 : Below base w0 (w.alloc (.cells news.toArray e)) := hbel.alloc (by have := hbel.size; omega) _
  refine hb1.grown h3 (by have := hbel.size; simp; omega) ?_
  intro k hk
  exact (hown.lt k hk).1

/-- the bytes of a slice of the call's own, as a text -/
theorem own_string {P : Program} {w : World} {base : Nat} {e : TypeId} {v : Value} {n : Nat} (l : List UInt8) {src dst : TypeId}
    (hown : w.ownsRow base e 1 v n (l.map fun x => .int .u8 x.toNat))
    (hs : P.underlying src = some (.slice e)) (he : P.underlying e = some (.int .u8)) (hd : P.underlying dst = some .string) :
    (convert src dst v).run P w = .ok (.string ⟨l.toArray⟩) w := by
  have hlen : l.length = n := by simpa using hown.1
  rcases hown.2 with ⟨rfl, rfl⟩ | ⟨g, cap, cur, rfl, hg, hh, hn, hc, hcs, htake⟩
  · obtain rfl : l = [] := List.length_eq_zero_iff.1 hlen
    rw [run_convert_bytes_nil (P := P) w src e hs he 0 0 dst hd]
    rfl
  · have := run_convert_bytes_arg (P := P) w src e hs he g 0 n cap (l.map fun b => (b.toNat : Int)) (by simpa using hlen)
      (by
        intro i hi
        have hc := hown.cells (g := g) rfl i (.int .u8 ((l.map fun b => (b.toNat : Int)).getD i 0)) (by
          have : i < l.length := by omega
          simp [List.getD, this])
        have hadd : (⟨g, 0, none⟩ : Addr).add i = ⟨g, 0 + i, none⟩ := by unfold Addr.add; split <;> simp_all
        rw [hadd] at hc; exact hc) dst hd
    rw [this]
    congr 2
    simp [strOfNums, Function.comp_def]

/-- 'min(n, c)', as the walk spells it, under one name -/
theorem min_if (n : Nat) (c : Int) (hc : 0 ≤ c) : ∃ m : Nat, (if c < (n : Int) then c else (n : Int)) = (m : Int) ∧ m ≤ n ∧ (m : Int) ≤ c ∧ m = min n c.toNat := by
  refine ⟨min n c.toNat, ?_, Nat.min_le_left _ _, by omega, rfl⟩
  split <;> omega
theorem below_setRow {B : Nat} {a w : World} (h : Below B a w) {g : Nat} (hg : B ≤ g) (cs : Array Value) : Below B a (w.setRow g cs) :=
  h.trans ⟨rfl, rfl, rfl, by simp, fun k hk => by
    simp only [World.setRow, Array.getElem?_modify]
    rw [if_neg (by omega)]⟩
/-- what a call leaves as it was, seen from where the caller began -/
theorem keep {P : Program} {f : FuncId} {args : Array Value} {w w0 : World} {Q : Ending → Prop} (hb : Below w0.heap.size w0 w)
    (h : Calls P f args w fun e w' => Q e ∧ Below w.heap.size w w') : Calls P f args w fun e w' => Q e ∧ Below w0.heap.size w0 w' :=
  h.mono fun _ _ ⟨hq, hb'⟩ => ⟨hq, hb.trans (hb'.mono hb.size)⟩
theorem extract0_size (s : ByteArray) (m : Nat) (h : m ≤ s.size) : (s.extract 0 m).size = m := by
  rw [ByteArray.size_extract]; omega

/-! A region that draws its order, whose callees lay blocks of their own: one walk, in the order of the text. -/
/-- a world that is as w0 was below w0's end -/
def KeepT (w0 : World) : Type := { w' : World // Below w0.heap.size w0 w' }
def KeepT.val {w0 : World} (x : KeepT w0) : World := x.1
theorem KeepT.below {w0 : World} (x : KeepT w0) : Below w0.heap.size w0 x.val := x.2
instance (w0 : World) : Nonempty (KeepT w0) := ⟨⟨w0, Below.refl _ _⟩⟩
theorem wp_region_keep {P : Program} {id : Nat} {Q : Exit → Act → World → Prop} {a : Act} {w w0 : World} {l : List Oper} (hm : P.follows .mixedOrders = true) (hB : Region.lexB .any l.toArray = true)
    (hb : Below w0.heap.size w0 w)
    (h : wpQuiet P l.toArray (fun w' => ∃ x : KeepT w0, w' = x.val) (fun a' => ∀ w', (∃ x : KeepT w0, w' = x.val) → Q .normal a' w') l a) : (Code.region id l.toArray true).wp P Q a w :=
  wp_region_quiet (C := fun w' => ∃ x : KeepT w0, w' = x.val) hm hB ⟨⟨_, hb.drew⟩, rfl⟩ (by simpa using h)
/-- a callee that lays blocks of its own -/
theorem keepCall {P : Program} {f : FuncId} {args : Array Value} {w0 : World} {x : KeepT w0} {v : Value}
    (h : Calls P f args x.val fun e w' => e = .returned v ∧ Below x.val.heap.size x.val w') : Calls P f args x.val fun e w'' => e = .returned v ∧ ∃ y : KeepT w0, w'' = y.val :=
  h.mono fun _ w' ⟨he, hb⟩ => ⟨he, ⟨w', x.below.trans (hb.mono x.below.size)⟩, rfl⟩
/-- a callee that leaves the world alone -/
theorem keepSame {P : Program} {f : FuncId} {args : Array Value} {w0 : World} {x : KeepT w0} {v : Value}
    (h : Calls P f args x.val fun e w' => e = .returned v ∧ x.val = w') : Calls P f args x.val fun e w'' => e = .returned v ∧ ∃ y : KeepT w0, w'' = y.val :=
  h.mono fun _ w' ⟨he, hw⟩ => ⟨he, x, hw.symm⟩

/-! a row that is filled from its beginning on -/
def fill (l : List Value) (z : Value) (n : Nat) : Array Value := (l ++ List.replicate (n - l.length) z).toArray
theorem fill_zero (z : Value) (n : Nat) : madeCells #[z] n = fill [] z n := by
  apply Array.toList_inj.1
  simp only [fill, List.nil_append, List.length_nil, Nat.sub_zero, madeCells, Array.toList_map, Array.toList_range]
  rw [List.eq_replicate_iff]
  refine ⟨by simp, ?_⟩
  intro b hb
  obtain ⟨a, _, rfl⟩ := List.mem_map.1 hb
  simp [Nat.mod_one]
theorem fill_get (l : List Value) (z : Value) (n : Nat) (h : l.length < n) : (fill l z n)[l.length]? = some z := by
  simp only [fill, List.getElem?_toArray]
  rw [List.getElem?_append_right (Nat.le_refl _), Nat.sub_self, List.getElem?_replicate, if_pos (by omega)]
theorem fill_set (l : List Value) (z v : Value) (n : Nat) (h : l.length < n) : (fill l z n).setIfInBounds l.length v = fill (l ++ [v]) z n := by
  apply Array.toList_inj.1
  simp only [fill, List.setIfInBounds_toArray]
  rw [List.set_append_right _ _ (Nat.le_refl _), Nat.sub_self, show n - l.length = (n - (l ++ [v]).length) + 1 from by simp; omega, List.replicate_succ]
  simp
theorem fill_full (l : List Value) (z : Value) (n : Nat) (h : l.length = n) : fill l z n = l.toArray := by
  simp [fill, h]
theorem fill_size (l : List Value) (z : Value) (n : Nat) (h : l.length ≤ n) : (fill l z n).size = n := by
  simp [fill]; omega
/-- the text of the bytes of a block -/
theorem block_string {P : Program} {w : World} {g : Nat} {e : TypeId} {cap : Nat} (l : List UInt8) {src dst : TypeId} (n : Nat) (hn : l.length = n)
    (hg : w.heap[g]? = some (.cells (l.map fun x => Value.int .u8 x.toNat).toArray e (0, 0)))
    (hs : P.underlying src = some (.slice e)) (he : P.underlying e = some (.int .u8)) (hd : P.underlying dst = some .string) :
    (convert src dst (.slice (some ⟨g, 0, none⟩) n cap)).run P w = .ok (.string ⟨l.toArray⟩) w := by
  have := run_convert_bytes_arg (P := P) w src e hs he g 0 n cap (l.map fun b => (b.toNat : Int)) (by simpa using hn)
    (by
      intro i hi
      have : i < l.length := by omega
      rw [Nat.zero_add, cell_of_row w g i _ e (0, 0) hg]
      simp [List.getD, this]) dst hd
  rw [this]
  congr 2
  simp [strOfNums, Function.comp_def]

/-- 'a + b' on short texts -/
theorem add_run {P : Program} (a b c : ByteArray) (h : c = a ++ b) (hs : a.size + b.size ≤ 9223372036854775807) (u : World) : (Op.stringOp .add a b).run P u = .ok (.string c) u := by
  rw [h]; exact run_string_add_sum _ _ _ hs
/-- a number's bytes, as a text -/
def numS (n k : Nat) : ByteArray := ⟨(putL n k).toArray⟩
theorem numS_size (n k : Nat) : (numS n k).size = k := by rw [numS, ba_size, putL_length]
theorem numS_list (n k : Nat) : (numS n k).data.toList = putL n k := by simp [numS]
theorem keep_cell {w0 : World} {B : Nat} {o : Obj} (h : w0.heap[B]? = some o) (x : KeepT w0) (j : Nat) : x.val.cell? ⟨B, j, none⟩ = w0.cell? ⟨B, j, none⟩ :=
  x.below.cell (p := ⟨B, j, none⟩) (lt_of_block h)

/-- a cell of a block that was there -/
theorem below_cell {w0 w : World} {B : Nat} {cs : Array Value} {t : TypeId} {fr : Nat × Nat} (h : Below w0.heap.size w0 w) (hb : w0.heap[B]? = some (.cells cs t fr)) (j : Nat) {v : Value} (hv : cs[j]? = some v) :
    w.cell? ⟨B, j, none⟩ = some v := by
  rw [h.cell (p := ⟨B, j, none⟩) (lt_of_block hb), cell_of_row w0 B j cs t fr hb, hv]
theorem keep_at {w0 : World} {B : Nat} {cs : Array Value} {t : TypeId} {fr : Nat × Nat} (hb : w0.heap[B]? = some (.cells cs t fr)) (j : Nat) {v : Value} (hv : cs[j]? = some v) (x : KeepT w0) :
    x.val.cell? ⟨B, j, none⟩ = some v := below_cell x.below hb j hv
end SGen
section SSized
open Go.RowKit
set_option linter.unusedVariables false

set_option maxRecDepth 100000 in
theorem leSized_any (n : Int) (w : World) : Calls Tryz.prog 112 #[.int .i64 n] w fun e w' => e = .returned (.bool (decide (1 ≤ n ∧ n ≤ 8))) ∧ w = w' := by
  by_cases h1 : 1 ≤ n <;> by_cases h8 : n ≤ 8
  all_goals
    go_enter Tryz.func112, Tryz.ntmps112
    go_wp2
    go_ret
    refine ⟨?_, rfl⟩
    simp [*]
end SSized
section SLePut
open Go.RowKit
set_option linter.unusedVariables false

theorem infoU8 : (Tryz.prog.info? 5).map (fun i => (i.zero, i.size, i.bytes)) = some (some (.int .u8 0), 1, 1) := by kernel_rfl

def putCells (n k j : Nat) : Array Value := ((putL n j).map (fun b => Value.int .u8 b.toNat) ++ List.replicate (k - j) (Value.int .u8 0)).toArray
theorem putCells_zero (n k : Nat) : madeCells #[Value.int .u8 0] k = putCells n k 0 := by
  apply Array.toList_inj.1
  simp only [putCells, putL, List.map_nil, List.nil_append, Nat.sub_zero, madeCells, Array.toList_map, Array.toList_range]
  rw [List.eq_replicate_iff]
  refine ⟨by simp, ?_⟩
  intro b hb
  obtain ⟨a, _, rfl⟩ := List.mem_map.1 hb
  simp [Nat.mod_one]
theorem putCells_get (n k j : Nat) (h : j < k) : (putCells n k j)[j]? = some (.int .u8 0) := by
  have h2 : j - (putL n j).length < k - j := by rw [putL_length]; omega
  simp only [putCells, List.getElem?_toArray]
  rw [List.getElem?_append_right (by simp [putL_length])]
  simp only [List.length_map]
  rw [List.getElem?_replicate, if_pos h2]
theorem putCells_set (n k j : Nat) (h : j < k) : (putCells n k j).setIfInBounds j (.int .u8 ((n / 256 ^ j % 256 : Nat) : Int)) = putCells n k (j + 1) := by
  apply Array.toList_inj.1
  simp only [putCells, List.setIfInBounds_toArray, putL_snoc, List.map_append, List.map_cons, List.map_nil, List.append_assoc]
  rw [List.set_append_right _ _ (by simp [putL_length])]
  simp only [List.length_map, putL_length, Nat.sub_self]
  rw [show k - j = (k - (j + 1)) + 1 from by omega, List.replicate_succ]
  simp
theorem putCells_all (n k : Nat) : ∀ i, i < k → (putCells n k k)[i]? = some (.int .u8 (((putL n k).map fun b => (b.toNat : Int)).getD i 0)) := by
  intro i hi
  have h : i < (putL n k).length := by rw [putL_length]; exact hi
  simp [putCells, h, List.getD]

def putOk (n k : Int) : Bool := decide (1 ≤ k ∧ k ≤ 8 ∧ n.toNat < 256 ^ k.toNat)
def putS (n k : Int) : ByteArray := if putOk n k then ⟨(putL n.toNat k.toNat).toArray⟩ else ⟨#[]⟩
def putE (n k : Int) : Int := if putOk n k then 0 else 1

set_option maxRecDepth 100000 in
theorem lePut_bad (n k : Int) (w : World) (h0 : 0 ≤ n) (h1 : n ≤ 18446744073709551615) (h : putOk n k = false) :
    Calls Tryz.prog 95 #[.int .u64 n, .int .i64 k] w fun e w' => e = .returned (.tuple #[.string ⟨#[]⟩, .int .i64 1]) ∧ w = w' := by
  by_cases hk : 1 ≤ k ∧ k ≤ 8
  · obtain ⟨hk1, hk8⟩ := hk
    obtain ⟨j, rfl⟩ := Int.eq_ofNat_of_zero_le (show 0 ≤ k by omega)
    obtain ⟨m, rfl⟩ := Int.eq_ofNat_of_zero_le h0
    have hbig : ¬ (m / 2 ^ (8 * (j - 1)) ≤ 255) := by
      rw [lt_pow_iff _ _ (by omega)]
      intro hh
      have : putOk m j = true := by simp only [putOk, Int.toNat_natCast]; exact decide_eq_true ⟨hk1, hk8, hh⟩
      rw [this] at h; cases h
    have hb : (255 : Int) < (m : Int) / 2 ^ (8 * (j - 1)) := by
      have e : ((m : Int) / 2 ^ (8 * (j - 1))) = ((m / 2 ^ (8 * (j - 1)) : Nat) : Int) := by simp
      rw [e]; omega
    clear h hbig
    have hz : decide (1 ≤ (j : Int) ∧ (j : Int) ≤ 8) = true := decide_eq_true ⟨hk1, hk8⟩
    go_enter Tryz.func95, Tryz.ntmps95
    go_wp2_with (first | (go_at_call 112; refine (leSized_any _ _).mono ?_; rintro e w' ⟨rfl, rfl⟩))
    go_ret2
    exact ⟨rfl, rfl⟩
  · have hz : decide (1 ≤ k ∧ k ≤ 8) = false := decide_eq_false hk
    clear h hk
    go_enter Tryz.func95, Tryz.ntmps95
    go_wp2_with (first | (go_at_call 112; refine (leSized_any _ _).mono ?_; rintro e w' ⟨rfl, rfl⟩))
    go_ret2
    exact ⟨rfl, rfl⟩

set_option maxRecDepth 100000 in
theorem lePut_ok (n k : Nat) (w : World) (h1 : n < 256 ^ k) (hs1 : 1 ≤ k) (hs2 : k ≤ 8) :
    Calls Tryz.prog 95 #[.int .u64 n, .int .i64 k] w fun e w' => e = .returned (.tuple #[.string ⟨(putL n k).toArray⟩, .int .i64 0]) ∧ Below w.heap.size w w' := by
  obtain ⟨i0, hi, hz0, hz1, hz2⟩ := info_parts infoU8
  have hmk : ∀ u : World, (Instr.makeSlice 133 (.int .i64 (k : Int)) (.int .i64 (k : Int))).run Tryz.prog u =
      .ok (.slice (some ⟨u.heap.size, 0, none⟩) k k) (u.alloc (.cells (madeCells #[.int .u8 0] k) 5)) := fun u => by
    have h := run_make (P := Tryz.prog) u 133 5 i0 (.int .u8 0) Tryz.underlying133 hi hz0 .i64 .i64 (k : Int) (k : Int) (by omega) (Int.le_refl _) (by rw [hz2]; omega) (by omega)
    simpa [hz1, Value.cells] using h
  have hn64 : n < 18446744073709551616 := Nat.lt_of_lt_of_le h1 (pow256_le hs2)
  have hlt := (lt_pow_iff n k hs1).2 h1
  have hle : (n : Int) / 2 ^ (8 * (k - 1)) ≤ 255 := by
    have e : ((n : Int) / 2 ^ (8 * (k - 1))) = ((n / 2 ^ (8 * (k - 1)) : Nat) : Int) := by simp
    rw [e]; omega
  have hb1 : (1 : Int) ≤ k := by omega
  have hb8 : (k : Int) ≤ 8 := by omega
  have hn : (n : Int) ≤ 18446744073709551615 := by omega
  have hz : decide (1 ≤ (k : Int) ∧ (k : Int) ≤ 8) = true := decide_eq_true ⟨hb1, hb8⟩
  clear hlt h1 hn64
  go_enter Tryz.func95, Tryz.ntmps95
  go_wp2_with (first | (go_at_call 112; refine (leSized_any _ _).mono ?_; rintro e w' ⟨rfl, rfl⟩))
  go_loopw [22] (fun c wr => ∃ j : Nat, j ≤ k ∧ c = .int .i64 j ∧ wr = w.alloc (.cells (putCells n k j) 5)) (fun c _ => k - (intOf c).toNat)
  case atStart => exact ⟨0, by omega, rfl, by rw [putCells_zero n]⟩
  case round =>
    obtain ⟨j, hj, rfl, rfl⟩ := hrel
    by_cases hlt : j < k
    · have hget := putCells_get n k j hlt
      have HS := Lib.hid (putCells_set n k j hlt)
      go_wp2
      go_roundw
      case rel =>
        refine ⟨j + 1, by omega, by go_num, ?_⟩
        rw [← HS.out]
        congr 4
        rw [pow256_2]
        simp
      case measure => simp [intOf]; omega
    · obtain rfl : j = k := by omega
      have hall := putCells_all n j
      have hcv : (convert 133 9 (.slice (some ⟨w.heap.size, 0, none⟩) j j)).run Tryz.prog (w.alloc (.cells (putCells n j j) 5)) = .ok (.string ⟨(putL n j).toArray⟩) (w.alloc (.cells (putCells n j j) 5)) := by
        have h := run_convert_bytes_arg (P := Tryz.prog) (w.alloc (.cells (putCells n j j) 5)) 133 5 Tryz.underlying133 Tryz.underlying5 w.heap.size 0 j j ((putL n j).map fun b => (b.toNat : Int)) (by simp [putL_length])
          (by intro i hi; rw [Nat.zero_add, World.cell?_alloc_new]; exact hall i hi) 9 Tryz.underlying9
        rw [h]
        congr 2
        simp [strOfNums, Function.comp_def]
      clear hall
      go_wp2
      go_ret2
      exact ⟨rfl, (Below.refl _ _).alloc (Nat.le_refl _) _⟩

/-- whatever it is handed -/
theorem lePut_any (n k : Int) (w : World) (h0 : 0 ≤ n) (h1 : n ≤ 18446744073709551615) :
    Calls Tryz.prog 95 #[.int .u64 n, .int .i64 k] w fun e w' => e = .returned (.tuple #[.string (putS n k), .int .i64 (putE n k)]) ∧ Below w.heap.size w w' := by
  cases h : putOk n k with
  | false =>
    refine (lePut_bad n k w h0 h1 h).mono ?_
    rintro e w' ⟨rfl, rfl⟩
    exact ⟨by simp [putS, putE, h], Below.refl _ _⟩
  | true =>
    obtain ⟨hk1, hk8, hlt⟩ := of_decide_eq_true h
    obtain ⟨j, rfl⟩ := Int.eq_ofNat_of_zero_le (show 0 ≤ k by omega)
    obtain ⟨m, rfl⟩ := Int.eq_ofNat_of_zero_le h0
    simp only [Int.toNat_natCast] at hlt
    refine (lePut_ok m j w hlt (by omega) (by omega)).mono ?_
    rintro e w' ⟨rfl, hb⟩
    exact ⟨by simp [putS, putE, h], hb⟩
end SLePut
section SLeGet
open Go.RowKit
set_option linter.unusedVariables false

/-- the bytes from a place on, so many -/
def cutL (s : ByteArray) (p k : Nat) : List UInt8 := (s.data.toList.drop p).take k
theorem cutL_length (s : ByteArray) (p k : Nat) (h : p + k ≤ s.size) : (cutL s p k).length = k := by
  have := ba_len s
  simp only [cutL, List.length_take, List.length_drop]; omega

/-- the number, the place behind it, the error -/
def getE (s : ByteArray) (p k : Int) : Int := if 1 ≤ k ∧ k ≤ 8 ∧ 0 ≤ p then (if p + k ≤ s.size then 0 else 3) else 1
def getN (s : ByteArray) (p k : Int) : Int := if getE s p k = 0 then (getL (cutL s p.toNat k.toNat) : Int) else 0
def getT (s : ByteArray) (p k : Int) : Int := if getE s p k = 0 then p + k else 0

set_option maxRecDepth 100000 in
theorem leGet_ok (s : ByteArray) (p k : Nat) (w : World) (hs : s.size ≤ 9223372036854775807) (hs1 : 1 ≤ k) (hs2 : k ≤ 8) (hp : p + k ≤ s.size) :
    Calls Tryz.prog 117 #[.string s, .int .i64 p, .int .i64 k] w fun e w' => e = .returned (.tuple #[.int .u64 (getL (cutL s p k) : Nat), .int .i64 ((p + k : Nat) : Int), .int .i64 0]) ∧ w = w' := by
  have hb1 : (1 : Int) ≤ k := by omega
  have hb8 : (k : Int) ≤ 8 := by omega
  have hz : decide (1 ≤ (k : Int) ∧ (k : Int) ≤ 8) = true := decide_eq_true ⟨hb1, hb8⟩
  go_enter Tryz.func117, Tryz.ntmps117
  go_wp2_with (first | (go_at_call 112; refine (leSized_any _ _).mono ?_; rintro e w' ⟨rfl, rfl⟩))
  go_loop [9, 25] (fun n c => ∃ j : Nat, j ≤ k ∧ c = .int .i64 j ∧ n = .int .u64 (getL (cutL s p j) : Nat)) (fun _ c => k - (intOf c).toNat)
  case atStart => exact ⟨0, by omega, rfl, by simp [cutL, getL]⟩
  case round =>
    obtain ⟨j, hj, rfl, rfl⟩ := hrel
    by_cases hlt : j < k
    · have hidx : p + j < s.size := by omega
      have hx := getL_lt (cutL s p j)
      rw [cutL_length s p j (by omega)] at hx
      have hor := or_byte (getL (cutL s p j)) j s[p + j].toNat (by omega) hx (UInt8.toNat_lt _)
      have hsn : getL (cutL s p (j + 1)) = getL (cutL s p j) + 256 ^ j * s[p + j].toNat := by
        have := getL_snoc (cutL s p j) s[p + j]
        rw [cutL_length s p j (by omega)] at this
        rw [← this]
        exact congrArg getL (take_getL s p j hidx)
      rw [← hsn] at hor
      have HO := Lib.hid hor
      clear hor hsn hx
      go_wp2
      go_round
      case rel => exact ⟨j + 1, by omega, by go_num, by rw [HO.out]⟩
      case measure => simp [intOf]; omega
    · obtain rfl : j = k := by omega
      go_wp2
      go_ret3
      exact ⟨rfl, rfl⟩

set_option maxRecDepth 100000 in
theorem leGet_short (s : ByteArray) (p k : Int) (w : World) (hs : s.size ≤ 9223372036854775807) (hs1 : 1 ≤ k) (hs2 : k ≤ 8) (h0 : 0 ≤ p) (hp : ¬ p + k ≤ s.size) (hp2 : p ≤ 9223372036854775807) :
    Calls Tryz.prog 117 #[.string s, .int .i64 p, .int .i64 k] w fun e w' => e = .returned (.tuple #[.int .u64 0, .int .i64 0, .int .i64 3]) ∧ w = w' := by
  have hz : decide (1 ≤ k ∧ k ≤ 8) = true := decide_eq_true ⟨hs1, hs2⟩
  go_enter Tryz.func117, Tryz.ntmps117
  go_wp2_with (first | (go_at_call 112; refine (leSized_any _ _).mono ?_; rintro e w' ⟨rfl, rfl⟩))
  go_ret3
  exact ⟨rfl, rfl⟩

set_option maxRecDepth 100000 in
theorem leGet_bad (s : ByteArray) (p k : Int) (w : World) (h : ¬ (1 ≤ k ∧ k ≤ 8 ∧ 0 ≤ p)) :
    Calls Tryz.prog 117 #[.string s, .int .i64 p, .int .i64 k] w fun e w' => e = .returned (.tuple #[.int .u64 0, .int .i64 0, .int .i64 1]) ∧ w = w' := by
  by_cases hk : 1 ≤ k ∧ k ≤ 8
  · have hz : decide (1 ≤ k ∧ k ≤ 8) = true := decide_eq_true hk
    have hp : p < 0 := by omega
    clear hk h
    go_enter Tryz.func117, Tryz.ntmps117
    go_wp2_with (first | (go_at_call 112; refine (leSized_any _ _).mono ?_; rintro e w' ⟨rfl, rfl⟩))
    go_ret3
    exact ⟨rfl, rfl⟩
  · have hz : decide (1 ≤ k ∧ k ≤ 8) = false := decide_eq_false hk
    clear hk h
    go_enter Tryz.func117, Tryz.ntmps117
    go_wp2_with (first | (go_at_call 112; refine (leSized_any _ _).mono ?_; rintro e w' ⟨rfl, rfl⟩))
    go_ret3
    exact ⟨rfl, rfl⟩

theorem leGet_any (s : ByteArray) (p k : Int) (w : World) (hs : s.size ≤ 9223372036854775807) (hp2 : p ≤ 9223372036854775807) :
    Calls Tryz.prog 117 #[.string s, .int .i64 p, .int .i64 k] w fun e w' => e = .returned (.tuple #[.int .u64 (getN s p k), .int .i64 (getT s p k), .int .i64 (getE s p k)]) ∧ w = w' := by
  by_cases h : 1 ≤ k ∧ k ≤ 8 ∧ 0 ≤ p
  · obtain ⟨h1, h8, h0⟩ := h
    by_cases hp : p + k ≤ s.size
    · obtain ⟨j, rfl⟩ := Int.eq_ofNat_of_zero_le (show 0 ≤ k by omega)
      obtain ⟨m, rfl⟩ := Int.eq_ofNat_of_zero_le h0
      refine (leGet_ok s m j w hs (by omega) (by omega) (by omega)).mono ?_
      rintro e w' ⟨rfl, rfl⟩
      have he : getE s m j = 0 := by simp only [getE]; rw [if_pos ⟨h1, h8, h0⟩, if_pos hp]
      exact ⟨by simp [getN, getT, he], rfl⟩
    · refine (leGet_short s p k w hs h1 h8 h0 hp hp2).mono ?_
      rintro e w' ⟨rfl, rfl⟩
      have he : getE s p k = 3 := by simp only [getE]; rw [if_pos ⟨h1, h8, h0⟩, if_neg hp]
      exact ⟨by simp [getN, getT, he], rfl⟩
  · refine (leGet_bad s p k w h).mono ?_
    rintro e w' ⟨rfl, rfl⟩
    have he : getE s p k = 1 := by simp only [getE]; rw [if_neg h]
    exact ⟨by simp [getN, getT, he], rfl⟩
end SLeGet
section SRowOpen
open Go.ChangeShapes Go.WideShapes Go.ChangeAt Go.RowKit Go.Joins Go.Deep
set_option linter.unusedVariables false

theorem addr_add (b off k : Nat) : (⟨b, off, none⟩ : Addr).add k = ⟨b, off + k, none⟩ := by unfold Addr.add; split <;> simp_all
theorem wf_i64 {a : Int} (h : (Lit.int .i64 a).wf = true) : -9223372036854775808 ≤ a ∧ a ≤ 9223372036854775807 := by simpa [Lit.wf, IntKind.min, IntKind.max, IntKind.signed, IntKind.bits] using h
theorem wf_u32 {a : Int} (h : (Lit.int .u32 a).wf = true) : 0 ≤ a ∧ a ≤ 4294967295 := by simpa [Lit.wf, IntKind.min, IntKind.max, IntKind.signed, IntKind.bits] using h
theorem wf_u64 {a : Int} (h : (Lit.int .u64 a).wf = true) : 0 ≤ a ∧ a ≤ 18446744073709551615 := by simpa [Lit.wf, IntKind.min, IntKind.max, IntKind.signed, IntKind.bits] using h

/-- a list out of what is said of each place -/
theorem list_of {α : Type} {P : Nat → α → Prop} (z : α) (n : Nat) (h : ∀ i, i < n → ∃ a, P i a) : ∃ l : List α, l.length = n ∧ ∀ i, i < n → P i (l.getD i z) := by
  induction n with
  | zero => exact ⟨[], rfl, fun i hi => by omega⟩
  | succ n ih =>
    obtain ⟨l, hl, hP⟩ := ih fun i hi => h i (by omega)
    obtain ⟨a, ha⟩ := h n (by omega)
    refine ⟨l ++ [a], by simp [hl], fun i hi => ?_⟩
    by_cases hlt : i < n
    · have := hP i hlt
      rwa [show (l ++ [a]).getD i z = l.getD i z from by simp [List.getD, List.getElem?_append_left (show i < l.length by omega)]]
    · obtain rfl : i = n := by omega
      rwa [show (l ++ [a]).getD i z = a from by simp [List.getD, ← hl]]

/-- a slice whose elements have C cells each, wherever it stands -/
theorem openElemsS {P : Program} {H : Type} {enc : TypeId × Value → H} {W : World} {v : Value} {d : DataW H} {p : List MemPlace} {t e : TypeId} (C : Nat) (z : Value)
    (ht : P.underlying t = some (.slice e)) (hC : P.cellsOf e = C) (hpos : 0 < C)
    (hv : ∃ a len cap, v = .slice a len cap) (h : DataW.Trod enc P W 0 (fun _ => true) true t v d p) :
    ∃ a len cap, v = .slice a len cap ∧ len ≤ cap ∧ cap ≤ 9223372036854775807 ∧
      (len = 0 ∨ ∃ b off, a = some ⟨b, off, none⟩ ∧ b < W.heap.size ∧ ∀ i, i < len → ∃ cs n y, cs.length = C ∧ (∀ j, j < C → W.cell? ⟨b, off + i * C + j, none⟩ = some (cs.getD j z)) ∧
        DataW.trod enc P W 0 (fun _ => true) true n e cs = some y) := by
  obtain ⟨a0, len, cap, rfl⟩ := hv
  obtain ⟨fuel, hf⟩ := h
  rcases open_slice ht hf with ⟨hcs, _⟩ | ⟨x, l, c, m, n, D, Pl, hcs, _, hl, hm, hmm, _, hi⟩
  · simp [Value.cells] at hcs
    obtain ⟨rfl, rfl, rfl⟩ := hcs
    exact ⟨none, 0, 0, rfl, Nat.le_refl _, by omega, .inl rfl⟩
  · simp [Value.cells] at hcs
    obtain ⟨rfl, rfl, rfl⟩ := hcs
    simp only [if_true] at hmm
    subst hmm
    unfold maxLen at hm
    refine ⟨_, len, _, rfl, hl, hm, ?_⟩
    by_cases h0 : len = 0
    · exact .inl h0
    · right
      have hat : ∀ i, i < len → ∃ cs, cs.length = C ∧ (∀ j, j < C → W.cell? (x.add (i * C + j)) = some (cs.getD j z)) ∧ DataW.trod enc P W 0 (fun _ => true) true n e cs = some (D i, Pl i) := by
        intro i hlt
        obtain ⟨cs, hc, htr⟩ := hi i (by omega)
        rw [hC] at hc
        obtain ⟨_, hcl, hat⟩ := World.cells?_some hc
        refine ⟨cs, hcl, fun j hj => ?_, htr⟩
        have := hat j hj
        rw [Go.Deep.add_add] at this
        rw [this, List.getElem?_eq_getElem (by omega)]
        simp [List.getD, List.getElem?_eq_getElem (show j < cs.length by omega)]
      obtain ⟨b, off, spot⟩ := x
      obtain ⟨cs0, _, hc0, _⟩ := hat 0 (by omega)
      have hc00 := hc0 0 hpos
      have hspot : spot = none := by simpa [Addr.add] using World.cell?_spot hc00
      subst hspot
      have hb : b < W.heap.size := by
        have := World.block_lt_of_cell? _ _ hc00
        rw [addr_add] at this
        exact this
      refine ⟨b, off, rfl, hb, fun i hlt => ?_⟩
      obtain ⟨cs, hl, hc, htr⟩ := hat i hlt
      refine ⟨cs, n, _, hl, fun j hj => ?_, htr⟩
      have := hc j hj
      rw [addr_add, ← Nat.add_assoc] at this
      exact this
/-- a slice whose elements have C cells each -/
theorem openElems {P : Program} {H : Type} {enc : TypeId × Value → H} {W : World} {base : Nat} {v : Value} {d : DataW H} {p : List MemPlace} {t e : TypeId} (C : Nat) (z : Value)
    (ht : P.underlying t = some (.slice e)) (hC : P.cellsOf e = C) (hpos : 0 < C)
    (hok : Value.okWide P W .any base t v) (h : DataW.Trod enc P W 0 (fun _ => true) true t v d p) :
    ∃ a len cap, v = .slice a len cap ∧ len ≤ cap ∧ cap ≤ 9223372036854775807 ∧
      (len = 0 ∨ ∃ b off, a = some ⟨b, off, none⟩ ∧ b < W.heap.size ∧ ∀ i, i < len → ∃ cs n y, cs.length = C ∧ (∀ j, j < C → W.cell? ⟨b, off + i * C + j, none⟩ = some (cs.getD j z)) ∧
        DataW.trod enc P W 0 (fun _ => true) true n e cs = some y) := openElemsS C z ht hC hpos (okWide_slice ht hok) h
/-- a slice that lies in a struct -/
theorem slice_of_trod {P : Program} {H : Type} {enc : TypeId × Value → H} {W : World} {t e : TypeId} {fuel : Nat} {c : Value} {y : DataW H × List MemPlace} (ht : P.underlying t = some (.slice e))
    (h : DataW.trod enc P W 0 (fun _ => true) true fuel t [c] = some y) : (∃ a len cap, c = .slice a len cap) ∧ ∃ d p, DataW.Trod enc P W 0 (fun _ => true) true t c d p := by
  have hv : ∃ a len cap, c = .slice a len cap := by
    rcases DataW.trod_slice ht h with ⟨hcs, _⟩ | ⟨a, len, cap, elems, rest, n, _, hcs, _⟩
    · exact ⟨none, 0, 0, by simpa using hcs⟩
    · exact ⟨_, _, _, by simpa using hcs⟩
  refine ⟨hv, ?_⟩
  obtain ⟨a, len, cap, rfl⟩ := hv
  exact ⟨y.1, y.2, fuel, h⟩
end SRowOpen
section STrim
open Go.RowKit
set_option linter.unusedVariables false

/-- how many bytes are left of the first k -/
def trimK (s : ByteArray) : Nat → Nat
  | 0 => 0
  | k + 1 => if s.data.toList.getD k 0 = 0 then trimK s k else k + 1
def trimS (s : ByteArray) : ByteArray := s.extract 0 (trimK s s.size)
theorem trimK_le (s : ByteArray) : ∀ k, trimK s k ≤ k
  | 0 => Nat.le_refl _
  | k + 1 => by
    have := trimK_le s k
    unfold trimK
    split <;> omega
theorem getB (s : ByteArray) (i : Nat) (h : i < s.size) : s.data.toList.getD i 0 = s[i] := by
  have : i < s.data.toList.length := by rw [ba_len]; exact h
  show (s.data.toList[i]?).getD 0 = s[i]
  rw [List.getElem?_eq_getElem this]
  rfl
theorem trimS_size (s : ByteArray) : (trimS s).size = trimK s s.size := by
  have := trimK_le s s.size
  rw [trimS, ByteArray.size_extract]; omega
theorem extract_extract0 (s : ByteArray) (a b : Nat) (h : b ≤ a) : (s.extract 0 a).extract 0 b = s.extract 0 b := by
  apply ba_ext
  rw [ba_extract_list, ba_extract_list, ba_extract_list]
  simp only [List.drop_zero, Nat.sub_zero]
  rw [List.take_take, Nat.min_eq_left h]
theorem extract00 (s : ByteArray) : s.extract 0 0 = ⟨#[]⟩ := by
  apply ba_ext
  rw [ba_extract_list]
  simp
theorem extract_all (s : ByteArray) : s.extract 0 s.size = s := by
  apply ba_ext
  rw [ba_extract_list]
  simp only [List.drop_zero, Nat.sub_zero]
  rw [← ba_len, List.take_length]

def strLen : Value → Nat
  | .string t => t.size
  | _ => 0
set_option maxHeartbeats 400000 in
theorem trimRightByte_any (s : ByteArray) (w : World) (hs : s.size ≤ 9223372036854775807) :
    Calls Tryz.prog 105 #[.string s, .int .u8 0] w fun e w' => e = .returned (.string (trimS s)) ∧ w = w' := by
  have hsI : (s.size : Int) ≤ 9223372036854775807 := by omega
  have hst := extract_all s
  go_enter Tryz.func105, Tryz.ntmps105
  go_wp2
  go_loop [0] (fun v => ∃ k : Nat, v = .string (s.extract 0 k) ∧ k ≤ s.size ∧ trimK s k = trimK s s.size) (fun v => strLen v)
  case atStart => exact ⟨s.size, by rw [hst], Nat.le_refl _, rfl⟩
  case round =>
    obtain ⟨k, rfl, hk, ht⟩ := hrel
    have hz : (s.extract 0 k).size = k := by rw [ByteArray.size_extract]; omega
    cases k with
    | zero =>
      have hT : trimS s = s.extract 0 0 := by unfold trimS; rw [← ht]; rfl
      have HT := Lib.hid hT
      generalize s.extract 0 0 = T at *
      have hzI : (T.size : Int) = 0 := by omega
      clear hT ht
      go_wp2
      go_ret
      exact ⟨by rw [HT.out]; rfl, rfl⟩
    | succ k =>
      have hzI : ((s.extract 0 (k + 1)).size : Int) = (k : Int) + 1 := by omega
      have hlt : k < (s.extract 0 (k + 1)).size := by omega
      have hg : (s.extract 0 (k + 1))[k]'hlt = s[k]'(by omega) := by
        rw [← getB _ k hlt, ← getB s k (by omega), ba_extract_list]
        simp [List.getD]
      have hB := getB s k (by omega)
      have hex := extract_extract0 s (k + 1) k (by omega)
      have hkI : (k : Int) ≤ 9223372036854775806 := by omega
      by_cases h0 : s[k]'(by omega) = 0
      · have hn : trimK s k = trimK s s.size := by rw [← ht, trimK, if_pos (by rw [hB]; exact h0)]
        rw [h0] at hg
        have HN := Lib.hid hn; have HEX := Lib.hid hex
        clear hn hB hex ht h0
        generalize s.extract 0 (k + 1) = T at *
        go_wp2
        go_round
        case rel => exact ⟨k, by rw [HEX.out], by omega, HN.out⟩
        case measure => simp only [strLen, ByteArray.size_extract]; omega
      · have hn : trimS s = s.extract 0 (k + 1) := by unfold trimS; rw [← ht, trimK, if_neg (by rw [hB]; exact h0)]
        have h0n : (s[k]'(by omega)).toNat ≠ 0 := fun h => h0 (UInt8.toNat_inj.1 h)
        rw [← hg] at h0n
        have HN := Lib.hid hn
        clear hn hB hex ht h0 hg
        generalize s.extract 0 (k + 1) = T at *
        go_wp2
        go_ret
        exact ⟨by rw [HN.out]; rfl, rfl⟩
theorem refTrim_any (s : ByteArray) (w : World) (hs : s.size ≤ 9223372036854775807) :
    Calls Tryz.prog 20 #[.string s] w fun e w' => e = .returned (.string (trimS s)) ∧ w = w' := by
  have hsI : (s.size : Int) ≤ 9223372036854775807 := by omega
  go_enter Tryz.func20, Tryz.ntmps20
  go_wp2
  go_loop [3] (fun x => ∃ k : Nat, x = .int .i64 k ∧ k ≤ s.size ∧ trimK s k = trimK s s.size) (fun x => (intOf x).toNat)
  case atStart => exact ⟨s.size, rfl, Nat.le_refl _, rfl⟩
  case round =>
    obtain ⟨k, rfl, hk, ht⟩ := hrel
    cases k with
    | zero =>
      have hT : trimS s = s.extract 0 0 := by unfold trimS; rw [← ht]; rfl
      have HT := Lib.hid hT
      clear hT ht
      go_wp2
      go_ret
      exact ⟨by rw [HT.out, extract00]; rfl, rfl⟩
    | succ k =>
      have hB := getB s k (by omega)
      have hkI : ((k + 1 : Nat) : Int) = (k : Int) + 1 := by omega
      have hkI2 : (k : Int) + 1 ≤ s.size := by omega
      have hks : k < s.size := by omega
      by_cases h0 : s[k]'(by omega) = 0
      · have hn : trimK s k = trimK s s.size := by rw [← ht, trimK, if_pos (by rw [hB]; exact h0)]
        have HN := Lib.hid hn
        clear hn hB ht
        go_wp2
        go_round
        case rel => exact ⟨k, by go_num, by omega, HN.out⟩
        case measure => first | (simp [intOf]; done) | (simp [intOf]; omega)
      · have hn : trimS s = s.extract 0 (k + 1) := by unfold trimS; rw [← ht, trimK, if_neg (by rw [hB]; exact h0)]
        have h0n : (s[k]'(by omega)).toNat ≠ 0 := fun h => h0 (UInt8.toNat_inj.1 h)
        have HN := Lib.hid hn
        clear hn hB ht h0
        go_wp2
        go_ret
        exact ⟨by rw [HN.out]; rfl, rfl⟩
set_option maxRecDepth 100000 in
theorem trimRight_any (s : ByteArray) (w : World) (hs : s.size ≤ 9223372036854775807) :
    Calls Tryz.prog 84 #[.string s, .string ⟨#[0]⟩] w fun e w' => e = .returned (.string (trimS s)) ∧ w = w' := by
  have H := Lib.hid (fun u => trimRightByte_any s u hs)
  by_cases h0 : s = ⟨#[]⟩
  · subst h0
    have hT : trimS ⟨#[]⟩ = ⟨#[]⟩ := by decide
    rw [hT]
    clear H
    go_enter Tryz.func84, Tryz.ntmps84
    go_wp2_with fail
    go_ret
    exact ⟨rfl, rfl⟩
  · have hne := ba_tne h0
    rw [show (⟨#[]⟩ : ByteArray).toList = [] from by rw [ByteArray.toList_eq]] at hne
    have hne1 : ¬ s.toList = [] := fun h => by rw [h] at hne; cases hne
    have hne2 : s.toList.isEmpty = false := by cases h : s.toList with | nil => exact absurd h hne1 | cons _ _ => rfl
    clear h0 hne
    go_enter Tryz.func84, Tryz.ntmps84
    go_wp2_with (first | (go_at_call 105; refine (H.out _).mono ?_; rintro e w' ⟨rfl, rfl⟩))
    go_ret
    exact ⟨rfl, rfl⟩
set_option maxRecDepth 100000 in
theorem leTrim_any (s : ByteArray) (w : World) (hs : s.size ≤ 9223372036854775807) :
    Calls Tryz.prog 57 #[.string s] w fun e w' => e = .returned (.string (trimS s)) ∧ w = w' := by
  have H := Lib.hid (fun u => trimRight_any s u hs)
  go_enter Tryz.func57, Tryz.ntmps57
  go_wp2_with (first | (go_at_call 84; refine (H.out _).mono ?_; rintro e w' ⟨rfl, rfl⟩))
  go_ret
  exact ⟨rfl, rfl⟩
end STrim
section SStrs
open Go.ChangeShapes Go.WideShapes Go.ChangeAt Go.RowKit
set_option linter.unusedVariables false

/-- v is a slice whose elements are the texts l. -/
def IsStrs (w : World) (v : Value) (l : List ByteArray) : Prop :=
  ∃ a len cap, v = .slice a len cap ∧ l.length = len ∧ len ≤ cap ∧ cap ≤ 9223372036854775807 ∧ (∀ s ∈ l, s.size ≤ 9223372036854775807) ∧
    (len = 0 ∨ ∃ b off, a = some ⟨b, off, none⟩ ∧ b < w.heap.size ∧ ∀ i, i < len → w.cell? ⟨b, off + i, none⟩ = some (.string (l.getD i ByteArray.empty)))

theorem openStrsS {H : Type} {enc : TypeId × Value → H} {W : World} {v : Value} {d : DataW H} {p : List MemPlace}
    (hv : ∃ a len cap, v = .slice a len cap) (h : DataW.Trod enc Tryz.prog W 0 (fun _ => true) true 22 v d p) : ∃ l, IsStrs W v l := by
  obtain ⟨a0, len, cap, rfl⟩ := hv
  obtain ⟨fuel, hf⟩ := h
  rcases open_strings Tryz.underlying22 Tryz.underlying9 (by kernel_rfl) hf with ⟨hcs, _⟩ | ⟨x, l, c, ss, hcs, _, hl, hm, hz, _, hcell, hws⟩
  · simp [Value.cells] at hcs
    obtain ⟨rfl, rfl, rfl⟩ := hcs
    exact ⟨[], none, 0, 0, rfl, rfl, Nat.le_refl _, by omega, by simp, .inl rfl⟩
  · simp [Value.cells] at hcs
    obtain ⟨rfl, rfl, rfl⟩ := hcs
    have hz' : ss.length = cap := by simpa using hz
    refine ⟨ss.take len, _, len, cap, rfl, by simp; omega, hl, hm, fun s hs => hws s (List.mem_of_mem_take hs), ?_⟩
    by_cases h0 : len = 0
    · exact .inl h0
    · right
      obtain ⟨b, off, spot⟩ := x
      have hc := hcell 0 (by omega)
      have hspot : spot = none := by simpa [Addr.add] using World.cell?_spot hc
      subst hspot
      refine ⟨b, off, rfl, World.block_lt_of_cell? _ _ hc, fun i hi => ?_⟩
      have hadd : (⟨b, off, none⟩ : Addr).add i = ⟨b, off + i, none⟩ := by unfold Addr.add; split <;> simp_all
      have := hcell i (by omega)
      rw [hadd] at this
      rw [this]
      congr 2
      simp only [List.getD, List.getElem?_take, if_pos hi]
set_option maxRecDepth 4000 in
theorem openStrs {H : Type} {enc : TypeId × Value → H} {W : World} {base : Nat} {v : Value} {d : DataW H} {p : List MemPlace}
    (hok : Value.okWide Tryz.prog W .any base 22 v) (h : DataW.Trod enc Tryz.prog W 0 (fun _ => true) true 22 v d p) : ∃ l, IsStrs W v l := openStrsS (okWide_slice Tryz.underlying22 hok) h
end SStrs
section SWrt
open Go.ChangeShapes Go.WideShapes Go.ChangeAt Go.RowKit Go.Joins Go.Deep
set_option linter.unusedVariables false

/-- a write on its way -/
structure Wrt where
  sector : Int
  bytes : ByteArray
  deriving DecidableEq
def wrtZ : Wrt := ⟨0, ⟨#[]⟩⟩
def Wrt.bounded (x : Wrt) : Prop := (-9223372036854775808 ≤ x.sector ∧ x.sector ≤ 9223372036854775807) ∧ x.bytes.size ≤ 9223372036854775807
def WrtAt (w : World) (b o : Nat) (x : Wrt) : Prop :=
  w.cell? ⟨b, o, none⟩ = some (.int .i64 x.sector) ∧ w.cell? ⟨b, o + 1, none⟩ = some (.string x.bytes)
theorem WrtAt.below {w w' : World} {B b o : Nat} {i : Wrt} (h : WrtAt w b o i) (hb : Below B w w') (hB : b < B) : WrtAt w' b o i :=
  ⟨(hb.cell (p := ⟨b, o, none⟩) hB).trans h.1, (hb.cell (p := ⟨b, o + 1, none⟩) hB).trans h.2⟩
/-- v is a slice whose elements are the writes l. -/
def IsWrts (w : World) (v : Value) (l : List Wrt) : Prop :=
  ∃ a len cap, v = .slice a len cap ∧ l.length = len ∧ len ≤ cap ∧ cap ≤ 9223372036854775807 ∧ (∀ i ∈ l, i.bounded) ∧
    (len = 0 ∨ ∃ b off, a = some ⟨b, off, none⟩ ∧ b < w.heap.size ∧ ∀ i, i < len → WrtAt w b (off + i * 2) (l.getD i wrtZ))
theorem IsWrts.below {w w' : World} {v : Value} {l : List Wrt} (h : IsWrts w v l) (hb : Below w.heap.size w w') : IsWrts w' v l := by
  obtain ⟨a, len, cap, rfl, hlen, hc1, hc2, hbd, hat⟩ := h
  refine ⟨a, len, cap, rfl, hlen, hc1, hc2, hbd, hat.imp id ?_⟩
  rintro ⟨b, off, rfl, hlt, hat⟩
  exact ⟨b, off, rfl, Nat.lt_of_lt_of_le hlt hb.size, fun i hi => (hat i hi).below hb hlt⟩
theorem IsWrts.take {w : World} {v : Value} {l : List Wrt} (h : IsWrts w v l) : ∃ a len cap, v = .slice a len cap ∧ l.length = len ∧ len ≤ cap ∧ cap ≤ 9223372036854775807 ∧
    ∀ m, m ≤ len → IsWrts w (.slice a m cap) (l.take m) := by
  obtain ⟨a, len, cap, rfl, hlen, hc1, hc2, hbd, hat⟩ := h
  refine ⟨a, len, cap, rfl, hlen, hc1, hc2, fun m hm => ⟨a, m, cap, rfl, by rw [List.length_take]; omega, by omega, hc2, fun i hi => hbd i (List.mem_of_mem_take hi), ?_⟩⟩
  rcases hat with h0 | ⟨b, off, rfl, hb, hat⟩
  · exact .inl (by omega)
  · refine .inr ⟨b, off, rfl, hb, fun i hi => ?_⟩
    have := hat i (by omega)
    rwa [show (l.take m).getD i wrtZ = l.getD i wrtZ from by simp [List.getD, hi]]
set_option maxRecDepth 100000 in
theorem openWrts {H : Type} {enc : TypeId × Value → H} {W : World} {v : Value} {d : DataW H} {p : List MemPlace}
    (hv : ∃ a len cap, v = .slice a len cap) (h : DataW.Trod enc Tryz.prog W 0 (fun _ => true) true 23 v d p) : ∃ l, IsWrts W v l := by
  obtain ⟨a, len, cap, rfl, hl, hm, hat⟩ := openElemsS (e := 46) 2 undef Tryz.underlying23 (by kernel_rfl) (by omega) hv h
  rcases hat with rfl | ⟨b, off, rfl, hb, hat⟩
  · exact ⟨[], _, 0, _, rfl, rfl, by omega, hm, by simp, .inl rfl⟩
  · obtain ⟨l, hll, hP⟩ := list_of (P := fun i (k : Wrt) => k.bounded ∧ WrtAt W b (off + i * 2) k) wrtZ len fun i hlt => by
      obtain ⟨cs, n, y, hcl, hc, htr⟩ := hat i hlt
      match cs, hcl with
      | [c0, c1], _ =>
        obtain ⟨y0, y1, n', _, _, k0, k1⟩ := trod_struct2 Tryz.underlying46 htr
        have h8 : Tryz.prog.cellsOf 3 = 1 := by kernel_rfl
        have h4 : Tryz.prog.cellsOf 9 = 1 := by kernel_rfl
        simp [h8, h4] at k0 k1
        obtain ⟨a0, e0, _, w0⟩ := DataW.trod_int Tryz.underlying3 k0
        obtain ⟨a1, e1, _, w1⟩ := DataW.trod_string Tryz.underlying9 k1
        simp at e0 e1
        subst e0 e1
        have w1' : a1.size ≤ 9223372036854775807 := by unfold maxLen at w1; omega
        exact ⟨⟨a0, a1⟩, ⟨wf_i64 w0, w1'⟩, hc 0 (by omega), hc 1 (by omega)⟩
    refine ⟨l, _, len, _, rfl, hll, hl, hm, fun i hmem => ?_, .inr ⟨b, off, rfl, hb, fun i hlt => (hP i hlt).2⟩⟩
    obtain ⟨k, hk, rfl⟩ := List.mem_iff_getElem.1 hmem
    have := (hP k (by omega)).1
    rwa [show l.getD k wrtZ = l[k] from by simp [List.getD, hk]] at this
theorem nilWrts (w : World) : IsWrts w (.slice none 0 0) [] := ⟨none, 0, 0, rfl, rfl, by omega, by omega, by simp, .inl rfl⟩
end SWrt
section SDisk
open Go.ChangeShapes Go.WideShapes Go.ChangeAt Go.RowKit Go.Joins Go.Deep
set_option linter.unusedVariables false

theorem IsStrs.below {w w' : World} {v : Value} {l : List ByteArray} (h : IsStrs w v l) (hb : Below w.heap.size w w') : IsStrs w' v l := by
  obtain ⟨a, len, cap, rfl, hlen, hc1, hc2, hbd, hat⟩ := h
  refine ⟨a, len, cap, rfl, hlen, hc1, hc2, hbd, hat.imp id ?_⟩
  rintro ⟨b, off, rfl, hlt, hat⟩
  exact ⟨b, off, rfl, Nat.lt_of_lt_of_le hlt hb.size, fun i hi => (hb.cell (p := ⟨b, off + i, none⟩) hlt).trans (hat i hi)⟩
theorem IsStrs.take {w : World} {v : Value} {l : List ByteArray} (h : IsStrs w v l) : ∃ a len cap, v = .slice a len cap ∧ l.length = len ∧ len ≤ cap ∧ cap ≤ 9223372036854775807 ∧
    ∀ m, m ≤ len → IsStrs w (.slice a m cap) (l.take m) := by
  obtain ⟨a, len, cap, rfl, hlen, hc1, hc2, hbd, hat⟩ := h
  refine ⟨a, len, cap, rfl, hlen, hc1, hc2, fun m hm => ⟨a, m, cap, rfl, by rw [List.length_take]; omega, by omega, hc2, fun i hi => hbd i (List.mem_of_mem_take hi), ?_⟩⟩
  rcases hat with h0 | ⟨b, off, rfl, hb, hat⟩
  · exact .inl (by omega)
  · refine .inr ⟨b, off, rfl, hb, fun i hi => ?_⟩
    have := hat i (by omega)
    rwa [show (l.take m).getD i ByteArray.empty = l.getD i ByteArray.empty from by simp [List.getD, hi]]
/-- a disk -/
structure Dsk where
  secs : List ByteArray
  pend : List Wrt
  deriving DecidableEq
def IsDisk (w : World) (v : Value) (d : Dsk) : Prop := ∃ sv pv, v = .agg #[sv, pv] ∧ IsStrs w sv d.secs ∧ IsWrts w pv d.pend
theorem IsDisk.below {w w' : World} {v : Value} {d : Dsk} (h : IsDisk w v d) (hb : Below w.heap.size w w') : IsDisk w' v d := by
  obtain ⟨sv, pv, rfl, h1, h2⟩ := h
  exact ⟨sv, pv, rfl, h1.below hb, h2.below hb⟩
theorem IsDisk.form {w : World} {v : Value} {d : Dsk} (h : IsDisk w v d) : ∃ a cap a' cap', v = .agg #[.slice a d.secs.length cap, .slice a' d.pend.length cap'] ∧ d.secs.length ≤ cap ∧ cap ≤ 9223372036854775807 ∧ d.pend.length ≤ cap' ∧ cap' ≤ 9223372036854775807 := by
  obtain ⟨sv, pv, rfl, ⟨a, len, cap, rfl, rfl, h1, h2, _⟩, ⟨a', len', cap', rfl, rfl, h3, h4, _⟩⟩ := h
  exact ⟨a, cap, a', cap', rfl, h1, h2, h3, h4⟩
set_option maxRecDepth 4000 in
theorem openDisk {H : Type} {enc : TypeId × Value → H} {W : World} {base : Nat} {v : Value} {d : DataW H} {p : List MemPlace}
    (hok : Value.okWide Tryz.prog W .any base 25 v) (h : DataW.Trod enc Tryz.prog W 0 (fun _ => true) true 25 v d p) : ∃ x, IsDisk W v x := by
  obtain ⟨cs, rfl, hsz⟩ := okWide_struct Tryz.underlying25 hok
  have hC : Tryz.prog.cellsOf 25 = 2 := by kernel_rfl
  have h1 : Tryz.prog.cellsOf 22 = 1 := by kernel_rfl
  have h2 : Tryz.prog.cellsOf 23 = 1 := by kernel_rfl
  obtain ⟨c0, c1, hl⟩ : ∃ c0 c1, cs.toList = [c0, c1] := by
    have : cs.toList.length = 2 := by rw [Array.length_toList, hsz, hC]
    match cs.toList, this with
    | [a, b], _ => exact ⟨a, b, rfl⟩
  obtain rfl : cs = #[c0, c1] := Array.toList_inj.1 hl
  clear hl hsz hok
  obtain ⟨fuel, hf⟩ := h
  obtain ⟨y0, y1, n, _, _, k0, k1⟩ := trod_struct2 Tryz.underlying25 hf
  simp [Value.cells, h1, h2] at k0 k1
  obtain ⟨hv0, d0, p0, t0⟩ := slice_of_trod Tryz.underlying22 k0
  obtain ⟨hv1, d1, p1, t1⟩ := slice_of_trod Tryz.underlying23 k1
  obtain ⟨l0, i0⟩ := openStrsS hv0 t0
  obtain ⟨l1, i1⟩ := openWrts hv1 t1
  exact ⟨⟨l0, l1⟩, _, _, rfl, i0, i1⟩

/-- what may be a sector's bytes; which disks may be -/
def fitsB (s : ByteArray) : Bool := decide (s.size ≤ 512 ∧ trimS s = s)
def Wrt.fits (n : Nat) (x : Wrt) : Bool := decide (0 ≤ x.sector ∧ x.sector < n) && fitsB x.bytes
def rightD (d : Dsk) : Bool := decide (1 ≤ d.secs.length ∧ d.secs.length ≤ 256) && d.secs.all fitsB && d.pend.all (Wrt.fits d.secs.length)
set_option maxRecDepth 100000 in
theorem diskFits_any (s : ByteArray) (w : World) (hs : s.size ≤ 9223372036854775807) :
    Calls Tryz.prog 73 #[.string s] w fun e w' => e = .returned (.bool (fitsB s)) ∧ w = w' := by
  have hsI : (s.size : Int) ≤ 9223372036854775807 := by omega
  have H := Lib.hid (fun u => leTrim_any s u hs)
  by_cases h5 : s.size ≤ 512
  · have h5I : (s.size : Int) ≤ 512 := by omega
    by_cases ht : trimS s = s
    · have hF : fitsB s = true := decide_eq_true ⟨h5, ht⟩
      rw [hF]
      rw [ht] at H
      clear hF ht h5
      go_enter Tryz.func73, Tryz.ntmps73
      go_wp2_with (first | (go_at_call 57; refine (H.out _).mono ?_; rintro e w' ⟨rfl, rfl⟩))
      go_ret
      exact ⟨rfl, rfl⟩
    · have hF : fitsB s = false := decide_eq_false (fun h => ht h.2)
      have hne := ba_tne ht
      rw [hF]
      generalize trimS s = T at *
      clear hF ht h5
      go_enter Tryz.func73, Tryz.ntmps73
      go_wp2_with (first | (go_at_call 57; refine (H.out _).mono ?_; rintro e w' ⟨rfl, rfl⟩))
      go_ret
      exact ⟨rfl, rfl⟩
  · have hF : fitsB s = false := decide_eq_false (fun h => h5 h.1)
    have h5I : (512 : Int) < s.size := by omega
    rw [hF]
    clear hF h5
    go_enter Tryz.func73, Tryz.ntmps73
    go_wp2_with fail
    go_ret
    exact ⟨rfl, rfl⟩
set_option maxRecDepth 100000 in
theorem refStands_any (s : ByteArray) (w : World) (hs : s.size ≤ 9223372036854775807) :
    Calls Tryz.prog 53 #[.string s] w fun e w' => e = .returned (.bool (fitsB s)) ∧ w = w' := by
  have hsI : (s.size : Int) ≤ 9223372036854775807 := by omega
  have H := Lib.hid (fun u => refTrim_any s u hs)
  by_cases h5 : s.size ≤ 512
  · have h5I : (s.size : Int) ≤ 512 := by omega
    by_cases ht : trimS s = s
    · have hF : fitsB s = true := decide_eq_true ⟨h5, ht⟩
      rw [hF]
      rw [ht] at H
      clear hF ht h5
      go_enter Tryz.func53, Tryz.ntmps53
      go_wp2_with (first | (go_at_call 20; refine (H.out _).mono ?_; rintro e w' ⟨rfl, rfl⟩))
      go_ret
      exact ⟨rfl, rfl⟩
    · have hF : fitsB s = false := decide_eq_false (fun h => ht h.2)
      have hne := ba_tne ht
      rw [hF]
      generalize trimS s = T at *
      clear hF ht h5
      go_enter Tryz.func53, Tryz.ntmps53
      go_wp2_with (first | (go_at_call 20; refine (H.out _).mono ?_; rintro e w' ⟨rfl, rfl⟩))
      go_ret
      exact ⟨rfl, rfl⟩
  · have hF : fitsB s = false := decide_eq_false (fun h => h5 h.1)
    have h5I : (512 : Int) < s.size := by omega
    rw [hF]
    clear hF h5
    go_enter Tryz.func53, Tryz.ntmps53
    go_wp2_with fail
    go_ret
    exact ⟨rfl, rfl⟩
end SDisk
section SDiskR
open Go.RowKit
set_option linter.unusedVariables false

set_option maxRecDepth 100000 in
theorem diskHas_any (v : Value) (d : Dsk) (n : Int) (w : World) (h : IsDisk w v d) :
    Calls Tryz.prog 74 #[v, .int .i64 n] w fun e w' => e = .returned (.bool (decide (0 ≤ n ∧ n < d.secs.length))) ∧ Below w.heap.size w w' := by
  obtain ⟨sv, pv, rfl, ⟨a, len, cap, rfl, hlen, hc1, hc2, _, _⟩, _⟩ := h
  rw [hlen]
  have hb := (Below.refl w.heap.size w).alloc (Nat.le_refl _) (.cells #[.slice a len cap, pv] 25)
  by_cases h0 : 0 ≤ n
  · by_cases h1 : n < len
    · rw [decide_eq_true ⟨h0, h1⟩]
      go_enter Tryz.func74, Tryz.ntmps74
      go_wp2_with fail
      go_ret
      exact ⟨rfl, hb⟩
    · rw [decide_eq_false (fun h => h1 h.2)]
      go_enter Tryz.func74, Tryz.ntmps74
      go_wp2_with fail
      go_ret
      exact ⟨rfl, hb⟩
  · rw [decide_eq_false (fun h => h0 h.1)]
    go_enter Tryz.func74, Tryz.ntmps74
    go_wp2_with fail
    go_ret
    exact ⟨rfl, hb⟩

set_option maxHeartbeats 1000000 in
set_option maxRecDepth 100000 in
theorem diskRight_any (v : Value) (d : Dsk) (w : World) (h : IsDisk w v d) :
    Calls Tryz.prog 42 #[v] w fun e w' => e = .returned (.bool (rightD d)) ∧ Below w.heap.size w w' := by
  have hd := h
  obtain ⟨sv, pv, rfl, hs, hp⟩ := h
  have hb := (Below.refl w.heap.size w).alloc (Nat.le_refl _) (.cells #[sv, pv] 25)
  have hS := hs.below hb
  have hP := hp.below hb
  have HH := Lib.hid (fun n u hu => diskHas_any (.agg #[sv, pv]) d n u hu)
  have hcz := heap_alloc_new w (.cells #[sv, pv] 25)
  have hD := hd.below hb
  clear hs hp hd
  obtain ⟨a, len, cap, rfl, hlen, hc1, hc2, hbs, hat⟩ := hS
  obtain ⟨a', len', cap', rfl, hlen', hc1', hc2', hbp, hat'⟩ := hP
  have hlI : (len : Int) ≤ 9223372036854775807 := by omega
  have hlI' : (len' : Int) ≤ 9223372036854775807 := by omega
  by_cases hn : 1 ≤ len ∧ len ≤ 256
  · have hn1 : (1 : Int) ≤ len := by omega
    have hn2 : (len : Int) ≤ 256 := by omega
    have HA := Lib.hid hat; have HA' := Lib.hid hat'; have HBS := Lib.hid hbs; have HBP := Lib.hid hbp; have HB := Lib.hid hb; have HD := Lib.hid hD
    clear hat hat' hbs hbp hb hD
    go_enter Tryz.func42, Tryz.ntmps42
    go_wp2_with fail
    generalize w.alloc (.cells #[.slice a len cap, .slice a' len' cap'] 25) = W1 at *
    have hz0 : W1.cell? ⟨w.heap.size, 0, none⟩ = some (.slice a len cap) := by rw [cell_of_row _ _ 0 _ _ _ hcz]; rfl
    have hz1 : W1.cell? ⟨w.heap.size, 1, none⟩ = some (.slice a' len' cap') := by rw [cell_of_row _ _ 1 _ _ _ hcz]; rfl
    have hzlt := (Array.getElem?_eq_some_iff.1 hcz).1
    clear hcz
    go_loop [20] (fun z => ∃ k : Nat, k ≤ len ∧ z = .int .i64 k ∧ (d.secs.take k).all fitsB = true) (fun z => len - (intOf z).toNat)
    case atStart => exact ⟨0, by omega, rfl, rfl⟩
    case round =>
      obtain ⟨k, hk, rfl, hall⟩ := hrel
      by_cases hlt : k < len
      · have hkI : (k : Int) < len := by omega
        have hkl : k < d.secs.length := by omega
        obtain ⟨b, off, rfl, hb, hat⟩ := HA.out.resolve_left (by omega)
        have hc := hat k hlt
        rw [show d.secs.getD k ByteArray.empty = d.secs[k] from by simp [List.getD, hkl]] at hc
        have HF := Lib.hid (fun u => diskFits_any d.secs[k] u (HBS.out _ (List.getElem_mem hkl)))
        have hsn : (d.secs.take (k + 1)).all fitsB = fitsB d.secs[k] := by
          rw [← List.take_append_getElem hkl, List.all_append, hall]; simp
        have HSN := Lib.hid hsn
        have hno : fitsB d.secs[k] = false → rightD d = false := fun h => by
          have : d.secs.all fitsB = false := by
            rw [Bool.eq_false_iff]
            intro h2
            rw [List.all_eq_true.1 h2 _ (List.getElem_mem hkl)] at h
            cases h
          unfold rightD; rw [this]; simp
        have HNO := Lib.hid hno
        clear hat hsn hno hall
        generalize d.secs[k] = S at *
        cases hB : fitsB S
        · rw [hB] at HF HNO
          have HNX := Lib.hid (HNO.out rfl)
          clear HNO HSN hB
          go_wp2_with (first | (go_at_call 73; refine (HF.out _).mono ?_; rintro e w' ⟨rfl, rfl⟩))
          go_ret
          exact ⟨by rw [HNX.out]; rfl, HB.out⟩
        · rw [hB] at HF HSN
          clear HNO hB
          go_wp2_with (first | (go_at_call 73; refine (HF.out _).mono ?_; rintro e w' ⟨rfl, rfl⟩))
          go_round
          case rel => exact ⟨k + 1, by omega, by go_num, HSN.out⟩
          case measure => simp [intOf]; omega
      · obtain rfl : k = len := by omega
        have hallS : d.secs.all fitsB = true := by rw [List.take_of_length_le (by omega)] at hall; exact hall
        have HAS := Lib.hid hallS
        clear hall hallS hlt
        go_wp2_with fail
        go_loopw [31] (fun z wr => ∃ k : Nat, k ≤ len' ∧ z = .int .i64 k ∧ (d.pend.take k).all (Wrt.fits d.secs.length) = true ∧ Below W1.heap.size W1 wr) (fun z _ => len' - (intOf z).toNat)
        case atStart => exact ⟨0, by omega, rfl, rfl, Below.refl _ _⟩
        case round =>
          obtain ⟨j, hj, rfl, hall, hbel⟩ := hrel
          have hy0 := (hbel.cell (p := ⟨w.heap.size, 0, none⟩) hzlt).trans hz0
          have hy1 := (hbel.cell (p := ⟨w.heap.size, 1, none⟩) hzlt).trans hz1
          have hwr : w.heap.size < wr.heap.size := Nat.lt_of_lt_of_le hzlt hbel.size
          have hq0 := fun o : Obj => (World.cell?_of_block (a := ⟨w.heap.size, 0, none⟩) (Below.heap_alloc wr o w.heap.size hwr)).trans hy0
          have hq1 := fun o : Obj => (World.cell?_of_block (a := ⟨w.heap.size, 1, none⟩) (Below.heap_alloc wr o w.heap.size hwr)).trans hy1
          by_cases hlt : j < len'
          · have hjI : (j : Int) < len' := by omega
            have hjl : j < d.pend.length := by omega
            obtain ⟨b', off', rfl, hb', hat'⟩ := HA'.out.resolve_left (by omega)
            have hw := (hat' j hlt).below hbel hb'
            rw [show d.pend.getD j wrtZ = d.pend[j] from by simp [List.getD, hjl]] at hw
            obtain ⟨hw0, hw1⟩ := hw
            obtain ⟨⟨bs1, bs2⟩, bs3⟩ := HBP.out _ (List.getElem_mem hjl)
            have HF := Lib.hid (fun u => diskFits_any d.pend[j].bytes u bs3)
            have hsn : (d.pend.take (j + 1)).all (Wrt.fits d.secs.length) = Wrt.fits d.secs.length d.pend[j] := by
              rw [← List.take_append_getElem hjl, List.all_append, hall]; simp
            have HSN := Lib.hid hsn
            have hno : Wrt.fits d.secs.length d.pend[j] = false → rightD d = false := fun h => by
              have : d.pend.all (Wrt.fits d.secs.length) = false := by
                rw [Bool.eq_false_iff]
                intro h2
                rw [List.all_eq_true.1 h2 _ (List.getElem_mem hjl)] at h
                cases h
              unfold rightD; rw [this]; simp
            have HNO := Lib.hid hno
            clear hat' hsn hno hall
            generalize d.pend[j] = X at *
            obtain ⟨xs, xb⟩ := X
            simp only at hw0 hw1 bs1 bs2 bs3 HF HSN HNO
            go_wp2_with fail
            have hbx : Below W1.heap.size W1 (wr.alloc (.cells #[.int .i64 xs, .string xb] 46)) := hbel.alloc hbel.size _
            have hnc := heap_alloc_new wr (.cells #[.int .i64 xs, .string xb] 46)
            have hncl := (Array.getElem?_eq_some_iff.1 hnc).1
            refine (HH.out xs _ (HD.out.below hbx)).mono ?_
            rintro e w3 ⟨rfl, hb3⟩
            have hx1 : w3.cell? ⟨wr.heap.size, 1, none⟩ = some (.string xb) := (hb3.cell (p := ⟨wr.heap.size, 1, none⟩) hncl).trans (by rw [cell_of_row _ _ 1 _ _ _ hnc]; rfl)
            have hb4 := hbx.trans (hb3.mono hbx.size)
            clear hbx hnc hncl hb3 hq0 hq1 hy0 hy1 hbel hw0 hw1
            by_cases hin : 0 ≤ xs ∧ xs < d.secs.length
            · have hdec : decide (0 ≤ xs ∧ xs < (d.secs.length : Int)) = true := decide_eq_true hin
              have hfit : Wrt.fits d.secs.length ⟨xs, xb⟩ = fitsB xb := by unfold Wrt.fits; rw [hdec]; rfl
              rw [hfit] at HSN HNO
              rw [hdec]
              clear hin hfit hdec
              cases hB : fitsB xb
              · rw [hB] at HF HNO
                have HNX := Lib.hid (HNO.out rfl)
                clear HNO HSN hB
                go_wp2_with (first | (go_at_call 73; refine (HF.out _).mono ?_; rintro e w' ⟨rfl, rfl⟩))
                go_ret
                exact ⟨by rw [HNX.out]; rfl, HB.out.trans (hb4.mono HB.out.size)⟩
              · rw [hB] at HF HSN
                clear HNO hB
                go_wp2_with (first | (go_at_call 73; refine (HF.out _).mono ?_; rintro e w' ⟨rfl, rfl⟩))
                go_roundw
                case rel => exact ⟨j + 1, by omega, by go_num, HSN.out, hb4⟩
                case measure => simp [intOf]; omega
            · have hdec : decide (0 ≤ xs ∧ xs < (d.secs.length : Int)) = false := decide_eq_false hin
              have hfit : Wrt.fits d.secs.length ⟨xs, xb⟩ = false := by unfold Wrt.fits; rw [hdec]; rfl
              rw [hfit] at HNO
              rw [hdec]
              have HNX := Lib.hid (HNO.out rfl)
              clear hin hfit hdec HNO HSN
              go_wp2_with fail
              go_ret
              exact ⟨by rw [HNX.out]; rfl, HB.out.trans (hb4.mono HB.out.size)⟩
          · obtain rfl : j = len' := by omega
            have hR : rightD d = true := by
              rw [List.take_of_length_le (by omega)] at hall
              unfold rightD
              rw [HAS.out, hall, hlen, decide_eq_true hn]; rfl
            have HR := Lib.hid hR
            clear hall hR hlt
            go_wp2_with fail
            go_ret
            exact ⟨by rw [HR.out]; rfl, HB.out.trans (hbel.mono HB.out.size)⟩
  · have hF : rightD d = false := by unfold rightD; rw [hlen, decide_eq_false hn]; rfl
    rw [hF]
    by_cases h0 : len < 1
    · have h0I : (len : Int) < 1 := by omega
      clear hn hF hat hat' h0
      go_enter Tryz.func42, Tryz.ntmps42
      go_wp2_with fail
      go_ret
      exact ⟨rfl, hb⟩
    · have h0I : (1 : Int) ≤ len := by omega
      have h1I : (256 : Int) < len := by omega
      clear hn hF hat hat' h0
      go_enter Tryz.func42, Tryz.ntmps42
      go_wp2_with fail
      go_ret
      exact ⟨rfl, hb⟩
end SDiskR
section SResRow
open Go.RowKit
set_option linter.unusedVariables false

/-- a result that lives in a variable's row, and a second one -/
theorem results_row_tmp {P : Program} {fn : Func} {p u : Tmp} {ty : TypeId} (h : fn.results = #[.cell p ty, .tmp u]) (tmps : Array Value) (w : World) (g : Nat) (t : TypeId) (cs : Array Value) (fr : Nat × Nat) (d : TypeDesc)
    (hp : tmps.getD p undef = .pointer (some ⟨g, 0, none⟩)) (hg : w.heap[g]? = some (.cells cs t fr))
    (hu : P.underlying ty = some d) (hd : (match d with | .struct _ | .array _ _ => true | _ => false) = true) (hi : (P.info? ty).map (·.size) = some cs.size) :
    (results fn tmps).run P w = .ok (.tuple #[.agg cs, tmps.getD u undef]) w := by
  have hp' : tmps[p]?.getD undef = .pointer (some ⟨g, 0, none⟩) := by simpa using hp
  rw [results_cell_tmp h]
  simp [hp', asAddr, run_loadVar_row w g t ty cs fr d hg hu hd hi, Result.andThen]

/-- a store into a block that is known whole -/
theorem block_set {w : World} {g : Nat} {cs : Array Value} {t : TypeId} {fr : Nat × Nat} (h : w.heap[g]? = some (.cells cs t fr)) (i : Nat) (v : Value) :
    (w.setCell ⟨g, i, none⟩ v).heap[g]? = some (.cells (cs.setIfInBounds i v) t fr) := by
  simp [World.setCell, Array.getElem?_modify, h]
theorem block_frozen {w : World} {g : Nat} {cs : Array Value} {t : TypeId} (h : w.heap[g]? = some (.cells cs t (0, 0))) (i : Nat) : w.frozen? ⟨g, i, none⟩ = false := by
  simp [World.frozen?, h]
theorem belowN {B : Nat} {a w : World} (h : Below B a w) (n : Nat) : Below B a (w.drewN n) := ⟨h.os, h.tape, h.output, h.size, h.block⟩
end SResRow
section SRow1
open Go.ChangeShapes Go.WideShapes Go.ChangeAt Go.RowKit Go.Joins Go.Deep
set_option linter.unusedVariables false

/-- v is a slice that reads as l. -/
def Reads1 {α : Type} (enc : α → Value) (w : World) (v : Value) (l : List α) : Prop :=
  ∃ a len cap, v = .slice a len cap ∧ l.length = len ∧ len ≤ cap ∧ cap ≤ 9223372036854775807 ∧
    (len = 0 ∨ ∃ b off, a = some ⟨b, off, none⟩ ∧ b < w.heap.size ∧ ∀ i (h : i < l.length), w.cell? ⟨b, off + i, none⟩ = some (enc l[i]))
variable {α : Type} {enc : α → Value}
theorem Reads1.below {w w' : World} {v : Value} {l : List α} (h : Reads1 enc w v l) (hb : Below w.heap.size w w') : Reads1 enc w' v l := by
  obtain ⟨a, len, cap, rfl, hlen, hc1, hc2, hat⟩ := h
  refine ⟨a, len, cap, rfl, hlen, hc1, hc2, hat.imp id ?_⟩
  rintro ⟨b, off, rfl, hlt, hat⟩
  exact ⟨b, off, rfl, Nat.lt_of_lt_of_le hlt hb.size, fun i hi => (hb.cell (p := ⟨b, off + i, none⟩) hlt).trans (hat i hi)⟩
theorem Reads1.take {w : World} {v : Value} {l : List α} (h : Reads1 enc w v l) : ∃ a len cap, v = .slice a len cap ∧ l.length = len ∧ len ≤ cap ∧ cap ≤ 9223372036854775807 ∧
    ∀ m, m ≤ len → Reads1 enc w (.slice a m cap) (l.take m) := by
  obtain ⟨a, len, cap, rfl, hlen, hc1, hc2, hat⟩ := h
  refine ⟨a, len, cap, rfl, hlen, hc1, hc2, fun m hm => ⟨a, m, cap, rfl, by rw [List.length_take]; omega, by omega, hc2, ?_⟩⟩
  rcases hat with h0 | ⟨b, off, rfl, hb, hat⟩
  · exact .inl (by omega)
  · refine .inr ⟨b, off, rfl, hb, fun i hi => ?_⟩
    have hi' : i < l.length := by rw [List.length_take] at hi; omega
    rw [hat i hi']
    simp
/-- a row of the call's own reads as its list -/
theorem own_reads1 {w : World} {base : Nat} {e : TypeId} {v : Value} {n : Nat} {l : List α} (h : w.ownsRow base e 1 v n (l.map enc)) (hn : l.length = n) : Reads1 enc w v l := by
  subst hn
  rcases h.2 with ⟨rfl, h0⟩ | ⟨g, cap, cur, rfl, hg, hh, hn, hc, hcs, htake⟩
  · exact ⟨none, 0, 0, rfl, h0, by omega, by omega, .inl rfl⟩
  · refine ⟨_, _, cap, rfl, rfl, hn, by unfold maxLen at hc; exact hc, ?_⟩
    by_cases h0 : l.length = 0
    · exact .inl h0
    · refine .inr ⟨g, 0, rfl, (h.lt g rfl).2, fun i hi => ?_⟩
      have := h.cells (g := g) rfl i (enc l[i]) (by simp [hi])
      rwa [addr_add] at this
/-- a block that is known whole reads as its list -/
theorem block_reads1 {w : World} {g : Nat} {t : TypeId} {l : List α} (h : w.heap[g]? = some (.cells (l.map enc).toArray t (0, 0))) (hm : l.length ≤ 9223372036854775807) : Reads1 enc w (.slice (some ⟨g, 0, none⟩) l.length l.length) l := by
  refine ⟨_, _, _, rfl, rfl, Nat.le_refl _, hm, ?_⟩
  by_cases h0 : l.length = 0
  · exact .inl h0
  · refine .inr ⟨g, 0, rfl, lt_of_block h, fun i hi => ?_⟩
    rw [Nat.zero_add, cell_of_row _ _ _ _ _ _ h]
    simp [hi]
theorem arr_set (l : List α) (i : Nat) (x : α) : ((l.map enc).toArray).setIfInBounds i (enc x) = ((l.set i x).map enc).toArray := by
  simp [List.map_set]

theorem own_form1 {w : World} {base : Nat} {e : TypeId} {v : Value} {n : Nat} {xs : List Value} (h : w.ownsRow base e 1 v n xs) : ∃ A c, v = .slice A n c ∧ n ≤ c ∧ c ≤ 9223372036854775807 := by
  rcases h.2 with ⟨rfl, h0⟩ | ⟨g, cap, cur, rfl, hg, hh, hn, hc, _⟩
  · subst h0; exact ⟨_, _, rfl, by omega, by omega⟩
  · exact ⟨_, _, rfl, hn, by unfold maxLen at hc; exact hc⟩
theorem own_setCell {w : World} {base : Nat} {e T : TypeId} {v : Value} {n : Nat} {xs : List Value} {g : Nat} {cs : Array Value} (h : w.ownsRow base e 1 v n xs) (hg : w.heap[g]? = some (.cells cs T (0, 0))) (hT : T ≠ e) (i : Nat) (x : Value) :
    (w.setCell ⟨g, i, none⟩ x).ownsRow base e 1 v n xs :=
  h.kept (row := some g) ⟨rfl, rfl, rfl, by simp [World.setCell], fun k _ hk => Below.heap_setCell _ _ _ _ (fun e => hk (by simp [e]))⟩ (Or.inr (Lib.ownBlock_ne h hg hT))

/-- 's = append(s, x)': blocks of other elements stay as they were. -/
theorem wpList_push2 {P : Program} {ops : Array Oper} {rest : List Oper} {o : Oper} {a : Act} {Q : Exit → Act → World → Prop} {w w0 : World}
    (s x : Operand) (t : TypeId) (e : TypeId) {i : TypeInfo} {z : Value} {bytes : Nat} {base : Nat} {v : Value} {n : Nat} {xs : List Value} (u : Value)
    (hown : w.ownsRow base e 1 v n xs) (hbel : Below base w0 w) (hbase : base ≤ w0.heap.size)
    (ht : P.underlying t = some (.slice e)) (hi : P.info? e = some i) (hz : i.zero = some z)
    (hsize : i.size = 1) (hby : i.bytes = bytes) (hzs : z.cells.size = 1)
    (hgd : o.guard = none) (ho : o.op = .call { callee := .builtin .append, args := #[s, x], argTypes := #[t, t] })
    (hs : a.eval s = v) (hx : a.eval x = .slice (some ⟨w.heap.size, 0, none⟩) 1 1)
    (h1 : u.oneCell' = true)
    (hroom : n ≤ 17592186044416 ∧ n * bytes + bytes ≤ 140737488355328)
    (h : ∀ v' w', w'.ownsRow base e 1 v' (n + 1) (xs ++ [u]) → Below base w0 w' → (∀ (g : Nat) (cs : Array Value) (T : TypeId), w.heap[g]? = some (Obj.cells cs T (0, 0)) → T ≠ e → w'.heap[g]? = some (Obj.cells cs T (0, 0))) → wpList P ops Q rest (a.put o.dst v') w') :
    wpList P ops Q (o :: rest) a (w.alloc (.cells #[u] e)) := by
  refine wpList_append_own (w := w.alloc (.cells #[u] e)) hgd s x t ho base e i z 1 bytes ht hi hz hsize hby hzs (by decide) v n xs hs (hown.alloc _) ⟨w.heap.size, 0, none⟩ 1 1 [u] hx (by simp) (cells_new w [u] e) (by intro y hy; rw [List.mem_singleton.1 hy]; exact h1)
    (by unfold maxLen; omega) (by rw [Nat.add_mul]; omega) (by have := hbel.size; simp; omega) ?_
  intro v' w' h2 h3 h4
  refine h v' w' h2 ?_ ?_
  · have hb1 : Below base w0 (w.alloc (.cells #[u] e)) := hbel.alloc (by have := hbel.size; omega) _
    refine hb1.grown h3 (by have := hbel.size; simp; omega) ?_
    intro k hk
    exact (hown.lt k hk).1
  · intro g cs T hg hT
    have hg2 := (heap_alloc_old w (.cells #[u] e) (lt_of_block hg)).trans hg
    have hne := Lib.ownBlock_ne (hown.alloc (.cells #[u] e)) hg2 hT
    rw [h3.block g (lt_of_block hg2) (fun e => hne e.symm)]
    exact hg2
/-- 's = append(s, t...)': s is the call's own, t is whatever can be read. -/
theorem wpList_extend {P : Program} {ops : Array Oper} {rest : List Oper} {o : Oper} {a : Act} {Q : Exit → Act → World → Prop} {w w0 : World}
    (s x : Operand) (t : TypeId) (e : TypeId) {i : TypeInfo} {z : Value} {size bytes m c : Nat} {base : Nat} {v : Value} {n : Nat} {xs : List Value} {A : Option Addr} (news : List Value)
    (hown : w.ownsRow base e size v n xs) (hbel : Below base w0 w) (hbase : base ≤ w0.heap.size)
    (ht : P.underlying t = some (.slice e)) (hi : P.info? e = some i) (hz : i.zero = some z)
    (hsize : i.size = size) (hby : i.bytes = bytes) (hzs : z.cells.size = size) (hsz : 0 < size)
    (hgd : o.guard = none) (ho : o.op = .call { callee := .builtin .append, args := #[s, x], argTypes := #[t, t] })
    (hs : a.eval s = v) (hx : a.eval x = .slice A m c)
    (hA : (A = none ∧ m = 0 ∧ c = 0 ∧ news = []) ∨ ∃ ad, A = some ad ∧ ∀ j u, news[j]? = some u → w.cell? (ad.add j) = some u)
    (hl : news.length = m * size) (h1 : ∀ u ∈ news, u.oneCell' = true)
    (hroom : n + m ≤ 17592186044416 ∧ (n + m) * bytes ≤ 140737488355328)
    (h : ∀ v' w', w'.ownsRow base e size v' (n + m) (xs ++ news) → Below base w0 w' → wpList P ops Q rest (a.put o.dst v') w') :
    wpList P ops Q (o :: rest) a w := by
  rcases hA with ⟨rfl, rfl, rfl, rfl⟩ | ⟨ad, rfl, hc⟩
  · refine wpList_append_own_none hgd s x t ho base e i size ht hi v n xs hs hown hx ?_
    refine h v w ?_ hbel
    rw [List.append_nil]
    exact hown
  · refine wpList_append_own (w := w) hgd s x t ho base e i z size bytes ht hi hz hsize hby hzs hsz v n xs hs hown ad m c news hx hl hc h1 (by unfold maxLen; omega) hroom.2 (Nat.le_trans hbase hbel.size) ?_
    intro v' w' h2 h3 _
    exact h v' w' h2 (hbel.grown h3 (Nat.le_trans hbase hbel.size) (fun k hk => (hown.lt k hk).1))
/-- a slice that can be read, to be appended -/
theorem Reads1.source {w : World} {A : Option Addr} {len cap : Nat} {l : List α} (h : Reads1 enc w (.slice A len cap) l) (hn : A = none → cap = 0) :
    (A = none ∧ len = 0 ∧ cap = 0 ∧ l.map enc = []) ∨ ∃ ad, A = some ad ∧ ∀ j u, (l.map enc)[j]? = some u → w.cell? (ad.add j) = some u := by
  obtain ⟨a, len', cap', hv, hlen, hc1, hc2, hat⟩ := h
  injection hv with h1 h2 h3
  subst h1 h2 h3
  cases A with
  | none =>
    left
    have := hn rfl
    subst this
    obtain rfl : len = 0 := by omega
    exact ⟨rfl, rfl, rfl, by rw [List.eq_nil_of_length_eq_zero hlen]; rfl⟩
  | some ad =>
    refine .inr ⟨ad, rfl, fun j u hj => ?_⟩
    have hjl : j < l.length := by have := (List.getElem?_eq_some_iff.1 hj).1; simpa using this
    obtain ⟨b, off, hab, hb, hat2⟩ := hat.resolve_left (by omega)
    injection hab with hab
    subst hab
    rw [addr_add, hat2 j hjl]
    rw [List.getElem?_map, List.getElem?_eq_getElem hjl] at hj
    exact hj
end SRow1
section SBools
open Go.ChangeShapes Go.WideShapes Go.ChangeAt Go.RowKit Go.Joins Go.Deep
set_option linter.unusedVariables false

abbrev IsBools (w : World) (v : Value) (l : List Bool) : Prop := Reads1 Value.bool w v l
set_option maxRecDepth 4000 in
theorem openBools {H : Type} {enc : TypeId × Value → H} {W : World} {base : Nat} {v : Value} {d : DataW H} {p : List MemPlace}
    (hok : Value.okWide Tryz.prog W .any base 52 v) (h : DataW.Trod enc Tryz.prog W 0 (fun _ => true) true 52 v d p) : ∃ l, IsBools W v l := by
  obtain ⟨a, len, cap, rfl, hl, hm, hat⟩ := openElems (e := 4) 1 undef Tryz.underlying52 (by kernel_rfl) (by omega) hok h
  rcases hat with rfl | ⟨b, off, rfl, hb, hat⟩
  · exact ⟨[], _, 0, _, rfl, rfl, by omega, hm, .inl rfl⟩
  · obtain ⟨l, hll, hP⟩ := list_of (P := fun i (k : Bool) => W.cell? ⟨b, off + i, none⟩ = some (.bool k)) true len fun i hlt => by
      obtain ⟨cs, n, y, hcl, hc, htr⟩ := hat i hlt
      match cs, hcl with
      | [c0], _ =>
        obtain ⟨a0, e0, _⟩ := DataW.trod_bool Tryz.underlying4 htr
        simp at e0
        subst e0
        have := hc 0 (by omega)
        exact ⟨a0, by simpa using this⟩
    refine ⟨l, _, len, _, rfl, hll, hl, hm, .inr ⟨b, off, rfl, hb, fun i hi => ?_⟩⟩
    have := hP i (by omega)
    rwa [show l.getD i true = l[i] from by simp [List.getD, hi]] at this
end SBools
section SFill
open Go.RowKit
set_option linter.unusedVariables false

def zerosB (k : Nat) : ByteArray := ⟨(List.replicate k (0 : UInt8)).toArray⟩
theorem repeat_zero (k : Nat) : Lib.repeatL [0] k = List.replicate k 0 := by
  induction k with
  | zero => rfl
  | succ k ih => rw [Lib.repeatL, ih]; rfl
theorem zerosB_list (k : Nat) : (zerosB k).data.toList = List.replicate k 0 := by simp [zerosB]
theorem zerosB_size (k : Nat) : (zerosB k).size = k := by rw [← ba_len, zerosB_list, List.length_replicate]
def fillS (s : ByteArray) (n : Int) : ByteArray := if (s.size : Int) ≤ n then s ++ zerosB (n.toNat - s.size) else ⟨#[]⟩
def fillE (s : ByteArray) (n : Int) : Int := if (s.size : Int) ≤ n then 0 else 2
theorem fillS_ok (s : ByteArray) (n : Nat) (h : s.size ≤ n) : fillS s n = s ++ zerosB (n - s.size) ∧ fillE s n = 0 := by
  unfold fillS fillE
  rw [if_pos (by omega), if_pos (by omega), Int.toNat_natCast]
  exact ⟨rfl, rfl⟩
theorem fillS_bad (s : ByteArray) (n : Int) (h : n < s.size) : fillS s n = ⟨#[]⟩ ∧ fillE s n = 2 := by
  unfold fillS fillE
  rw [if_neg (by omega), if_neg (by omega)]
  exact ⟨rfl, rfl⟩

set_option maxRecDepth 100000 in
theorem leFill_any (s : ByteArray) (n : Int) (w : World) (hs : s.size ≤ 100000) (hn0 : -9223372036854775808 ≤ n) (hn : n ≤ 100000) :
    Calls Tryz.prog 116 #[.string s, .int .i64 n] w fun e w' => e = .returned (.tuple #[.string (fillS s n), .int .i64 (fillE s n)]) ∧ Below w.heap.size w w' := by
  have hsI : (s.size : Int) ≤ 100000 := by omega
  by_cases h : (s.size : Int) ≤ n
  · obtain ⟨m, rfl⟩ := Int.eq_ofNat_of_zero_le (show 0 ≤ n by omega)
    obtain ⟨e1, e2⟩ := fillS_ok s m (by omega)
    rw [e1, e2]
    have hR := fun u => Tryz.strings_Repeat ⟨#[0]⟩ (m - s.size) u (by omega) (by show 1 * (m - s.size) ≤ _; omega)
    have hz : (⟨(Lib.repeatL (⟨#[0]⟩ : ByteArray).data.toList (m - s.size)).toArray⟩ : ByteArray) = zerosB (m - s.size) := by
      show (⟨(Lib.repeatL [0] (m - s.size)).toArray⟩ : ByteArray) = _
      rw [repeat_zero]; rfl
    simp only [hz] at hR
    rw [show ((m - s.size : Nat) : Int) = (m : Int) - s.size from by omega] at hR
    have HR := Lib.hid hR
    have hzs := zerosB_size (m - s.size)
    have hmI : (m : Int) ≤ 100000 := by omega
    generalize zerosB (m - s.size) = Z at *
    have hzI : (Z.size : Int) ≤ 100000 := by omega
    obtain ⟨C, hC⟩ : ∃ C, C = s ++ Z := ⟨_, rfl⟩
    rw [← hC] at e1
    rw [← hC]
    have har := fun u => add_run (P := Tryz.prog) s Z C hC (by omega) u
    clear e1 e2 hR hz hzs hC
    go_enter Tryz.func116, Tryz.ntmps116
    go_wp2_with (first | (go_at_call 126; refine (HR.out _).mono ?_; rintro e w' ⟨rfl, hb⟩))
    go_ret2
    exact ⟨rfl, hb⟩
  · obtain ⟨e1, e2⟩ := fillS_bad s n (by omega)
    rw [e1, e2]
    have h2 : n < s.size := by omega
    clear h e1 e2
    go_enter Tryz.func116, Tryz.ntmps116
    go_wp2_with fail
    go_ret2
    exact ⟨rfl, Below.refl _ _⟩
end SFill
section STrimMath
set_option linter.unusedVariables false

abbrev at0 (s : ByteArray) (i : Nat) : UInt8 := s.data.toList.getD i 0
theorem trimK_zero (s : ByteArray) : ∀ k i, trimK s k ≤ i → i < k → at0 s i = 0
  | 0, i, _, h => by omega
  | k + 1, i, h1, h2 => by
    unfold trimK at h1
    by_cases h : at0 s k = 0
    · rw [if_pos h] at h1
      by_cases e : i = k
      · rw [e]; exact h
      · exact trimK_zero s k i h1 (by omega)
    · rw [if_neg h] at h1
      omega
theorem trimK_last (s : ByteArray) : ∀ k, trimK s k = 0 ∨ at0 s (trimK s k - 1) ≠ 0
  | 0 => .inl rfl
  | k + 1 => by
    unfold trimK
    by_cases h : at0 s k = 0
    · rw [if_pos h]; exact trimK_last s k
    · rw [if_neg h]; exact .inr h
theorem trimK_uniq (s : ByteArray) (m : Nat) : ∀ k, m ≤ k → (∀ i, m ≤ i → i < k → at0 s i = 0) → (m = 0 ∨ at0 s (m - 1) ≠ 0) → trimK s k = m
  | 0, h, _, _ => by simp [trimK]; omega
  | k + 1, h, hz, hl => by
    by_cases e : m = k + 1
    · subst e
      have : at0 s k ≠ 0 := by rcases hl with h | h; · omega
                               · exact h
      rw [trimK, if_neg this]
    · have : at0 s k = 0 := hz k (by omega) (by omega)
      rw [trimK, if_pos this]
      exact trimK_uniq s m k (by omega) (fun i h1 h2 => hz i h1 (by omega)) hl
theorem at0_extract (s : ByteArray) (K i : Nat) (h : i < K) : at0 (s.extract 0 K) i = at0 s i := by
  unfold at0
  rw [ba_extract_list]
  simp [List.getD, h]
theorem at0_append (s t : ByteArray) (i : Nat) (h : i < s.size) : at0 (s ++ t) i = at0 s i := by
  unfold at0
  rw [ba_append_list]
  simp only [List.getD]
  rw [List.getElem?_append_left (by rw [ba_len]; exact h)]
theorem at0_append2 (s : ByteArray) (k i : Nat) (h : s.size ≤ i) : at0 (s ++ zerosB k) i = 0 := by
  unfold at0
  rw [ba_append_list, zerosB_list]
  simp only [List.getD]
  rw [List.getElem?_append_right (by rw [ba_len]; exact h), List.getElem?_replicate]
  split <;> rfl
theorem trimS_le (s : ByteArray) : (trimS s).size ≤ s.size := by rw [trimS_size]; exact trimK_le _ _
theorem trimS_pre (s : ByteArray) : s.extract 0 (trimS s).size = trimS s := by rw [trimS_size]; rfl
theorem trimS_last (s : ByteArray) : (trimS s).size = 0 ∨ at0 (trimS s) ((trimS s).size - 1) ≠ 0 := by
  rw [trimS_size]
  rcases trimK_last s s.size with h | h
  · exact .inl h
  · by_cases h0 : trimK s s.size = 0
    · exact .inl h0
    · refine .inr ?_
      rw [trimS, at0_extract _ _ _ (by omega)]
      exact h
theorem trimS_twice (s : ByteArray) : trimS (trimS s) = trimS s := by
  have h : trimK (trimS s) (trimS s).size = (trimS s).size := trimK_uniq _ _ _ (Nat.le_refl _) (fun i h1 h2 => by omega) (trimS_last s)
  rw [show trimS (trimS s) = (trimS s).extract 0 (trimK (trimS s) (trimS s).size) from rfl, h, extract_all]
theorem trimS_zeros (s : ByteArray) (k : Nat) : trimS (s ++ zerosB k) = trimS s := by
  have hle := trimK_le s s.size
  have hsz : (s ++ zerosB k).size = s.size + k := by rw [ByteArray.size_append, zerosB_size]
  have h : trimK (s ++ zerosB k) (s ++ zerosB k).size = trimK s s.size := by
    refine trimK_uniq _ _ _ (by omega) (fun i h1 h2 => ?_) ?_
    · rcases Nat.lt_or_ge i s.size with h | h
      · rw [at0_append _ _ _ h]; exact trimK_zero s s.size i h1 h
      · exact at0_append2 s k i h
    · rcases trimK_last s s.size with h | h
      · exact .inl h
      · by_cases h0 : trimK s s.size = 0
        · exact .inl h0
        · exact .inr (by rw [at0_append _ _ _ (by omega)]; exact h)
  unfold trimS
  rw [h]
  apply ba_ext
  rw [ba_extract_list, ba_extract_list, ba_append_list]
  simp only [List.drop_zero, Nat.sub_zero]
  rw [List.take_append_of_le_length (by rw [ba_len]; exact hle)]
theorem trimS_fill (s : ByteArray) : trimS s ++ zerosB (s.size - (trimS s).size) = s := by
  have hle := trimK_le s s.size
  rw [trimS_size]
  apply ba_ext
  rw [ba_append_list, zerosB_list, trimS, ba_extract_list]
  simp only [List.drop_zero, Nat.sub_zero]
  refine List.ext_getElem (by rw [List.length_append, List.length_take, List.length_replicate, ba_len]; omega) fun i h1 h2 => ?_
  rw [List.getElem_append]
  split
  · rw [List.getElem_take]
  · rename_i hn
    rw [List.length_take, ba_len] at hn
    rw [ba_len] at h2
    have := trimK_zero s s.size i (by omega) h2
    rw [List.getElem_replicate]
    have hg : at0 s i = s.data.toList[i] := by unfold at0; simp only [List.getD]; rw [List.getElem?_eq_getElem (by rw [ba_len]; exact h2)]; rfl
    rw [← hg, this]
end STrimMath
section STrimTwice
set_option linter.unusedVariables false
end STrimTwice
end Go.Proofs.YthnmnnlbglpjaaaGreatDoor
