/- The words of a record. -/
import Derived.Test.YtbndhegmfnfahabCallOpen
import Derived.Test.YtbndhegmfnfahabLeGet
import Derived.Test.YtbndhegmfnfahabGen
namespace Go.Proofs.Ytbndhegmfnfahab
open Go.RowKit
set_option linter.unusedVariables false

theorem infoU32 : (Try.prog.info? 30).map (fun i => (i.zero, i.size, i.bytes)) = some (some (.int .u32 0), 1, 4) := by kernel_rfl
theorem leGet_4 (s : ByteArray) (p : Nat) (w : World) (hs : s.size ≤ 9223372036854775807) (hp : p + 4 ≤ s.size) :
    Calls Try.prog 36 #[.string s, .int .i64 p, .int .i64 4] w fun e w' => e = .returned (.tuple #[.int .u64 (getL (cutL s p 4) : Nat), .int .i64 ((p + 4 : Nat) : Int), .int .i64 0]) ∧ w = w' :=
  leGet_ok s p 4 w hs (by omega) (by omega) hp

theorem cutL4_le (s : ByteArray) (p : Nat) (hp : p + 4 ≤ s.size) : getL (cutL s p 4) ≤ 4294967295 := by
  have := getL_lt (cutL s p 4)
  rw [cutL_length _ _ _ hp, pow256_4] at this
  omega

/-- 's = append(s, x, y ..)': the new ones lie in the block that was laid last; s is the call's own. -/
theorem wpList_pushes {P : Program} {ops : Array Oper} {rest : List Oper} {o : Oper} {a : Act} {Q : Exit → Act → World → Prop} {w w0 : World}
    (s x : Operand) (t : TypeId) (e : TypeId) {i : TypeInfo} {z : Value} {size bytes m : Nat} {base : Nat} {v : Value} {n : Nat} {xs news : List Value}
    (hown : w.ownsRow base e size v n xs) (hbel : Below base w0 w) (hbase : base ≤ w0.heap.size)
    (ht : P.underlying t = some (.slice e)) (hi : P.info? e = some i) (hz : i.zero = some z)
    (hsize : i.size = size) (hby : i.bytes = bytes) (hzs : z.cells.size = size) (hsz : 0 < size)
    (hgd : o.guard = none) (ho : o.op = .call { callee := .builtin .append, args := #[s, x], argTypes := #[t, t] })
    (hs : a.eval s = v) (hx : a.eval x = .slice (some ⟨w.heap.size, 0, none⟩) m m)
    (hl : news.length = m * size) (h1 : ∀ u ∈ news, u.oneCell' = true)
    (hroom : n + m ≤ 17592186044416 ∧ (n + m) * bytes ≤ 140737488355328)
    (h : ∀ v' w', w'.ownsRow base e size v' (n + m) (xs ++ news) → Below base w0 w' → wpList P ops Q rest (a.put o.dst v') w') :
    wpList P ops Q (o :: rest) a (w.alloc (.cells news.toArray e)) := by
  refine wpList_append_own (w := w.alloc (.cells news.toArray e)) hgd s x t ho base e i z size bytes ht hi hz hsize hby hzs hsz v n xs hs (hown.alloc _) ⟨w.heap.size, 0, none⟩ m m news hx hl (cells_new w news e) h1
    (by unfold maxLen; omega) hroom.2 (by have := hbel.size; simp; omega) ?_
  intro v' w' h2 h3 h4
  refine h v' w' h2 ?_
  have hb1 : Below base w0 (w.alloc (.cells news.toArray e)) := hbel.alloc (by have := hbel.size; omega) _
  refine hb1.grown h3 (by have := hbel.size; simp; omega) ?_
  intro k hk
  exact (hown.lt k hk).1

/-- vm.Word, at a place that is a word's -/
theorem vmWord_ok (s : ByteArray) (i : Nat) (w : World) (hs : s.size = 64) (hi : i < 16) :
    Calls Try.prog 29 #[.string s, .int .i64 ((4 * i : Nat) : Int)] w fun e w' => e = .returned (.tuple #[.int .u32 (getL (cutL s (4 * i) 4) : Nat), .int .i64 0]) ∧ w = w' := by
  have hx := cutL4_le s (4 * i) (by omega)
  have HC := Lib.hid (fun u => leGet_4 s (4 * i) u (by omega) (by omega))
  obtain ⟨x, ex⟩ : ∃ x, x = getL (cutL s (4 * i) 4) := ⟨_, rfl⟩
  rw [← ex] at HC hx ⊢
  clear ex
  obtain ⟨p, ep⟩ : ∃ p, p = 4 * i := ⟨_, rfl⟩
  have hp60 : (p : Int) ≤ 60 := by omega
  have hp4 : ((p : Int) % 4 != 0) = false := by rw [bne_eq_false_iff_eq]; omega
  rw [← ep] at HC ⊢
  have HE := Lib.hid ep
  clear ep
  have hxI : (x : Int) ≤ 4294967295 := by omega
  have hsz : ((s.size : Int) != 64) = false := by rw [bne_eq_false_iff_eq]; omega
  clear hs hi hx
  go_enter Try.func29, Try.ntmps29
  go_wp2_with fail
  refine (HC.out _).mono ?_
  rintro e w' ⟨rfl, rfl⟩
  go_wp2_with fail
  go_ret2
  exact ⟨rfl, rfl⟩

/-- the words of a record -/
def Cal.words (c : Cal) : List Nat := c.nr :: c.arch :: c.ip :: c.ip / 4294967296 :: c.args.flatMap fun a => [a, a / 4294967296]
theorem putL_two (a : Nat) : putL a 8 = putL a 4 ++ putL (a / 4294967296) 4 := by
  have := putL_append a 4 4
  rw [pow256_4] at this
  exact this
theorem argsL_words (l : List Nat) : argsL l = (l.flatMap fun a => [a, a / 4294967296]).flatMap fun a => putL a 4 := by
  induction l with
  | nil => rfl
  | cons a l ih => rw [argsL_cons, putL_two, ih]; simp [List.append_assoc]
theorem Cal.recB_words (c : Cal) (h : c.args.length = 6) : (c.recB 6).data.toList = c.words.flatMap fun a => putL a 4 := by
  rw [Cal.recB_list, List.take_of_length_le (by omega), argsL_words, putL_two c.ip]
  simp [Cal.words, List.append_assoc]
theorem cut_words (l : List Nat) (i : Nat) (hi : i < l.length) : (((l.flatMap fun a => putL a 4).drop (4 * i)).take 4) = putL (l.getD i 0) 4 := by
  induction l generalizing i with
  | nil => simp at hi
  | cons a l ih =>
    cases i with
    | zero => simp [List.flatMap_cons, List.take_left' (putL_length a 4)]
    | succ i =>
      have hd : 4 * (i + 1) = (putL a 4).length + 4 * i := by rw [putL_length]; omega
      rw [List.flatMap_cons, hd, List.drop_append, List.drop_eq_nil_of_le (by omega), List.nil_append, Nat.add_sub_cancel_left, ih i (by simpa using hi)]
      rfl
theorem Cal.words_length (c : Cal) (h : c.args.length = 6) : c.words.length = 16 := by
  obtain ⟨nr, arch, ip, args⟩ := c
  match args, h with
  | [a0, a1, a2, a3, a4, a5], _ => rfl
theorem Cal.word (c : Cal) (h : c.args.length = 6) (i : Nat) (hi : i < 16) : getL (cutL (c.recB 6) (4 * i) 4) = c.words.getD i 0 % 4294967296 := by
  rw [cutL, Cal.recB_words c h, cut_words _ _ (by rw [Cal.words_length c h]; exact hi), getL_putL, pow256_4]

def wordV (a : Nat) : List Value := [.int .u32 ((a : Int) % 4294967296), .int .u32 ((a : Int) / 4294967296)]
/-- what the law's own list holds after so many arguments -/
def Cal.wordVals (c : Cal) (i : Nat) : List Value := [.int .u32 (c.nr : Int), .int .u32 (c.arch : Int), .int .u32 ((c.ip : Int) % 4294967296), .int .u32 ((c.ip : Int) / 4294967296)] ++ (c.args.take i).flatMap wordV
theorem Cal.wordVals_snoc (c : Cal) (i : Nat) (hi : i < c.args.length) : c.wordVals (i + 1) = c.wordVals i ++ wordV (c.args.getD i 0) := by
  have hg : c.args.getD i 0 = c.args[i] := by simp [List.getD, hi]
  simp only [Cal.wordVals, ← List.take_append_getElem hi, List.flatMap_append, List.flatMap_cons, List.flatMap_nil, List.append_nil, hg, List.append_assoc]
theorem wordV_len (l : List Nat) : (l.flatMap wordV).length = 2 * l.length := by
  induction l with
  | nil => rfl
  | cons a l ih => rw [List.flatMap_cons, List.length_append, ih, List.length_cons]; simp [wordV]; omega
theorem Cal.wordVals_length (c : Cal) (i : Nat) (hi : i ≤ c.args.length) : (c.wordVals i).length = 4 + 2 * i := by
  simp only [Cal.wordVals, List.length_append, wordV_len, List.length_take, List.length_cons, List.length_nil]; omega
theorem wordV_eq (a : Nat) (h : a ≤ 18446744073709551615) : wordV a = [a, a / 4294967296].map fun n => Value.int .u32 ((n % 4294967296 : Nat) : Int) := by
  have h1 : a / 4294967296 % 4294967296 = a / 4294967296 := Nat.mod_eq_of_lt (by omega)
  simp only [wordV, List.map_cons, List.map_nil, h1]
  rfl
theorem Cal.wordVals_all (c : Cal) (h : c.ok) : c.wordVals 6 = c.words.map fun n => Value.int .u32 ((n % 4294967296 : Nat) : Int) := by
  obtain ⟨h1, h2, h3, h4, h5⟩ := h
  have e1 : c.nr % 4294967296 = c.nr := Nat.mod_eq_of_lt (by omega)
  have e2 : c.arch % 4294967296 = c.arch := Nat.mod_eq_of_lt (by omega)
  have e3 : c.ip / 4294967296 % 4294967296 = c.ip / 4294967296 := Nat.mod_eq_of_lt (by omega)
  rw [Cal.wordVals, List.take_of_length_le (by omega), Cal.words]
  simp only [List.map_cons, e1, e2, e3]
  have : ∀ l : List Nat, (∀ a ∈ l, a ≤ 18446744073709551615) → l.flatMap wordV = (l.flatMap fun a => [a, a / 4294967296]).map fun n => Value.int .u32 ((n % 4294967296 : Nat) : Int) := by
    intro l
    induction l with
    | nil => intro _; rfl
    | cons a l ih =>
      intro hl
      rw [List.flatMap_cons, List.flatMap_cons, List.map_append, ih (fun x hx => hl x (List.mem_cons_of_mem _ hx)), wordV_eq a (hl a (by simp))]
  rw [this c.args h5]
  rfl
end Go.Proofs.Ytbndhegmfnfahab
