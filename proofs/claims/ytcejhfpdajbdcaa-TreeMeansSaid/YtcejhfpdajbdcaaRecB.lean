/- The record of a call, where none is written. -/
import Derived.Test.YtcejhfpdajbdcaaCal
import Derived.Test.YtcejhfpdajbdcaaLeGet
namespace Go.Proofs.Ytcejhfpdajbdcaa
open Go.RowKit
set_option linter.unusedVariables false

theorem pow256_4 : (256:Nat) ^ 4 = 4294967296 := by decide
def argsL (l : List Nat) : List UInt8 := l.flatMap fun a => putL a 8
def Cal.recB (c : Cal) (i : Nat) : ByteArray := ⟨(putL c.nr 4 ++ (putL c.arch 4 ++ (putL c.ip 8 ++ argsL (c.args.take i)))).toArray⟩
theorem Cal.recB_list (c : Cal) (i : Nat) : (c.recB i).data.toList = putL c.nr 4 ++ (putL c.arch 4 ++ (putL c.ip 8 ++ argsL (c.args.take i))) := rfl
theorem argsL_cons (a : Nat) (l : List Nat) : argsL (a :: l) = putL a 8 ++ argsL l := by simp [argsL]
theorem argsL_length (l : List Nat) : (argsL l).length = 8 * l.length := by
  induction l with
  | nil => rfl
  | cons a l ih => rw [argsL_cons, List.length_append, putL_length, ih, List.length_cons]; omega
theorem Cal.recB_size (c : Cal) (i : Nat) (hi : i ≤ c.args.length) : (c.recB i).size = 16 + 8 * i := by
  rw [← ba_len, Cal.recB_list]
  simp only [List.length_append, putL_length, argsL_length, List.length_take]
  omega
theorem argsL_snoc (l : List Nat) (i : Nat) (hi : i < l.length) : argsL (l.take (i + 1)) = argsL (l.take i) ++ putL (l.getD i 0) 8 := by
  rw [← List.take_append_getElem hi]
  have hg : l.getD i 0 = l[i] := by simp [List.getD, hi]
  simp only [argsL, List.flatMap_append, List.flatMap_cons, List.flatMap_nil, List.append_nil, hg]
theorem Cal.recB_snoc (c : Cal) (i : Nat) (hi : i < c.args.length) : c.recB (i + 1) = c.recB i ++ numS (c.args.getD i 0) 8 := by
  apply ba_ext
  rw [ba_append_list, Cal.recB_list, Cal.recB_list, argsL_snoc _ _ hi, numS_list]
  simp only [List.append_assoc]

set_option maxRecDepth 4000 in
theorem idx6 (a0 a1 a2 a3 a4 a5 : Nat) (i : Nat) (hi : i < 6) (u : World) : Sem.run Try.prog (Instr.index 37 (.agg #[.int .u64 a0, .int .u64 a1, .int .u64 a2, .int .u64 a3, .int .u64 a4, .int .u64 a5]) (.int .i64 (i : Nat))) u = .ok (.int .u64 (([a0, a1, a2, a3, a4, a5].getD i 0 : Nat) : Int)) u := by
  have hcs : i = 0 ∨ i = 1 ∨ i = 2 ∨ i = 3 ∨ i = 4 ∨ i = 5 := by omega
  rcases hcs with rfl | rfl | rfl | rfl | rfl | rfl <;> rfl

def Cal.words (c : Cal) : List Nat := c.nr :: c.arch :: c.ip :: c.ip / 4294967296 :: c.args.flatMap fun a => [a, a / 4294967296]
theorem putL_two (a : Nat) : putL a 8 = putL a 4 ++ putL (a / 4294967296) 4 := by
  have := putL_append a 4 4
  rw [pow256_4] at this
  exact this
theorem argsL_words (l : List Nat) : argsL l = (l.flatMap fun a => [a, a / 4294967296]).flatMap fun a => putL a 4 := by
  induction l with
  | nil => rfl
  | cons a l ih => rw [argsL_cons, putL_two, ih]; simp [List.append_assoc]
theorem Cal.recB_words (c : Cal) (h : c.args.length = 6) : (c.recB 6).data.toList = c.words.flatMap fun a => putL a 4 := by
  rw [Cal.recB_list, List.take_of_length_le (by omega), argsL_words, putL_two c.ip]
  simp [Cal.words, List.append_assoc]
theorem cut_words (l : List Nat) (i : Nat) (hi : i < l.length) : (((l.flatMap fun a => putL a 4).drop (4 * i)).take 4) = putL (l.getD i 0) 4 := by
  induction l generalizing i with
  | nil => simp at hi
  | cons a l ih =>
    cases i with
    | zero => simp [List.flatMap_cons, List.take_left' (putL_length a 4)]
    | succ i =>
      have hd : 4 * (i + 1) = (putL a 4).length + 4 * i := by rw [putL_length]; omega
      rw [List.flatMap_cons, hd, List.drop_append, List.drop_eq_nil_of_le (by omega), List.nil_append, Nat.add_sub_cancel_left, ih i (by simpa using hi)]
      rfl
theorem Cal.words_length (c : Cal) (h : c.args.length = 6) : c.words.length = 16 := by
  obtain ⟨nr, arch, ip, args⟩ := c
  match args, h with
  | [a0, a1, a2, a3, a4, a5], _ => rfl
theorem Cal.word (c : Cal) (h : c.args.length = 6) (i : Nat) (hi : i < 16) : getL (cutL (c.recB 6) (4 * i) 4) = c.words.getD i 0 % 4294967296 := by
  rw [cutL, Cal.recB_words c h, cut_words _ _ (by rw [Cal.words_length c h]; exact hi), getL_putL, pow256_4]


end Go.Proofs.Ytcejhfpdajbdcaa
