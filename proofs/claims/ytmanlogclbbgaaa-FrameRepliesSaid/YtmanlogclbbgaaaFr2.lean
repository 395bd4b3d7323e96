/- Requests; daemon.Right. -/
import Derived.Test.YtmanlogclbbgaaaFr1
namespace Go.Proofs.Ytmanlogclbbgaaa
open Go.RowKit
set_option linter.unusedVariables false

/-- a request -/
structure Asq where
  kind : Int
  name : ByteArray
  no : Int
  source : ByteArray
  record : ByteArray
  deriving DecidableEq
def Asq.value (q : Asq) : Value := .agg #[.int .i64 q.kind, .string q.name, .int .i64 q.no, .string q.source, .string q.record]
def noB : ByteArray := ⟨#[]⟩
def asqZ : Asq := ⟨0, noB, 0, noB, noB⟩
/-- what a request's kind does not use -/
def Asq.unused (q : Asq) : Asq :=
  if q.kind = 1 then ⟨0, noB, q.no, noB, q.record⟩ else if q.kind = 3 then ⟨0, noB, q.no, q.source, q.record⟩
  else if q.kind = 2 ∨ q.kind = 4 then ⟨0, noB, 0, q.source, q.record⟩ else if q.kind = 6 then ⟨0, noB, 0, q.source, noB⟩ else ⟨0, q.name, q.no, q.source, q.record⟩
def rightA (q : Asq) : Bool :=
  decide (1 ≤ q.kind ∧ q.kind ≤ 8) && decide (q.unused = asqZ) && decide (0 ≤ q.no) && decide (q.source.size ≤ 2000) && (decide (q.kind = 5 ∨ q.kind = 7 ∨ q.kind = 8) || decide (1 ≤ q.name.size ∧ q.name.size ≤ 12))

theorem toList_inj (a b : ByteArray) : a.toList = b.toList ↔ a = b := by
  constructor
  · intro h
    rw [ByteArray.toList_eq, ByteArray.toList_eq] at h
    exact ba_ext h
  · rintro rfl; rfl
theorem eqAsq (i j : Asq) (u : World) : (binOp .eql 23 i.value j.value).run Try.prog u = .ok (.bool (decide (i = j))) u := by
  obtain ⟨a, b, c, d, e⟩ := i
  obtain ⟨a', b', c', d', e'⟩ := j
  have u3 := Try.underlying3
  have u4 := Try.underlying9
  have z3 := Try.sizeOf3
  have z4 := Try.sizeOf9
  by_cases h1 : a = a' <;> by_cases h2 : b = b' <;> by_cases h3 : c = c' <;> by_cases h4 : d = d' <;> by_cases h5 : e = e'
  all_goals
    simp only [Asq.value]
    go_simp
    try simp only [toList_inj]
    try simp [*]
def AsqAt (w : World) (B : Nat) (q : Asq) : Prop := w.heap[B]? = some (.cells #[.int .i64 q.kind, .string q.name, .int .i64 q.no, .string q.source, .string q.record] 23 (0, 0))
theorem neAsq (i j : Asq) (u : World) : (binOp .neq 23 i.value j.value).run Try.prog u = .ok (.bool (!decide (i = j))) u := by
  obtain ⟨a, b, c, d, e⟩ := i
  obtain ⟨a', b', c', d', e'⟩ := j
  have u3 := Try.underlying3
  have u4 := Try.underlying9
  have z3 := Try.sizeOf3
  have z4 := Try.sizeOf9
  by_cases h1 : a = a' <;> by_cases h2 : b = b' <;> by_cases h3 : c = c' <;> by_cases h4 : d = d' <;> by_cases h5 : e = e'
  all_goals
    simp only [Asq.value]
    go_simp
    try simp only [toList_inj]
    try simp [*]
end Go.Proofs.Ytmanlogclbbgaaa
