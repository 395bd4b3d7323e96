/-
  NARROWER THAN 'FOR EVERY INPUT', by the rows' own cells (each row's printed sentence says how): TypesConds: loops · TypesChecks: loops · TypesOrder: loops · TypesNots: loops · TypesBare: loops.
  DERIVED. THE GIVEN ROWS OF THIS SEAT. 5 by the template 'for every input the law returns true; each argument reads behind the call as it read before'; 0 by the template 'total and deterministic' (their statements: YtbcoooaoofbboaaTotals.lean).
  GIVEN WITH THE SEED: the statements are not yours to turn. If you find one false, say at which input.
  Laid BY PROGRAM, IN A SANDBOX (cutbox-rows.mjs): the forced cells as the released guide's own fill.sh prints them over the translation f78374af5741ca40… (all of the seat's roots in one cut). By AI agents, Wed Nov 11 2026. No macro, syntax, notation, axiom, sorry.
-/
import Derived.Test.YtbcoooaoofbboaaChecked
import GoSem.Claim
import GoSem.ClaimJoined
import GoSem.ClaimMapViews
import Derived.JoinedTies
import Derived.KernelRfl
namespace Go.Proofs.Ytbcoooaoofbboaa
/- THE CELL 'sum', in the pinned program and in every row, IS THE sha256 OF THE DUMP (.gsa) THAT YtbcoooaoofbboaaProg.lean LOADS. Nothing in Lean hashes anything: it is a label: what it is worth is what the hold of that sum in a sandbox is worth. -/
noncomputable def Try.pinned : Pinned := { name := "ytbcoooaoofbboaa", sum := "f78374af5741ca40f6230573d351efe5f32e7440e127ebe00433327e636e42a2", checked := Try.checked }
namespace Rows
def none {H : Type} : Left H := { results := [], args := [] }

/-- 'doorwardlaw16.TypesConds': WHATEVER THE INPUT: true; the input reads as it did. -/
def typesCondsSpec : ChangeSpec := { name := "typesConds", fn := fun _ => fun
  | [d] => { results := [.lit (.bool true)], args := [d] }
  | _ => none }
def typesCondsRow : OpenClaim := { program := "ytbcoooaoofbboaa", sum := "f78374af5741ca40f6230573d351efe5f32e7440e127ebe00433327e636e42a2", func := "doorward/doorwardlaw16.TypesConds", spec := "typesConds", unfollowed := true, recurses := true, loops := true, apart := false }
def TypesCondsSaid : Prop := typesCondsRow.holds Try.pinned (OpenSpec.ofChange typesCondsSpec)

/-- ITS FALSE NEIGHBOUR: 'it returns false'. Refute it at one input. -/
def typesCondsWrong : ChangeSpec := { name := "typesConds", fn := fun _ => fun
  | [d] => { results := [.lit (.bool false)], args := [d] }
  | _ => none }
def TypesCondsWrongFalsely : Prop := typesCondsRow.holds Try.pinned (OpenSpec.ofChange typesCondsWrong)

/-- 'doorwardlaw16.TypesChecks': WHATEVER THE INPUT: true; the input reads as it did. -/
def typesChecksSpec : ChangeSpec := { name := "typesChecks", fn := fun _ => fun
  | [d] => { results := [.lit (.bool true)], args := [d] }
  | _ => none }
def typesChecksRow : OpenClaim := { program := "ytbcoooaoofbboaa", sum := "f78374af5741ca40f6230573d351efe5f32e7440e127ebe00433327e636e42a2", func := "doorward/doorwardlaw16.TypesChecks", spec := "typesChecks", unfollowed := true, recurses := true, loops := true, apart := false }
def TypesChecksSaid : Prop := typesChecksRow.holds Try.pinned (OpenSpec.ofChange typesChecksSpec)

/-- ITS FALSE NEIGHBOUR: 'it returns false'. Refute it at one input. -/
def typesChecksWrong : ChangeSpec := { name := "typesChecks", fn := fun _ => fun
  | [d] => { results := [.lit (.bool false)], args := [d] }
  | _ => none }
def TypesChecksWrongFalsely : Prop := typesChecksRow.holds Try.pinned (OpenSpec.ofChange typesChecksWrong)

/-- 'doorwardlaw16.TypesOrder': WHATEVER THE INPUT: true; the input reads as it did. -/
def typesOrderSpec : ChangeSpec := { name := "typesOrder", fn := fun _ => fun
  | [d1, d2] => { results := [.lit (.bool true)], args := [d1, d2] }
  | _ => none }
def typesOrderRow : OpenClaim := { program := "ytbcoooaoofbboaa", sum := "f78374af5741ca40f6230573d351efe5f32e7440e127ebe00433327e636e42a2", func := "doorward/doorwardlaw16.TypesOrder", spec := "typesOrder", unfollowed := true, recurses := true, loops := true, apart := false }
def TypesOrderSaid : Prop := typesOrderRow.holds Try.pinned (OpenSpec.ofChange typesOrderSpec)

/-- ITS FALSE NEIGHBOUR: 'it returns false'. Refute it at one input. -/
def typesOrderWrong : ChangeSpec := { name := "typesOrder", fn := fun _ => fun
  | [d1, d2] => { results := [.lit (.bool false)], args := [d1, d2] }
  | _ => none }
def TypesOrderWrongFalsely : Prop := typesOrderRow.holds Try.pinned (OpenSpec.ofChange typesOrderWrong)

/-- 'doorwardlaw16.TypesNots': WHATEVER THE INPUT: true; the input reads as it did. -/
def typesNotsSpec : ChangeSpec := { name := "typesNots", fn := fun _ => fun
  | [d] => { results := [.lit (.bool true)], args := [d] }
  | _ => none }
def typesNotsRow : OpenClaim := { program := "ytbcoooaoofbboaa", sum := "f78374af5741ca40f6230573d351efe5f32e7440e127ebe00433327e636e42a2", func := "doorward/doorwardlaw16.TypesNots", spec := "typesNots", unfollowed := true, recurses := true, loops := true, apart := false }
def TypesNotsSaid : Prop := typesNotsRow.holds Try.pinned (OpenSpec.ofChange typesNotsSpec)

/-- ITS FALSE NEIGHBOUR: 'it returns false'. Refute it at one input. -/
def typesNotsWrong : ChangeSpec := { name := "typesNots", fn := fun _ => fun
  | [d] => { results := [.lit (.bool false)], args := [d] }
  | _ => none }
def TypesNotsWrongFalsely : Prop := typesNotsRow.holds Try.pinned (OpenSpec.ofChange typesNotsWrong)

/-- 'doorwardlaw16.TypesBare': WHATEVER THE INPUT: true; the input reads as it did. -/
def typesBareSpec : ChangeSpec := { name := "typesBare", fn := fun _ => fun
  | [d] => { results := [.lit (.bool true)], args := [d] }
  | _ => none }
def typesBareRow : OpenClaim := { program := "ytbcoooaoofbboaa", sum := "f78374af5741ca40f6230573d351efe5f32e7440e127ebe00433327e636e42a2", func := "doorward/doorwardlaw16.TypesBare", spec := "typesBare", unfollowed := true, recurses := true, loops := true, apart := false }
def TypesBareSaid : Prop := typesBareRow.holds Try.pinned (OpenSpec.ofChange typesBareSpec)

/-- ITS FALSE NEIGHBOUR: 'it returns false'. Refute it at one input. -/
def typesBareWrong : ChangeSpec := { name := "typesBare", fn := fun _ => fun
  | [d] => { results := [.lit (.bool false)], args := [d] }
  | _ => none }
def TypesBareWrongFalsely : Prop := typesBareRow.holds Try.pinned (OpenSpec.ofChange typesBareWrong)

/- THE SECOND FORM. 'bulk': how many values and letters a reading holds, each counted each time it is reached (what is shared counts as often as it is met; a slice's spare places count too). A statement '..UptoSaid' is the law's where the arguments, and the package variables that the reading takes, are together of bulk at most 1048576: NARROWER than '..Said'. Prove '..Said' where nothing that the law and all that it calls make is longer than what came in: it says more and counts as full. Else prove '..UptoSaid'. A law counts once. -/
mutual
def uptoBulk {H : Type} : DataW H → Nat
  | .lit (.string bytes) => bytes.length + 1
  | .lit _ => 1
  | .nil => 1
  | .ptr d => uptoBulk d + 1
  | .slice elems spare => uptoBulkAll elems + uptoBulkAll spare + 1
  | .agg parts => uptoBulkAll parts + 1
  | .iface _ d => uptoBulk d + 1
  | .map entries => uptoBulkEntries entries + 1
  | .held _ => 1
def uptoBulkAll {H : Type} : List (DataW H) → Nat
  | [] => 0
  | d :: r => uptoBulk d + uptoBulkAll r
def uptoBulkEntries {H : Type} : List (Lit × DataW H) → Nat
  | [] => 0
  | x :: r => uptoBulkEntry x + uptoBulkEntries r
def uptoBulkEntry {H : Type} : Lit × DataW H → Nat
  | (.string bytes, d) => bytes.length + uptoBulk d + 1
  | (_, d) => uptoBulk d + 1
 end
def uptoSmall : (H : Type) → List (DataW H) → Bool := fun _ ds => decide (uptoBulkAll ds ≤ 1048576)
def OpenSpec.upto (s : _root_.Go.ChangeSpec) : _root_.Go.OpenSpec := { _root_.Go.OpenSpec.ofChange s with cond := some uptoSmall }

/-- 'doorwardlaw16.TypesConds', WHERE WHAT IT READS IS OF BULK AT MOST 1048576: true; the input reads as it did. -/
def typesCondsUptoRow : OpenClaim := { program := "ytbcoooaoofbboaa", sum := "f78374af5741ca40f6230573d351efe5f32e7440e127ebe00433327e636e42a2", func := "doorward/doorwardlaw16.TypesConds", spec := "typesConds", unfollowed := true, recurses := true, loops := true, apart := false, narrowed := true }
def TypesCondsUptoSaid : Prop := typesCondsUptoRow.holds Try.pinned (OpenSpec.upto typesCondsSpec)

/-- 'doorwardlaw16.TypesChecks', WHERE WHAT IT READS IS OF BULK AT MOST 1048576: true; the input reads as it did. -/
def typesChecksUptoRow : OpenClaim := { program := "ytbcoooaoofbboaa", sum := "f78374af5741ca40f6230573d351efe5f32e7440e127ebe00433327e636e42a2", func := "doorward/doorwardlaw16.TypesChecks", spec := "typesChecks", unfollowed := true, recurses := true, loops := true, apart := false, narrowed := true }
def TypesChecksUptoSaid : Prop := typesChecksUptoRow.holds Try.pinned (OpenSpec.upto typesChecksSpec)

/-- 'doorwardlaw16.TypesOrder', WHERE WHAT IT READS IS OF BULK AT MOST 1048576: true; the input reads as it did. -/
def typesOrderUptoRow : OpenClaim := { program := "ytbcoooaoofbboaa", sum := "f78374af5741ca40f6230573d351efe5f32e7440e127ebe00433327e636e42a2", func := "doorward/doorwardlaw16.TypesOrder", spec := "typesOrder", unfollowed := true, recurses := true, loops := true, apart := false, narrowed := true }
def TypesOrderUptoSaid : Prop := typesOrderUptoRow.holds Try.pinned (OpenSpec.upto typesOrderSpec)

/-- 'doorwardlaw16.TypesNots', WHERE WHAT IT READS IS OF BULK AT MOST 1048576: true; the input reads as it did. -/
def typesNotsUptoRow : OpenClaim := { program := "ytbcoooaoofbboaa", sum := "f78374af5741ca40f6230573d351efe5f32e7440e127ebe00433327e636e42a2", func := "doorward/doorwardlaw16.TypesNots", spec := "typesNots", unfollowed := true, recurses := true, loops := true, apart := false, narrowed := true }
def TypesNotsUptoSaid : Prop := typesNotsUptoRow.holds Try.pinned (OpenSpec.upto typesNotsSpec)

/-- 'doorwardlaw16.TypesBare', WHERE WHAT IT READS IS OF BULK AT MOST 1048576: true; the input reads as it did. -/
def typesBareUptoRow : OpenClaim := { program := "ytbcoooaoofbboaa", sum := "f78374af5741ca40f6230573d351efe5f32e7440e127ebe00433327e636e42a2", func := "doorward/doorwardlaw16.TypesBare", spec := "typesBare", unfollowed := true, recurses := true, loops := true, apart := false, narrowed := true }
def TypesBareUptoSaid : Prop := typesBareUptoRow.holds Try.pinned (OpenSpec.upto typesBareSpec)

end Rows
end Go.Proofs.Ytbcoooaoofbboaa
