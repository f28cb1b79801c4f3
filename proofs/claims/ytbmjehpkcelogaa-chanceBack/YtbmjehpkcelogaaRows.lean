/-
  No cell of these rows narrows 'for every input' (looked for: loops, veiled, ifaces, maps, wideKeys, modest, calm, conditions, laid).
  DERIVED. THE GIVEN ROWS OF THIS SEAT. 6 by the template 'for every input the law returns true; each argument reads behind the call as it read before'; 0 by the template 'total and deterministic' (their statements: YtbmjehpkcelogaaTotals.lean).
  GIVEN WITH THE SEED: the statements are not yours to turn. If you find one false, say at which input.
  Laid BY PROGRAM, IN A SANDBOX (cutbox-rows.mjs): the forced cells as the released guide's own fill.sh prints them over the translation c5de4ec7ccfaa139… (all of the seat's roots in one cut). By AI agents, Wed Nov 11 2026. No macro, syntax, notation, axiom, sorry.
-/
import Derived.Test.YtbmjehpkcelogaaChecked
import GoSem.Claim
import GoSem.ClaimJoined
import GoSem.ClaimMapViews
import Derived.JoinedTies
import Derived.KernelRfl
namespace Go.Proofs.Ytbmjehpkcelogaa
/- THE CELL 'sum', in the pinned program and in every row, IS THE sha256 OF THE DUMP (.gsa) THAT YtbmjehpkcelogaaProg.lean LOADS. Nothing in Lean hashes anything: it is a label: what it is worth is what the hold of that sum in a sandbox is worth. -/
noncomputable def Try.pinned : Pinned := { name := "ytbmjehpkcelogaa", sum := "c5de4ec7ccfaa1394d65908a36691b4a0ac5d25c19429bc218f6426726eb89e8", checked := Try.checked }
namespace Rows
def none {H : Type} : Left H := { results := [], args := [] }

/-- 'wringerlaw15.ChancePut': WHATEVER THE INPUT: true; the input reads as it did. -/
def chancePutSpec : ChangeSpec := { name := "chancePut", fn := fun _ => fun
  | [d] => { results := [.lit (.bool true)], args := [d] }
  | _ => none }
def chancePutRow : OpenClaim := { program := "ytbmjehpkcelogaa", sum := "c5de4ec7ccfaa1394d65908a36691b4a0ac5d25c19429bc218f6426726eb89e8", func := "wringer/wringerlaw15.ChancePut", spec := "chancePut", unfollowed := true, recurses := true, apart := false }
def ChancePutSaid : Prop := chancePutRow.holds Try.pinned (OpenSpec.ofChange chancePutSpec)

/-- ITS FALSE NEIGHBOUR: 'it returns false'. Refute it at one input. -/
def chancePutWrong : ChangeSpec := { name := "chancePut", fn := fun _ => fun
  | [d] => { results := [.lit (.bool false)], args := [d] }
  | _ => none }
def ChancePutWrongFalsely : Prop := chancePutRow.holds Try.pinned (OpenSpec.ofChange chancePutWrong)

/-- 'wringerlaw15.ChanceGet': WHATEVER THE INPUT: true; the input reads as it did. -/
def chanceGetSpec : ChangeSpec := { name := "chanceGet", fn := fun _ => fun
  | [d1, d2] => { results := [.lit (.bool true)], args := [d1, d2] }
  | _ => none }
def chanceGetRow : OpenClaim := { program := "ytbmjehpkcelogaa", sum := "c5de4ec7ccfaa1394d65908a36691b4a0ac5d25c19429bc218f6426726eb89e8", func := "wringer/wringerlaw15.ChanceGet", spec := "chanceGet", unfollowed := true, recurses := true, apart := false }
def ChanceGetSaid : Prop := chanceGetRow.holds Try.pinned (OpenSpec.ofChange chanceGetSpec)

/-- ITS FALSE NEIGHBOUR: 'it returns false'. Refute it at one input. -/
def chanceGetWrong : ChangeSpec := { name := "chanceGet", fn := fun _ => fun
  | [d1, d2] => { results := [.lit (.bool false)], args := [d1, d2] }
  | _ => none }
def ChanceGetWrongFalsely : Prop := chanceGetRow.holds Try.pinned (OpenSpec.ofChange chanceGetWrong)

/-- 'wringerlaw15.ChanceBack': WHATEVER THE INPUT: true; the input reads as it did. -/
def chanceBackSpec : ChangeSpec := { name := "chanceBack", fn := fun _ => fun
  | [d1, d2, d3] => { results := [.lit (.bool true)], args := [d1, d2, d3] }
  | _ => none }
def chanceBackRow : OpenClaim := { program := "ytbmjehpkcelogaa", sum := "c5de4ec7ccfaa1394d65908a36691b4a0ac5d25c19429bc218f6426726eb89e8", func := "wringer/wringerlaw15.ChanceBack", spec := "chanceBack", unfollowed := true, recurses := true, apart := false }
def ChanceBackSaid : Prop := chanceBackRow.holds Try.pinned (OpenSpec.ofChange chanceBackSpec)

/-- ITS FALSE NEIGHBOUR: 'it returns false'. Refute it at one input. -/
def chanceBackWrong : ChangeSpec := { name := "chanceBack", fn := fun _ => fun
  | [d1, d2, d3] => { results := [.lit (.bool false)], args := [d1, d2, d3] }
  | _ => none }
def ChanceBackWrongFalsely : Prop := chanceBackRow.holds Try.pinned (OpenSpec.ofChange chanceBackWrong)

/-- 'wringerlaw15.ChanceLong': WHATEVER THE INPUT: true; the input reads as it did. -/
def chanceLongSpec : ChangeSpec := { name := "chanceLong", fn := fun _ => fun
  | [d1, d2] => { results := [.lit (.bool true)], args := [d1, d2] }
  | _ => none }
def chanceLongRow : OpenClaim := { program := "ytbmjehpkcelogaa", sum := "c5de4ec7ccfaa1394d65908a36691b4a0ac5d25c19429bc218f6426726eb89e8", func := "wringer/wringerlaw15.ChanceLong", spec := "chanceLong", unfollowed := true, recurses := true, apart := false }
def ChanceLongSaid : Prop := chanceLongRow.holds Try.pinned (OpenSpec.ofChange chanceLongSpec)

/-- ITS FALSE NEIGHBOUR: 'it returns false'. Refute it at one input. -/
def chanceLongWrong : ChangeSpec := { name := "chanceLong", fn := fun _ => fun
  | [d1, d2] => { results := [.lit (.bool false)], args := [d1, d2] }
  | _ => none }
def ChanceLongWrongFalsely : Prop := chanceLongRow.holds Try.pinned (OpenSpec.ofChange chanceLongWrong)

/-- 'wringerlaw15.ChanceMore': WHATEVER THE INPUT: true; the input reads as it did. -/
def chanceMoreSpec : ChangeSpec := { name := "chanceMore", fn := fun _ => fun
  | [d1, d2, d3] => { results := [.lit (.bool true)], args := [d1, d2, d3] }
  | _ => none }
def chanceMoreRow : OpenClaim := { program := "ytbmjehpkcelogaa", sum := "c5de4ec7ccfaa1394d65908a36691b4a0ac5d25c19429bc218f6426726eb89e8", func := "wringer/wringerlaw15.ChanceMore", spec := "chanceMore", unfollowed := true, recurses := true, apart := false }
def ChanceMoreSaid : Prop := chanceMoreRow.holds Try.pinned (OpenSpec.ofChange chanceMoreSpec)

/-- ITS FALSE NEIGHBOUR: 'it returns false'. Refute it at one input. -/
def chanceMoreWrong : ChangeSpec := { name := "chanceMore", fn := fun _ => fun
  | [d1, d2, d3] => { results := [.lit (.bool false)], args := [d1, d2, d3] }
  | _ => none }
def ChanceMoreWrongFalsely : Prop := chanceMoreRow.holds Try.pinned (OpenSpec.ofChange chanceMoreWrong)

/-- 'wringerlaw15.ChanceFirst': WHATEVER THE INPUT: true; the input reads as it did. -/
def chanceFirstSpec : ChangeSpec := { name := "chanceFirst", fn := fun _ => fun
  | [d1, d2] => { results := [.lit (.bool true)], args := [d1, d2] }
  | _ => none }
def chanceFirstRow : OpenClaim := { program := "ytbmjehpkcelogaa", sum := "c5de4ec7ccfaa1394d65908a36691b4a0ac5d25c19429bc218f6426726eb89e8", func := "wringer/wringerlaw15.ChanceFirst", spec := "chanceFirst", unfollowed := true, recurses := true, apart := false }
def ChanceFirstSaid : Prop := chanceFirstRow.holds Try.pinned (OpenSpec.ofChange chanceFirstSpec)

/-- ITS FALSE NEIGHBOUR: 'it returns false'. Refute it at one input. -/
def chanceFirstWrong : ChangeSpec := { name := "chanceFirst", fn := fun _ => fun
  | [d1, d2] => { results := [.lit (.bool false)], args := [d1, d2] }
  | _ => none }
def ChanceFirstWrongFalsely : Prop := chanceFirstRow.holds Try.pinned (OpenSpec.ofChange chanceFirstWrong)

/- THE SECOND FORM. 'bulk': how many values and letters a reading holds, each counted each time it is reached (what is shared counts as often as it is met; a slice's spare places count too). A statement '..UptoSaid' is the law's where the arguments, and the package variables that the reading takes, are together of bulk at most 1048576: NARROWER than '..Said'. Prove '..Said' where nothing that the law and all that it calls make is longer than what came in: it says more and counts as full. Else prove '..UptoSaid'. A law counts once. -/
mutual
def uptoBulk {H : Type} : DataW H → Nat
  | .lit (.string bytes) => bytes.length + 1
  | .lit _ => 1
  | .nil => 1
  | .ptr d => uptoBulk d + 1
  | .slice elems spare => uptoBulkAll elems + uptoBulkAll spare + 1
  | .agg parts => uptoBulkAll parts + 1
  | .iface _ d => uptoBulk d + 1
  | .map entries => uptoBulkEntries entries + 1
  | .held _ => 1
def uptoBulkAll {H : Type} : List (DataW H) → Nat
  | [] => 0
  | d :: r => uptoBulk d + uptoBulkAll r
def uptoBulkEntries {H : Type} : List (Lit × DataW H) → Nat
  | [] => 0
  | x :: r => uptoBulkEntry x + uptoBulkEntries r
def uptoBulkEntry {H : Type} : Lit × DataW H → Nat
  | (.string bytes, d) => bytes.length + uptoBulk d + 1
  | (_, d) => uptoBulk d + 1
 end
def uptoSmall : (H : Type) → List (DataW H) → Bool := fun _ ds => decide (uptoBulkAll ds ≤ 1048576)
def OpenSpec.upto (s : _root_.Go.ChangeSpec) : _root_.Go.OpenSpec := { _root_.Go.OpenSpec.ofChange s with cond := some uptoSmall }

/-- 'wringerlaw15.ChancePut', WHERE WHAT IT READS IS OF BULK AT MOST 1048576: true; the input reads as it did. -/
def chancePutUptoRow : OpenClaim := { program := "ytbmjehpkcelogaa", sum := "c5de4ec7ccfaa1394d65908a36691b4a0ac5d25c19429bc218f6426726eb89e8", func := "wringer/wringerlaw15.ChancePut", spec := "chancePut", unfollowed := true, recurses := true, apart := false, narrowed := true }
def ChancePutUptoSaid : Prop := chancePutUptoRow.holds Try.pinned (OpenSpec.upto chancePutSpec)

/-- 'wringerlaw15.ChanceGet', WHERE WHAT IT READS IS OF BULK AT MOST 1048576: true; the input reads as it did. -/
def chanceGetUptoRow : OpenClaim := { program := "ytbmjehpkcelogaa", sum := "c5de4ec7ccfaa1394d65908a36691b4a0ac5d25c19429bc218f6426726eb89e8", func := "wringer/wringerlaw15.ChanceGet", spec := "chanceGet", unfollowed := true, recurses := true, apart := false, narrowed := true }
def ChanceGetUptoSaid : Prop := chanceGetUptoRow.holds Try.pinned (OpenSpec.upto chanceGetSpec)

/-- 'wringerlaw15.ChanceBack', WHERE WHAT IT READS IS OF BULK AT MOST 1048576: true; the input reads as it did. -/
def chanceBackUptoRow : OpenClaim := { program := "ytbmjehpkcelogaa", sum := "c5de4ec7ccfaa1394d65908a36691b4a0ac5d25c19429bc218f6426726eb89e8", func := "wringer/wringerlaw15.ChanceBack", spec := "chanceBack", unfollowed := true, recurses := true, apart := false, narrowed := true }
def ChanceBackUptoSaid : Prop := chanceBackUptoRow.holds Try.pinned (OpenSpec.upto chanceBackSpec)

/-- 'wringerlaw15.ChanceLong', WHERE WHAT IT READS IS OF BULK AT MOST 1048576: true; the input reads as it did. -/
def chanceLongUptoRow : OpenClaim := { program := "ytbmjehpkcelogaa", sum := "c5de4ec7ccfaa1394d65908a36691b4a0ac5d25c19429bc218f6426726eb89e8", func := "wringer/wringerlaw15.ChanceLong", spec := "chanceLong", unfollowed := true, recurses := true, apart := false, narrowed := true }
def ChanceLongUptoSaid : Prop := chanceLongUptoRow.holds Try.pinned (OpenSpec.upto chanceLongSpec)

/-- 'wringerlaw15.ChanceMore', WHERE WHAT IT READS IS OF BULK AT MOST 1048576: true; the input reads as it did. -/
def chanceMoreUptoRow : OpenClaim := { program := "ytbmjehpkcelogaa", sum := "c5de4ec7ccfaa1394d65908a36691b4a0ac5d25c19429bc218f6426726eb89e8", func := "wringer/wringerlaw15.ChanceMore", spec := "chanceMore", unfollowed := true, recurses := true, apart := false, narrowed := true }
def ChanceMoreUptoSaid : Prop := chanceMoreUptoRow.holds Try.pinned (OpenSpec.upto chanceMoreSpec)

/-- 'wringerlaw15.ChanceFirst', WHERE WHAT IT READS IS OF BULK AT MOST 1048576: true; the input reads as it did. -/
def chanceFirstUptoRow : OpenClaim := { program := "ytbmjehpkcelogaa", sum := "c5de4ec7ccfaa1394d65908a36691b4a0ac5d25c19429bc218f6426726eb89e8", func := "wringer/wringerlaw15.ChanceFirst", spec := "chanceFirst", unfollowed := true, recurses := true, apart := false, narrowed := true }
def ChanceFirstUptoSaid : Prop := chanceFirstUptoRow.holds Try.pinned (OpenSpec.upto chanceFirstSpec)

end Rows
end Go.Proofs.Ytbmjehpkcelogaa
