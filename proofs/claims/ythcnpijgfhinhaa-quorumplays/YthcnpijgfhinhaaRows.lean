/-
  No cell of these rows narrows 'for every input' (looked for: loops, veiled, ifaces, maps, wideKeys, modest, calm, conditions, laid).
  DERIVED. THE GIVEN ROWS OF THIS SEAT. 5 by the template 'for every input the law returns true; each argument reads behind the call as it read before'; 0 by the template 'total and deterministic' (their statements: YthcnpijgfhinhaaTotals.lean).
  GIVEN WITH THE SEED: the statements are not yours to turn. If you find one false, say at which input.
  Laid BY PROGRAM, IN A SANDBOX (cutbox-rows.mjs): the forced cells as the released guide's own fill.sh prints them over the translation 7b164b54fa9c9740… (all of the seat's roots in one cut). By AI agents, Wed Nov 11 2026. No macro, syntax, notation, axiom, sorry.
-/
import Derived.Test.YthcnpijgfhinhaaChecked
import GoSem.Claim
import GoSem.ClaimJoined
import GoSem.ClaimMapViews
import Derived.JoinedTies
import Derived.KernelRfl
namespace Go.Proofs.Ythcnpijgfhinhaa
/- THE CELL 'sum', in the pinned program and in every row, IS THE sha256 OF THE DUMP (.gsa) THAT YthcnpijgfhinhaaProg.lean LOADS. Nothing in Lean hashes anything: it is a label: what it is worth is what the hold of that sum in a sandbox is worth. -/
noncomputable def Try.pinned : Pinned := { name := "ythcnpijgfhinhaa", sum := "7b164b54fa9c9740614d9218be14e95196cd264f1d81dbecb4b5f9767194ba98", checked := Try.checked }
namespace Rows
def none {H : Type} : Left H := { results := [], args := [] }

/-- 'sherdlaw09.QuorumMeets': WHATEVER THE INPUT: true; the input reads as it did. -/
def quorumMeetsSpec : ChangeSpec := { name := "quorumMeets", fn := fun _ => fun
  | [d1, d2, d3] => { results := [.lit (.bool true)], args := [d1, d2, d3] }
  | _ => none }
def quorumMeetsRow : OpenClaim := { program := "ythcnpijgfhinhaa", sum := "7b164b54fa9c9740614d9218be14e95196cd264f1d81dbecb4b5f9767194ba98", func := "sherd/sherdlaw09.QuorumMeets", spec := "quorumMeets", unfollowed := true, recurses := true, apart := false }
def QuorumMeetsSaid : Prop := quorumMeetsRow.holds Try.pinned (OpenSpec.ofChange quorumMeetsSpec)

/-- ITS FALSE NEIGHBOUR: 'it returns false'. Refute it at one input. -/
def quorumMeetsWrong : ChangeSpec := { name := "quorumMeets", fn := fun _ => fun
  | [d1, d2, d3] => { results := [.lit (.bool false)], args := [d1, d2, d3] }
  | _ => none }
def QuorumMeetsWrongFalsely : Prop := quorumMeetsRow.holds Try.pinned (OpenSpec.ofChange quorumMeetsWrong)

/-- 'sherdlaw09.QuorumShare': WHATEVER THE INPUT: true; the input reads as it did. -/
def quorumShareSpec : ChangeSpec := { name := "quorumShare", fn := fun _ => fun
  | [d1, d2, d3] => { results := [.lit (.bool true)], args := [d1, d2, d3] }
  | _ => none }
def quorumShareRow : OpenClaim := { program := "ythcnpijgfhinhaa", sum := "7b164b54fa9c9740614d9218be14e95196cd264f1d81dbecb4b5f9767194ba98", func := "sherd/sherdlaw09.QuorumShare", spec := "quorumShare", unfollowed := true, recurses := true, apart := false }
def QuorumShareSaid : Prop := quorumShareRow.holds Try.pinned (OpenSpec.ofChange quorumShareSpec)

/-- ITS FALSE NEIGHBOUR: 'it returns false'. Refute it at one input. -/
def quorumShareWrong : ChangeSpec := { name := "quorumShare", fn := fun _ => fun
  | [d1, d2, d3] => { results := [.lit (.bool false)], args := [d1, d2, d3] }
  | _ => none }
def QuorumShareWrongFalsely : Prop := quorumShareRow.holds Try.pinned (OpenSpec.ofChange quorumShareWrong)

/-- 'sherdlaw09.QuorumConfigs': WHATEVER THE INPUT: true; the input reads as it did. -/
def quorumConfigsSpec : ChangeSpec := { name := "quorumConfigs", fn := fun _ => fun
  | [d] => { results := [.lit (.bool true)], args := [d] }
  | _ => none }
def quorumConfigsRow : OpenClaim := { program := "ythcnpijgfhinhaa", sum := "7b164b54fa9c9740614d9218be14e95196cd264f1d81dbecb4b5f9767194ba98", func := "sherd/sherdlaw09.QuorumConfigs", spec := "quorumConfigs", unfollowed := true, recurses := true, apart := false }
def QuorumConfigsSaid : Prop := quorumConfigsRow.holds Try.pinned (OpenSpec.ofChange quorumConfigsSpec)

/-- ITS FALSE NEIGHBOUR: 'it returns false'. Refute it at one input. -/
def quorumConfigsWrong : ChangeSpec := { name := "quorumConfigs", fn := fun _ => fun
  | [d] => { results := [.lit (.bool false)], args := [d] }
  | _ => none }
def QuorumConfigsWrongFalsely : Prop := quorumConfigsRow.holds Try.pinned (OpenSpec.ofChange quorumConfigsWrong)

/-- 'sherdlaw09.QuorumPlays': WHATEVER THE INPUT: true; the input reads as it did. -/
def quorumPlaysSpec : ChangeSpec := { name := "quorumPlays", fn := fun _ => fun
  | [d] => { results := [.lit (.bool true)], args := [d] }
  | _ => none }
def quorumPlaysRow : OpenClaim := { program := "ythcnpijgfhinhaa", sum := "7b164b54fa9c9740614d9218be14e95196cd264f1d81dbecb4b5f9767194ba98", func := "sherd/sherdlaw09.QuorumPlays", spec := "quorumPlays", unfollowed := true, recurses := true, apart := false }
def QuorumPlaysSaid : Prop := quorumPlaysRow.holds Try.pinned (OpenSpec.ofChange quorumPlaysSpec)

/-- ITS FALSE NEIGHBOUR: 'it returns false'. Refute it at one input. -/
def quorumPlaysWrong : ChangeSpec := { name := "quorumPlays", fn := fun _ => fun
  | [d] => { results := [.lit (.bool false)], args := [d] }
  | _ => none }
def QuorumPlaysWrongFalsely : Prop := quorumPlaysRow.holds Try.pinned (OpenSpec.ofChange quorumPlaysWrong)

/-- 'sherdtop.TopQuorums': WHATEVER THE INPUT: true; the input reads as it did. -/
def topQuorumsSpec : ChangeSpec := { name := "topQuorums", fn := fun _ => fun
  | [d1, d2, d3] => { results := [.lit (.bool true)], args := [d1, d2, d3] }
  | _ => none }
def topQuorumsRow : OpenClaim := { program := "ythcnpijgfhinhaa", sum := "7b164b54fa9c9740614d9218be14e95196cd264f1d81dbecb4b5f9767194ba98", func := "sherd/sherdtop.TopQuorums", spec := "topQuorums", unfollowed := true, recurses := true, apart := false }
def TopQuorumsSaid : Prop := topQuorumsRow.holds Try.pinned (OpenSpec.ofChange topQuorumsSpec)

/-- ITS FALSE NEIGHBOUR: 'it returns false'. Refute it at one input. -/
def topQuorumsWrong : ChangeSpec := { name := "topQuorums", fn := fun _ => fun
  | [d1, d2, d3] => { results := [.lit (.bool false)], args := [d1, d2, d3] }
  | _ => none }
def TopQuorumsWrongFalsely : Prop := topQuorumsRow.holds Try.pinned (OpenSpec.ofChange topQuorumsWrong)

/- THE SECOND FORM. 'bulk': how many values and letters a reading holds, each counted each time it is reached (what is shared counts as often as it is met; a slice's spare places count too). A statement '..UptoSaid' is the law's where the arguments, and the package variables that the reading takes, are together of bulk at most 1048576: NARROWER than '..Said'. Prove '..Said' where nothing that the law and all that it calls make is longer than what came in: it says more and counts as full. Else prove '..UptoSaid'. A law counts once. -/
mutual
def uptoBulk {H : Type} : DataW H → Nat
  | .lit (.string bytes) => bytes.length + 1
  | .lit _ => 1
  | .nil => 1
  | .ptr d => uptoBulk d + 1
  | .slice elems spare => uptoBulkAll elems + uptoBulkAll spare + 1
  | .agg parts => uptoBulkAll parts + 1
  | .iface _ d => uptoBulk d + 1
  | .map entries => uptoBulkEntries entries + 1
  | .held _ => 1
def uptoBulkAll {H : Type} : List (DataW H) → Nat
  | [] => 0
  | d :: r => uptoBulk d + uptoBulkAll r
def uptoBulkEntries {H : Type} : List (Lit × DataW H) → Nat
  | [] => 0
  | x :: r => uptoBulkEntry x + uptoBulkEntries r
def uptoBulkEntry {H : Type} : Lit × DataW H → Nat
  | (.string bytes, d) => bytes.length + uptoBulk d + 1
  | (_, d) => uptoBulk d + 1
 end
def uptoSmall : (H : Type) → List (DataW H) → Bool := fun _ ds => decide (uptoBulkAll ds ≤ 1048576)
def OpenSpec.upto (s : _root_.Go.ChangeSpec) : _root_.Go.OpenSpec := { _root_.Go.OpenSpec.ofChange s with cond := some uptoSmall }

/-- 'sherdlaw09.QuorumMeets', WHERE WHAT IT READS IS OF BULK AT MOST 1048576: true; the input reads as it did. -/
def quorumMeetsUptoRow : OpenClaim := { program := "ythcnpijgfhinhaa", sum := "7b164b54fa9c9740614d9218be14e95196cd264f1d81dbecb4b5f9767194ba98", func := "sherd/sherdlaw09.QuorumMeets", spec := "quorumMeets", unfollowed := true, recurses := true, apart := false, narrowed := true }
def QuorumMeetsUptoSaid : Prop := quorumMeetsUptoRow.holds Try.pinned (OpenSpec.upto quorumMeetsSpec)

/-- 'sherdlaw09.QuorumShare', WHERE WHAT IT READS IS OF BULK AT MOST 1048576: true; the input reads as it did. -/
def quorumShareUptoRow : OpenClaim := { program := "ythcnpijgfhinhaa", sum := "7b164b54fa9c9740614d9218be14e95196cd264f1d81dbecb4b5f9767194ba98", func := "sherd/sherdlaw09.QuorumShare", spec := "quorumShare", unfollowed := true, recurses := true, apart := false, narrowed := true }
def QuorumShareUptoSaid : Prop := quorumShareUptoRow.holds Try.pinned (OpenSpec.upto quorumShareSpec)

/-- 'sherdlaw09.QuorumConfigs', WHERE WHAT IT READS IS OF BULK AT MOST 1048576: true; the input reads as it did. -/
def quorumConfigsUptoRow : OpenClaim := { program := "ythcnpijgfhinhaa", sum := "7b164b54fa9c9740614d9218be14e95196cd264f1d81dbecb4b5f9767194ba98", func := "sherd/sherdlaw09.QuorumConfigs", spec := "quorumConfigs", unfollowed := true, recurses := true, apart := false, narrowed := true }
def QuorumConfigsUptoSaid : Prop := quorumConfigsUptoRow.holds Try.pinned (OpenSpec.upto quorumConfigsSpec)

/-- 'sherdlaw09.QuorumPlays', WHERE WHAT IT READS IS OF BULK AT MOST 1048576: true; the input reads as it did. -/
def quorumPlaysUptoRow : OpenClaim := { program := "ythcnpijgfhinhaa", sum := "7b164b54fa9c9740614d9218be14e95196cd264f1d81dbecb4b5f9767194ba98", func := "sherd/sherdlaw09.QuorumPlays", spec := "quorumPlays", unfollowed := true, recurses := true, apart := false, narrowed := true }
def QuorumPlaysUptoSaid : Prop := quorumPlaysUptoRow.holds Try.pinned (OpenSpec.upto quorumPlaysSpec)

/-- 'sherdtop.TopQuorums', WHERE WHAT IT READS IS OF BULK AT MOST 1048576: true; the input reads as it did. -/
def topQuorumsUptoRow : OpenClaim := { program := "ythcnpijgfhinhaa", sum := "7b164b54fa9c9740614d9218be14e95196cd264f1d81dbecb4b5f9767194ba98", func := "sherd/sherdtop.TopQuorums", spec := "topQuorums", unfollowed := true, recurses := true, apart := false, narrowed := true }
def TopQuorumsUptoSaid : Prop := topQuorumsUptoRow.holds Try.pinned (OpenSpec.upto topQuorumsSpec)

end Rows
end Go.Proofs.Ythcnpijgfhinhaa
