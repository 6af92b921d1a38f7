/-
  NARROWER THAN 'FOR EVERY INPUT', by the rows' own cells (each row's printed sentence says how): CharsBad: laid · CharsNames: laid · CharsBlanks: laid · CharsAgain: laid · CharsJoins: laid.
  DERIVED. THE GIVEN ROWS OF THIS SEAT. 5 by the template 'for every input the law returns true; each argument reads behind the call as it read before'; 0 by the template 'total and deterministic' (their statements: YtmhbdckgejcdhaaDoorTotals.lean).
  GIVEN WITH THE SEED: the statements are not yours to turn. If you find one false, say at which input.
  Laid BY PROGRAM, IN A SANDBOX (cutbox-rows.mjs): the forced cells as the released guide's own fill.sh prints them over the translation d8b43e1905b62d00… (all of the seat's roots in one cut). By AI agents, Wed Nov 11 2026. No macro, syntax, notation, axiom, sorry.
-/
import Derived.Test.YtmhbdckgejcdhaaDoorChecked
import GoSem.Claim
import GoSem.ClaimJoined
import GoSem.ClaimMapViews
import Derived.JoinedTies
import Derived.KernelRfl
namespace Go.Proofs.YtmhbdckgejcdhaaDoor
/- THE CELL 'sum', in the pinned program and in every row, IS THE sha256 OF THE DUMP (.gsa) THAT YtmhbdckgejcdhaaDoorProg.lean LOADS. Nothing in Lean hashes anything: it is a label: what it is worth is what the hold of that sum in a sandbox is worth. -/
noncomputable def Tryd.pinned : Pinned := { name := "ytmhbdckgejcdhaadoor", sum := "d8b43e1905b62d00001f48c91f7f50cb9ba776d569f14cce48663a56399f80d4", checked := Tryd.checked }
namespace Rows
def none {H : Type} : Left H := { results := [], args := [] }

/- WHAT THE LISTED PACKAGE-LEVEL VARIABLES READ AS WHEN THE CALL BEGINS. Each datum BY PROGRAM (the guide's laid-datum.mjs) off the statement by which the dump's own 'gosem.cut.vars' lays the variable. In a bare row this is a premise. The card (YtmhbdckgejcdhaaDoorCards.lean) ties it to the program's text. -/
def laid_lanyard_chars_letters {H : Type} : DataW H := .agg [.agg [.lit (.int .i32 65), .lit (.int .i32 90)], .agg [.lit (.int .i32 95), .lit (.int .i32 95)], .agg [.lit (.int .i32 97), .lit (.int .i32 122)], .agg [.lit (.int .i32 192), .lit (.int .i32 214)], .agg [.lit (.int .i32 216), .lit (.int .i32 246)], .agg [.lit (.int .i32 248), .lit (.int .i32 767)], .agg [.lit (.int .i32 880), .lit (.int .i32 893)], .agg [.lit (.int .i32 895), .lit (.int .i32 8191)], .agg [.lit (.int .i32 8204), .lit (.int .i32 8205)], .agg [.lit (.int .i32 8304), .lit (.int .i32 8591)], .agg [.lit (.int .i32 11264), .lit (.int .i32 12271)], .agg [.lit (.int .i32 12289), .lit (.int .i32 55295)], .agg [.lit (.int .i32 63744), .lit (.int .i32 64975)], .agg [.lit (.int .i32 65008), .lit (.int .i32 65533)], .agg [.lit (.int .i32 65536), .lit (.int .i32 983039)]]
def laid_lanyard_chars_followers {H : Type} : DataW H := .agg [.agg [.lit (.int .i32 45), .lit (.int .i32 46)], .agg [.lit (.int .i32 48), .lit (.int .i32 57)], .agg [.lit (.int .i32 183), .lit (.int .i32 183)], .agg [.lit (.int .i32 768), .lit (.int .i32 879)], .agg [.lit (.int .i32 8255), .lit (.int .i32 8256)]]

/-- 'lanyardlaw01.CharsBad': WHATEVER THE INPUT: true; the input reads as it did. -/
def charsBadSpec : ChangeSpec := { name := "charsBad", fn := fun _ => fun
  | [d] => { results := [.lit (.bool true)], args := [d] }
  | _ => none }
def charsBadRow : OpenClaim := { program := "ytmhbdckgejcdhaadoor", sum := "d8b43e1905b62d00001f48c91f7f50cb9ba776d569f14cce48663a56399f80d4", func := "lanyard/lanyardlaw01.CharsBad", spec := "charsBad", inPlace := ["internal/abi.NoEscape", "internal/bytealg.MakeNoZero"], unfollowed := true, recurses := true, named := ["lanyard/chars.letters", "lanyard/chars.followers"], apart := false, laid := [("lanyard/chars.letters", laid_lanyard_chars_letters), ("lanyard/chars.followers", laid_lanyard_chars_followers)] }
def CharsBadSaid : Prop := charsBadRow.holds Tryd.pinned (OpenSpec.ofChange charsBadSpec)

/-- ITS FALSE NEIGHBOUR: 'it returns false'. Refute it at one input. -/
def charsBadWrong : ChangeSpec := { name := "charsBad", fn := fun _ => fun
  | [d] => { results := [.lit (.bool false)], args := [d] }
  | _ => none }
def CharsBadWrongFalsely : Prop := charsBadRow.holds Tryd.pinned (OpenSpec.ofChange charsBadWrong)

/-- 'lanyardlaw01.CharsNames': WHATEVER THE INPUT: true; the input reads as it did. -/
def charsNamesSpec : ChangeSpec := { name := "charsNames", fn := fun _ => fun
  | [d] => { results := [.lit (.bool true)], args := [d] }
  | _ => none }
def charsNamesRow : OpenClaim := { program := "ytmhbdckgejcdhaadoor", sum := "d8b43e1905b62d00001f48c91f7f50cb9ba776d569f14cce48663a56399f80d4", func := "lanyard/lanyardlaw01.CharsNames", spec := "charsNames", inPlace := ["internal/abi.NoEscape", "internal/bytealg.MakeNoZero"], unfollowed := true, recurses := true, named := ["lanyard/chars.letters", "lanyard/chars.followers"], apart := false, laid := [("lanyard/chars.letters", laid_lanyard_chars_letters), ("lanyard/chars.followers", laid_lanyard_chars_followers)] }
def CharsNamesSaid : Prop := charsNamesRow.holds Tryd.pinned (OpenSpec.ofChange charsNamesSpec)

/-- ITS FALSE NEIGHBOUR: 'it returns false'. Refute it at one input. -/
def charsNamesWrong : ChangeSpec := { name := "charsNames", fn := fun _ => fun
  | [d] => { results := [.lit (.bool false)], args := [d] }
  | _ => none }
def CharsNamesWrongFalsely : Prop := charsNamesRow.holds Tryd.pinned (OpenSpec.ofChange charsNamesWrong)

/-- 'lanyardlaw01.CharsBlanks': WHATEVER THE INPUT: true; the input reads as it did. -/
def charsBlanksSpec : ChangeSpec := { name := "charsBlanks", fn := fun _ => fun
  | [d] => { results := [.lit (.bool true)], args := [d] }
  | _ => none }
def charsBlanksRow : OpenClaim := { program := "ytmhbdckgejcdhaadoor", sum := "d8b43e1905b62d00001f48c91f7f50cb9ba776d569f14cce48663a56399f80d4", func := "lanyard/lanyardlaw01.CharsBlanks", spec := "charsBlanks", inPlace := ["internal/abi.NoEscape", "internal/bytealg.MakeNoZero"], unfollowed := true, recurses := true, named := ["lanyard/chars.letters", "lanyard/chars.followers"], apart := false, laid := [("lanyard/chars.letters", laid_lanyard_chars_letters), ("lanyard/chars.followers", laid_lanyard_chars_followers)] }
def CharsBlanksSaid : Prop := charsBlanksRow.holds Tryd.pinned (OpenSpec.ofChange charsBlanksSpec)

/-- ITS FALSE NEIGHBOUR: 'it returns false'. Refute it at one input. -/
def charsBlanksWrong : ChangeSpec := { name := "charsBlanks", fn := fun _ => fun
  | [d] => { results := [.lit (.bool false)], args := [d] }
  | _ => none }
def CharsBlanksWrongFalsely : Prop := charsBlanksRow.holds Tryd.pinned (OpenSpec.ofChange charsBlanksWrong)

/-- 'lanyardlaw01.CharsAgain': WHATEVER THE INPUT: true; the input reads as it did. -/
def charsAgainSpec : ChangeSpec := { name := "charsAgain", fn := fun _ => fun
  | [d1, d2] => { results := [.lit (.bool true)], args := [d1, d2] }
  | _ => none }
def charsAgainRow : OpenClaim := { program := "ytmhbdckgejcdhaadoor", sum := "d8b43e1905b62d00001f48c91f7f50cb9ba776d569f14cce48663a56399f80d4", func := "lanyard/lanyardlaw01.CharsAgain", spec := "charsAgain", inPlace := ["internal/abi.NoEscape", "internal/bytealg.MakeNoZero"], unfollowed := true, recurses := true, named := ["lanyard/chars.letters", "lanyard/chars.followers"], apart := false, laid := [("lanyard/chars.letters", laid_lanyard_chars_letters), ("lanyard/chars.followers", laid_lanyard_chars_followers)] }
def CharsAgainSaid : Prop := charsAgainRow.holds Tryd.pinned (OpenSpec.ofChange charsAgainSpec)

/-- ITS FALSE NEIGHBOUR: 'it returns false'. Refute it at one input. -/
def charsAgainWrong : ChangeSpec := { name := "charsAgain", fn := fun _ => fun
  | [d1, d2] => { results := [.lit (.bool false)], args := [d1, d2] }
  | _ => none }
def CharsAgainWrongFalsely : Prop := charsAgainRow.holds Tryd.pinned (OpenSpec.ofChange charsAgainWrong)

/-- 'lanyardlaw01.CharsJoins': WHATEVER THE INPUT: true; the input reads as it did. -/
def charsJoinsSpec : ChangeSpec := { name := "charsJoins", fn := fun _ => fun
  | [d1, d2, d3] => { results := [.lit (.bool true)], args := [d1, d2, d3] }
  | _ => none }
def charsJoinsRow : OpenClaim := { program := "ytmhbdckgejcdhaadoor", sum := "d8b43e1905b62d00001f48c91f7f50cb9ba776d569f14cce48663a56399f80d4", func := "lanyard/lanyardlaw01.CharsJoins", spec := "charsJoins", inPlace := ["internal/abi.NoEscape", "internal/bytealg.MakeNoZero"], unfollowed := true, recurses := true, named := ["lanyard/chars.letters", "lanyard/chars.followers"], apart := false, laid := [("lanyard/chars.letters", laid_lanyard_chars_letters), ("lanyard/chars.followers", laid_lanyard_chars_followers)] }
def CharsJoinsSaid : Prop := charsJoinsRow.holds Tryd.pinned (OpenSpec.ofChange charsJoinsSpec)

/-- ITS FALSE NEIGHBOUR: 'it returns false'. Refute it at one input. -/
def charsJoinsWrong : ChangeSpec := { name := "charsJoins", fn := fun _ => fun
  | [d1, d2, d3] => { results := [.lit (.bool false)], args := [d1, d2, d3] }
  | _ => none }
def CharsJoinsWrongFalsely : Prop := charsJoinsRow.holds Tryd.pinned (OpenSpec.ofChange charsJoinsWrong)

/- THE SECOND FORM. 'bulk': how many values and letters a reading holds, each counted each time it is reached (what is shared counts as often as it is met; a slice's spare places count too). A statement '..UptoSaid' is the law's where the arguments, and the package variables that the reading takes, are together of bulk at most 1048576: NARROWER than '..Said'. Prove '..Said' where nothing that the law and all that it calls make is longer than what came in: it says more and counts as full. Else prove '..UptoSaid'. A law counts once. -/
mutual
def uptoBulk {H : Type} : DataW H → Nat
  | .lit (.string bytes) => bytes.length + 1
  | .lit _ => 1
  | .nil => 1
  | .ptr d => uptoBulk d + 1
  | .slice elems spare => uptoBulkAll elems + uptoBulkAll spare + 1
  | .agg parts => uptoBulkAll parts + 1
  | .iface _ d => uptoBulk d + 1
  | .map entries => uptoBulkEntries entries + 1
  | .held _ => 1
def uptoBulkAll {H : Type} : List (DataW H) → Nat
  | [] => 0
  | d :: r => uptoBulk d + uptoBulkAll r
def uptoBulkEntries {H : Type} : List (Lit × DataW H) → Nat
  | [] => 0
  | x :: r => uptoBulkEntry x + uptoBulkEntries r
def uptoBulkEntry {H : Type} : Lit × DataW H → Nat
  | (.string bytes, d) => bytes.length + uptoBulk d + 1
  | (_, d) => uptoBulk d + 1
 end
def uptoSmall : (H : Type) → List (DataW H) → Bool := fun _ ds => decide (uptoBulkAll ds ≤ 1048576)
def OpenSpec.upto (s : _root_.Go.ChangeSpec) : _root_.Go.OpenSpec := { _root_.Go.OpenSpec.ofChange s with cond := some uptoSmall }

/-- 'lanyardlaw01.CharsBad', WHERE WHAT IT READS IS OF BULK AT MOST 1048576: true; the input reads as it did. -/
def charsBadUptoRow : OpenClaim := { program := "ytmhbdckgejcdhaadoor", sum := "d8b43e1905b62d00001f48c91f7f50cb9ba776d569f14cce48663a56399f80d4", func := "lanyard/lanyardlaw01.CharsBad", spec := "charsBad", inPlace := ["internal/abi.NoEscape", "internal/bytealg.MakeNoZero"], unfollowed := true, recurses := true, named := ["lanyard/chars.letters", "lanyard/chars.followers"], apart := false, laid := [("lanyard/chars.letters", laid_lanyard_chars_letters), ("lanyard/chars.followers", laid_lanyard_chars_followers)], narrowed := true }
def CharsBadUptoSaid : Prop := charsBadUptoRow.holds Tryd.pinned (OpenSpec.upto charsBadSpec)

/-- 'lanyardlaw01.CharsNames', WHERE WHAT IT READS IS OF BULK AT MOST 1048576: true; the input reads as it did. -/
def charsNamesUptoRow : OpenClaim := { program := "ytmhbdckgejcdhaadoor", sum := "d8b43e1905b62d00001f48c91f7f50cb9ba776d569f14cce48663a56399f80d4", func := "lanyard/lanyardlaw01.CharsNames", spec := "charsNames", inPlace := ["internal/abi.NoEscape", "internal/bytealg.MakeNoZero"], unfollowed := true, recurses := true, named := ["lanyard/chars.letters", "lanyard/chars.followers"], apart := false, laid := [("lanyard/chars.letters", laid_lanyard_chars_letters), ("lanyard/chars.followers", laid_lanyard_chars_followers)], narrowed := true }
def CharsNamesUptoSaid : Prop := charsNamesUptoRow.holds Tryd.pinned (OpenSpec.upto charsNamesSpec)

/-- 'lanyardlaw01.CharsBlanks', WHERE WHAT IT READS IS OF BULK AT MOST 1048576: true; the input reads as it did. -/
def charsBlanksUptoRow : OpenClaim := { program := "ytmhbdckgejcdhaadoor", sum := "d8b43e1905b62d00001f48c91f7f50cb9ba776d569f14cce48663a56399f80d4", func := "lanyard/lanyardlaw01.CharsBlanks", spec := "charsBlanks", inPlace := ["internal/abi.NoEscape", "internal/bytealg.MakeNoZero"], unfollowed := true, recurses := true, named := ["lanyard/chars.letters", "lanyard/chars.followers"], apart := false, laid := [("lanyard/chars.letters", laid_lanyard_chars_letters), ("lanyard/chars.followers", laid_lanyard_chars_followers)], narrowed := true }
def CharsBlanksUptoSaid : Prop := charsBlanksUptoRow.holds Tryd.pinned (OpenSpec.upto charsBlanksSpec)

/-- 'lanyardlaw01.CharsAgain', WHERE WHAT IT READS IS OF BULK AT MOST 1048576: true; the input reads as it did. -/
def charsAgainUptoRow : OpenClaim := { program := "ytmhbdckgejcdhaadoor", sum := "d8b43e1905b62d00001f48c91f7f50cb9ba776d569f14cce48663a56399f80d4", func := "lanyard/lanyardlaw01.CharsAgain", spec := "charsAgain", inPlace := ["internal/abi.NoEscape", "internal/bytealg.MakeNoZero"], unfollowed := true, recurses := true, named := ["lanyard/chars.letters", "lanyard/chars.followers"], apart := false, laid := [("lanyard/chars.letters", laid_lanyard_chars_letters), ("lanyard/chars.followers", laid_lanyard_chars_followers)], narrowed := true }
def CharsAgainUptoSaid : Prop := charsAgainUptoRow.holds Tryd.pinned (OpenSpec.upto charsAgainSpec)

/-- 'lanyardlaw01.CharsJoins', WHERE WHAT IT READS IS OF BULK AT MOST 1048576: true; the input reads as it did. -/
def charsJoinsUptoRow : OpenClaim := { program := "ytmhbdckgejcdhaadoor", sum := "d8b43e1905b62d00001f48c91f7f50cb9ba776d569f14cce48663a56399f80d4", func := "lanyard/lanyardlaw01.CharsJoins", spec := "charsJoins", inPlace := ["internal/abi.NoEscape", "internal/bytealg.MakeNoZero"], unfollowed := true, recurses := true, named := ["lanyard/chars.letters", "lanyard/chars.followers"], apart := false, laid := [("lanyard/chars.letters", laid_lanyard_chars_letters), ("lanyard/chars.followers", laid_lanyard_chars_followers)], narrowed := true }
def CharsJoinsUptoSaid : Prop := charsJoinsUptoRow.holds Tryd.pinned (OpenSpec.upto charsJoinsSpec)

end Rows
end Go.Proofs.YtmhbdckgejcdhaaDoor
