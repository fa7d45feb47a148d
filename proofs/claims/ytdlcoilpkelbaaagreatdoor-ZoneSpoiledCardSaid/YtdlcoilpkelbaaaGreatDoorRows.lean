/-
  NARROWER THAN 'FOR EVERY INPUT', by the rows' own cells (each row's printed sentence says how): ZoneBuilds: laid · ZoneParses: laid · ZoneMade: laid · ZoneReturns: laid · ZoneSpoiled: laid · ZoneNotices: laid · ZoneKeys: laid.
  DERIVED. THE GIVEN ROWS OF THIS SEAT. 7 by the template 'for every input the law returns true; each argument reads behind the call as it read before'; 0 by the template 'total and deterministic' (their statements: YtdlcoilpkelbaaaGreatDoorTotals.lean).
  GIVEN WITH THE SEED: the statements are not yours to turn. If you find one false, say at which input.
  Laid BY PROGRAM, IN A SANDBOX (cutbox-rows.mjs): the forced cells as the released guide's own fill.sh prints them over the translation 19f859025c809dec… (all of the seat's roots in one cut). By AI agents, Wed Nov 11 2026. No macro, syntax, notation, axiom, sorry.
-/
import Derived.Test.YtdlcoilpkelbaaaGreatDoorChecked
import GoSem.PinnedTables
import GoSem.Claim
import GoSem.ClaimJoined
import GoSem.ClaimMapViews
import Derived.JoinedTies
import Derived.KernelRfl
namespace Go.Proofs.YtdlcoilpkelbaaaGreatDoor
/- THE CELL 'sum', in the pinned program and in every row, IS THE sha256 OF THE DUMP (.gsa) THAT YtdlcoilpkelbaaaGreatDoorProg.lean LOADS. Nothing in Lean hashes anything: it is a label: what it is worth is what the hold of that sum in a sandbox is worth. -/
noncomputable def Tryz.pinned : Pinned := { name := "ytdlcoilpkelbaaagreatdoor", sum := "19f859025c809dec1542002f0531e90bcf5667b1c2f164a8aed1265f7891802e", checked := Tryz.checked }
namespace Rows
def none {H : Type} : Left H := { results := [], args := [] }

/- WHAT THE LISTED PACKAGE-LEVEL VARIABLES READ AS WHEN THE CALL BEGINS. Each datum BY PROGRAM (the guide's laid-datum.mjs) off the statement by which the dump's own 'gosem.cut.vars' lays the variable. In a bare row this is a premise. The card (YtdlcoilpkelbaaaGreatDoorCards.lean) ties it to the program's text. -/
def laid_math_bits_deBruijn32tab {H : Type} : DataW H := .agg [.lit (.int .u8 0), .lit (.int .u8 1), .lit (.int .u8 28), .lit (.int .u8 2), .lit (.int .u8 29), .lit (.int .u8 14), .lit (.int .u8 24), .lit (.int .u8 3), .lit (.int .u8 30), .lit (.int .u8 22), .lit (.int .u8 20), .lit (.int .u8 15), .lit (.int .u8 25), .lit (.int .u8 17), .lit (.int .u8 4), .lit (.int .u8 8), .lit (.int .u8 31), .lit (.int .u8 27), .lit (.int .u8 13), .lit (.int .u8 23), .lit (.int .u8 21), .lit (.int .u8 19), .lit (.int .u8 16), .lit (.int .u8 7), .lit (.int .u8 26), .lit (.int .u8 12), .lit (.int .u8 18), .lit (.int .u8 6), .lit (.int .u8 11), .lit (.int .u8 5), .lit (.int .u8 10), .lit (.int .u8 9)]
def laid_math_bits_deBruijn64tab {H : Type} : DataW H := .agg [.lit (.int .u8 0), .lit (.int .u8 1), .lit (.int .u8 56), .lit (.int .u8 2), .lit (.int .u8 57), .lit (.int .u8 49), .lit (.int .u8 28), .lit (.int .u8 3), .lit (.int .u8 61), .lit (.int .u8 58), .lit (.int .u8 42), .lit (.int .u8 50), .lit (.int .u8 38), .lit (.int .u8 29), .lit (.int .u8 17), .lit (.int .u8 4), .lit (.int .u8 62), .lit (.int .u8 47), .lit (.int .u8 59), .lit (.int .u8 36), .lit (.int .u8 45), .lit (.int .u8 43), .lit (.int .u8 51), .lit (.int .u8 22), .lit (.int .u8 53), .lit (.int .u8 39), .lit (.int .u8 33), .lit (.int .u8 30), .lit (.int .u8 24), .lit (.int .u8 18), .lit (.int .u8 12), .lit (.int .u8 5), .lit (.int .u8 63), .lit (.int .u8 55), .lit (.int .u8 48), .lit (.int .u8 27), .lit (.int .u8 60), .lit (.int .u8 41), .lit (.int .u8 37), .lit (.int .u8 16), .lit (.int .u8 46), .lit (.int .u8 35), .lit (.int .u8 44), .lit (.int .u8 21), .lit (.int .u8 52), .lit (.int .u8 32), .lit (.int .u8 23), .lit (.int .u8 11), .lit (.int .u8 54), .lit (.int .u8 26), .lit (.int .u8 40), .lit (.int .u8 15), .lit (.int .u8 34), .lit (.int .u8 20), .lit (.int .u8 31), .lit (.int .u8 10), .lit (.int .u8 25), .lit (.int .u8 14), .lit (.int .u8 19), .lit (.int .u8 9), .lit (.int .u8 13), .lit (.int .u8 8), .lit (.int .u8 7), .lit (.int .u8 6)]
def laid_internal_strconv_uint64pow10 {H : Type} : DataW H := .agg [.lit (.int .u64 1), .lit (.int .u64 10), .lit (.int .u64 100), .lit (.int .u64 1000), .lit (.int .u64 10000), .lit (.int .u64 100000), .lit (.int .u64 1000000), .lit (.int .u64 10000000), .lit (.int .u64 100000000), .lit (.int .u64 1000000000), .lit (.int .u64 10000000000), .lit (.int .u64 100000000000), .lit (.int .u64 1000000000000), .lit (.int .u64 10000000000000), .lit (.int .u64 100000000000000), .lit (.int .u64 1000000000000000), .lit (.int .u64 10000000000000000), .lit (.int .u64 100000000000000000), .lit (.int .u64 1000000000000000000), .lit (.int .u64 10000000000000000000)]
def laid_traveldoc_dates_monthLengths {H : Type} : DataW H := .agg [.lit (.int .i64 31), .lit (.int .i64 28), .lit (.int .i64 31), .lit (.int .i64 30), .lit (.int .i64 31), .lit (.int .i64 30), .lit (.int .i64 31), .lit (.int .i64 31), .lit (.int .i64 30), .lit (.int .i64 31), .lit (.int .i64 30), .lit (.int .i64 31)]
def laid_unicode_utf8_acceptRanges {H : Type} : DataW H := .agg [.agg [.lit (.int .u8 128), .lit (.int .u8 191)], .agg [.lit (.int .u8 160), .lit (.int .u8 191)], .agg [.lit (.int .u8 128), .lit (.int .u8 159)], .agg [.lit (.int .u8 144), .lit (.int .u8 191)], .agg [.lit (.int .u8 128), .lit (.int .u8 143)], .agg [.lit (.int .u8 0), .lit (.int .u8 0)], .agg [.lit (.int .u8 0), .lit (.int .u8 0)], .agg [.lit (.int .u8 0), .lit (.int .u8 0)], .agg [.lit (.int .u8 0), .lit (.int .u8 0)], .agg [.lit (.int .u8 0), .lit (.int .u8 0)], .agg [.lit (.int .u8 0), .lit (.int .u8 0)], .agg [.lit (.int .u8 0), .lit (.int .u8 0)], .agg [.lit (.int .u8 0), .lit (.int .u8 0)], .agg [.lit (.int .u8 0), .lit (.int .u8 0)], .agg [.lit (.int .u8 0), .lit (.int .u8 0)], .agg [.lit (.int .u8 0), .lit (.int .u8 0)]]
def laid_traveldoc_optical_weights {H : Type} : DataW H := .agg [.lit (.int .i64 7), .lit (.int .i64 3), .lit (.int .i64 1)]
def laid_traveldoc_zone_birthRanges {H : Type} : DataW H := .agg [.agg [.lit (.int .i64 0), .lit (.int .i64 99)], .agg [.lit (.int .i64 1), .lit (.int .i64 12)], .agg [.lit (.int .i64 1), .lit (.int .i64 31)]]
/-- One of Go's own tables, pinned by name: the form's constant. -/
def laid_unicode_utf8_first : DataW Unit := Go.Pinned.utf8First

/-- 'traveldoclaw11.ZoneBuilds': WHATEVER THE INPUT: true; the input reads as it did. -/
def zoneBuildsSpec : ChangeSpec := { name := "zoneBuilds", fn := fun _ => fun
  | [d] => { results := [.lit (.bool true)], args := [d] }
  | _ => none }
def zoneBuildsRow : OpenClaim := { program := "ytdlcoilpkelbaaagreatdoor", sum := "19f859025c809dec1542002f0531e90bcf5667b1c2f164a8aed1265f7891802e", func := "traveldoc/traveldoclaw11.ZoneBuilds", spec := "zoneBuilds", inPlace := ["internal/bytealg.IndexByteString", "internal/bytealg.IndexString", "internal/abi.NoEscape", "internal/bytealg.MakeNoZero"], unfollowed := true, recurses := true, named := ["internal/bytealg.MaxLen", "traveldoc/zone.birthRanges", "traveldoc/dates.monthLengths", "traveldoc/optical.weights", "internal/strconv.uint64pow10", "math/bits.deBruijn32tab", "math/bits.deBruijn64tab", "unicode/utf8.first", "unicode/utf8.acceptRanges"], apart := false, laid := [("math/bits.deBruijn32tab", laid_math_bits_deBruijn32tab), ("math/bits.deBruijn64tab", laid_math_bits_deBruijn64tab), ("internal/strconv.uint64pow10", laid_internal_strconv_uint64pow10), ("traveldoc/dates.monthLengths", laid_traveldoc_dates_monthLengths), ("unicode/utf8.acceptRanges", laid_unicode_utf8_acceptRanges), ("traveldoc/optical.weights", laid_traveldoc_optical_weights), ("traveldoc/zone.birthRanges", laid_traveldoc_zone_birthRanges), ("unicode/utf8.first", laid_unicode_utf8_first)] }
def ZoneBuildsSaid : Prop := zoneBuildsRow.holds Tryz.pinned (OpenSpec.ofChange zoneBuildsSpec)

/-- ITS FALSE NEIGHBOUR: 'it returns false'. Refute it at one input. -/
def zoneBuildsWrong : ChangeSpec := { name := "zoneBuilds", fn := fun _ => fun
  | [d] => { results := [.lit (.bool false)], args := [d] }
  | _ => none }
def ZoneBuildsWrongFalsely : Prop := zoneBuildsRow.holds Tryz.pinned (OpenSpec.ofChange zoneBuildsWrong)

/-- 'traveldoclaw11.ZoneParses': WHATEVER THE INPUT: true; the input reads as it did. -/
def zoneParsesSpec : ChangeSpec := { name := "zoneParses", fn := fun _ => fun
  | [d] => { results := [.lit (.bool true)], args := [d] }
  | _ => none }
def zoneParsesRow : OpenClaim := { program := "ytdlcoilpkelbaaagreatdoor", sum := "19f859025c809dec1542002f0531e90bcf5667b1c2f164a8aed1265f7891802e", func := "traveldoc/traveldoclaw11.ZoneParses", spec := "zoneParses", inPlace := ["internal/bytealg.IndexByteString", "internal/bytealg.IndexString", "internal/abi.NoEscape", "internal/bytealg.MakeNoZero"], unfollowed := true, recurses := true, named := ["traveldoc/optical.weights", "internal/strconv.uint64pow10", "math/bits.deBruijn32tab", "math/bits.deBruijn64tab", "unicode/utf8.first", "unicode/utf8.acceptRanges", "internal/bytealg.MaxLen", "traveldoc/zone.birthRanges", "traveldoc/dates.monthLengths"], apart := false, laid := [("math/bits.deBruijn32tab", laid_math_bits_deBruijn32tab), ("math/bits.deBruijn64tab", laid_math_bits_deBruijn64tab), ("internal/strconv.uint64pow10", laid_internal_strconv_uint64pow10), ("traveldoc/dates.monthLengths", laid_traveldoc_dates_monthLengths), ("unicode/utf8.acceptRanges", laid_unicode_utf8_acceptRanges), ("traveldoc/optical.weights", laid_traveldoc_optical_weights), ("traveldoc/zone.birthRanges", laid_traveldoc_zone_birthRanges), ("unicode/utf8.first", laid_unicode_utf8_first)] }
def ZoneParsesSaid : Prop := zoneParsesRow.holds Tryz.pinned (OpenSpec.ofChange zoneParsesSpec)

/-- ITS FALSE NEIGHBOUR: 'it returns false'. Refute it at one input. -/
def zoneParsesWrong : ChangeSpec := { name := "zoneParses", fn := fun _ => fun
  | [d] => { results := [.lit (.bool false)], args := [d] }
  | _ => none }
def ZoneParsesWrongFalsely : Prop := zoneParsesRow.holds Tryz.pinned (OpenSpec.ofChange zoneParsesWrong)

/-- 'traveldoclaw11.ZoneMade': WHATEVER THE INPUT: true; the input reads as it did. -/
def zoneMadeSpec : ChangeSpec := { name := "zoneMade", fn := fun _ => fun
  | [d] => { results := [.lit (.bool true)], args := [d] }
  | _ => none }
def zoneMadeRow : OpenClaim := { program := "ytdlcoilpkelbaaagreatdoor", sum := "19f859025c809dec1542002f0531e90bcf5667b1c2f164a8aed1265f7891802e", func := "traveldoc/traveldoclaw11.ZoneMade", spec := "zoneMade", inPlace := ["internal/bytealg.IndexByteString", "internal/bytealg.IndexString", "internal/abi.NoEscape", "internal/bytealg.MakeNoZero"], unfollowed := true, recurses := true, named := ["internal/bytealg.MaxLen", "traveldoc/zone.birthRanges", "traveldoc/dates.monthLengths", "traveldoc/optical.weights", "internal/strconv.uint64pow10", "math/bits.deBruijn32tab", "math/bits.deBruijn64tab", "unicode/utf8.first", "unicode/utf8.acceptRanges"], apart := false, laid := [("math/bits.deBruijn32tab", laid_math_bits_deBruijn32tab), ("math/bits.deBruijn64tab", laid_math_bits_deBruijn64tab), ("internal/strconv.uint64pow10", laid_internal_strconv_uint64pow10), ("traveldoc/dates.monthLengths", laid_traveldoc_dates_monthLengths), ("unicode/utf8.acceptRanges", laid_unicode_utf8_acceptRanges), ("traveldoc/optical.weights", laid_traveldoc_optical_weights), ("traveldoc/zone.birthRanges", laid_traveldoc_zone_birthRanges), ("unicode/utf8.first", laid_unicode_utf8_first)] }
def ZoneMadeSaid : Prop := zoneMadeRow.holds Tryz.pinned (OpenSpec.ofChange zoneMadeSpec)

/-- ITS FALSE NEIGHBOUR: 'it returns false'. Refute it at one input. -/
def zoneMadeWrong : ChangeSpec := { name := "zoneMade", fn := fun _ => fun
  | [d] => { results := [.lit (.bool false)], args := [d] }
  | _ => none }
def ZoneMadeWrongFalsely : Prop := zoneMadeRow.holds Tryz.pinned (OpenSpec.ofChange zoneMadeWrong)

/-- 'traveldoclaw11.ZoneReturns': WHATEVER THE INPUT: true; the input reads as it did. -/
def zoneReturnsSpec : ChangeSpec := { name := "zoneReturns", fn := fun _ => fun
  | [d] => { results := [.lit (.bool true)], args := [d] }
  | _ => none }
def zoneReturnsRow : OpenClaim := { program := "ytdlcoilpkelbaaagreatdoor", sum := "19f859025c809dec1542002f0531e90bcf5667b1c2f164a8aed1265f7891802e", func := "traveldoc/traveldoclaw11.ZoneReturns", spec := "zoneReturns", inPlace := ["internal/bytealg.IndexByteString", "internal/bytealg.IndexString", "internal/abi.NoEscape", "internal/bytealg.MakeNoZero"], unfollowed := true, recurses := true, named := ["internal/bytealg.MaxLen", "traveldoc/zone.birthRanges", "traveldoc/dates.monthLengths", "traveldoc/optical.weights", "internal/strconv.uint64pow10", "math/bits.deBruijn32tab", "math/bits.deBruijn64tab", "unicode/utf8.first", "unicode/utf8.acceptRanges"], apart := false, laid := [("math/bits.deBruijn32tab", laid_math_bits_deBruijn32tab), ("math/bits.deBruijn64tab", laid_math_bits_deBruijn64tab), ("internal/strconv.uint64pow10", laid_internal_strconv_uint64pow10), ("traveldoc/dates.monthLengths", laid_traveldoc_dates_monthLengths), ("unicode/utf8.acceptRanges", laid_unicode_utf8_acceptRanges), ("traveldoc/optical.weights", laid_traveldoc_optical_weights), ("traveldoc/zone.birthRanges", laid_traveldoc_zone_birthRanges), ("unicode/utf8.first", laid_unicode_utf8_first)] }
def ZoneReturnsSaid : Prop := zoneReturnsRow.holds Tryz.pinned (OpenSpec.ofChange zoneReturnsSpec)

/-- ITS FALSE NEIGHBOUR: 'it returns false'. Refute it at one input. -/
def zoneReturnsWrong : ChangeSpec := { name := "zoneReturns", fn := fun _ => fun
  | [d] => { results := [.lit (.bool false)], args := [d] }
  | _ => none }
def ZoneReturnsWrongFalsely : Prop := zoneReturnsRow.holds Tryz.pinned (OpenSpec.ofChange zoneReturnsWrong)

/-- 'traveldoclaw11.ZoneSpoiled': WHATEVER THE INPUT: true; the input reads as it did. -/
def zoneSpoiledSpec : ChangeSpec := { name := "zoneSpoiled", fn := fun _ => fun
  | [d1, d2, d3] => { results := [.lit (.bool true)], args := [d1, d2, d3] }
  | _ => none }
def zoneSpoiledRow : OpenClaim := { program := "ytdlcoilpkelbaaagreatdoor", sum := "19f859025c809dec1542002f0531e90bcf5667b1c2f164a8aed1265f7891802e", func := "traveldoc/traveldoclaw11.ZoneSpoiled", spec := "zoneSpoiled", inPlace := ["internal/bytealg.IndexByteString", "internal/bytealg.IndexString", "internal/abi.NoEscape", "internal/bytealg.MakeNoZero"], unfollowed := true, recurses := true, named := ["internal/bytealg.MaxLen", "traveldoc/zone.birthRanges", "traveldoc/dates.monthLengths", "traveldoc/optical.weights", "internal/strconv.uint64pow10", "math/bits.deBruijn32tab", "math/bits.deBruijn64tab", "unicode/utf8.first", "unicode/utf8.acceptRanges"], apart := false, laid := [("math/bits.deBruijn32tab", laid_math_bits_deBruijn32tab), ("math/bits.deBruijn64tab", laid_math_bits_deBruijn64tab), ("internal/strconv.uint64pow10", laid_internal_strconv_uint64pow10), ("traveldoc/dates.monthLengths", laid_traveldoc_dates_monthLengths), ("unicode/utf8.acceptRanges", laid_unicode_utf8_acceptRanges), ("traveldoc/optical.weights", laid_traveldoc_optical_weights), ("traveldoc/zone.birthRanges", laid_traveldoc_zone_birthRanges), ("unicode/utf8.first", laid_unicode_utf8_first)] }
def ZoneSpoiledSaid : Prop := zoneSpoiledRow.holds Tryz.pinned (OpenSpec.ofChange zoneSpoiledSpec)

/-- ITS FALSE NEIGHBOUR: 'it returns false'. Refute it at one input. -/
def zoneSpoiledWrong : ChangeSpec := { name := "zoneSpoiled", fn := fun _ => fun
  | [d1, d2, d3] => { results := [.lit (.bool false)], args := [d1, d2, d3] }
  | _ => none }
def ZoneSpoiledWrongFalsely : Prop := zoneSpoiledRow.holds Tryz.pinned (OpenSpec.ofChange zoneSpoiledWrong)

/-- 'traveldoclaw11.ZoneNotices': WHATEVER THE INPUT: true; the input reads as it did. -/
def zoneNoticesSpec : ChangeSpec := { name := "zoneNotices", fn := fun _ => fun
  | [d1, d2, d3] => { results := [.lit (.bool true)], args := [d1, d2, d3] }
  | _ => none }
def zoneNoticesRow : OpenClaim := { program := "ytdlcoilpkelbaaagreatdoor", sum := "19f859025c809dec1542002f0531e90bcf5667b1c2f164a8aed1265f7891802e", func := "traveldoc/traveldoclaw11.ZoneNotices", spec := "zoneNotices", inPlace := ["internal/bytealg.IndexByteString", "internal/bytealg.IndexString", "internal/abi.NoEscape", "internal/bytealg.MakeNoZero"], unfollowed := true, recurses := true, named := ["internal/bytealg.MaxLen", "traveldoc/zone.birthRanges", "traveldoc/dates.monthLengths", "traveldoc/optical.weights", "internal/strconv.uint64pow10", "math/bits.deBruijn32tab", "math/bits.deBruijn64tab", "unicode/utf8.first", "unicode/utf8.acceptRanges"], apart := false, laid := [("math/bits.deBruijn32tab", laid_math_bits_deBruijn32tab), ("math/bits.deBruijn64tab", laid_math_bits_deBruijn64tab), ("internal/strconv.uint64pow10", laid_internal_strconv_uint64pow10), ("traveldoc/dates.monthLengths", laid_traveldoc_dates_monthLengths), ("unicode/utf8.acceptRanges", laid_unicode_utf8_acceptRanges), ("traveldoc/optical.weights", laid_traveldoc_optical_weights), ("traveldoc/zone.birthRanges", laid_traveldoc_zone_birthRanges), ("unicode/utf8.first", laid_unicode_utf8_first)] }
def ZoneNoticesSaid : Prop := zoneNoticesRow.holds Tryz.pinned (OpenSpec.ofChange zoneNoticesSpec)

/-- ITS FALSE NEIGHBOUR: 'it returns false'. Refute it at one input. -/
def zoneNoticesWrong : ChangeSpec := { name := "zoneNotices", fn := fun _ => fun
  | [d1, d2, d3] => { results := [.lit (.bool false)], args := [d1, d2, d3] }
  | _ => none }
def ZoneNoticesWrongFalsely : Prop := zoneNoticesRow.holds Tryz.pinned (OpenSpec.ofChange zoneNoticesWrong)

/-- 'traveldoclaw11.ZoneKeys': WHATEVER THE INPUT: true; the input reads as it did. -/
def zoneKeysSpec : ChangeSpec := { name := "zoneKeys", fn := fun _ => fun
  | [d] => { results := [.lit (.bool true)], args := [d] }
  | _ => none }
def zoneKeysRow : OpenClaim := { program := "ytdlcoilpkelbaaagreatdoor", sum := "19f859025c809dec1542002f0531e90bcf5667b1c2f164a8aed1265f7891802e", func := "traveldoc/traveldoclaw11.ZoneKeys", spec := "zoneKeys", inPlace := ["internal/bytealg.IndexByteString", "internal/bytealg.IndexString", "internal/abi.NoEscape", "internal/bytealg.MakeNoZero"], unfollowed := true, recurses := true, named := ["internal/bytealg.MaxLen", "traveldoc/zone.birthRanges", "traveldoc/dates.monthLengths", "traveldoc/optical.weights", "internal/strconv.uint64pow10", "math/bits.deBruijn32tab", "math/bits.deBruijn64tab", "unicode/utf8.first", "unicode/utf8.acceptRanges"], apart := false, laid := [("math/bits.deBruijn32tab", laid_math_bits_deBruijn32tab), ("math/bits.deBruijn64tab", laid_math_bits_deBruijn64tab), ("internal/strconv.uint64pow10", laid_internal_strconv_uint64pow10), ("traveldoc/dates.monthLengths", laid_traveldoc_dates_monthLengths), ("unicode/utf8.acceptRanges", laid_unicode_utf8_acceptRanges), ("traveldoc/optical.weights", laid_traveldoc_optical_weights), ("traveldoc/zone.birthRanges", laid_traveldoc_zone_birthRanges), ("unicode/utf8.first", laid_unicode_utf8_first)] }
def ZoneKeysSaid : Prop := zoneKeysRow.holds Tryz.pinned (OpenSpec.ofChange zoneKeysSpec)

/-- ITS FALSE NEIGHBOUR: 'it returns false'. Refute it at one input. -/
def zoneKeysWrong : ChangeSpec := { name := "zoneKeys", fn := fun _ => fun
  | [d] => { results := [.lit (.bool false)], args := [d] }
  | _ => none }
def ZoneKeysWrongFalsely : Prop := zoneKeysRow.holds Tryz.pinned (OpenSpec.ofChange zoneKeysWrong)

/- THE SECOND FORM. 'bulk': how many values and letters a reading holds, each counted each time it is reached (what is shared counts as often as it is met; a slice's spare places count too). A statement '..UptoSaid' is the law's where the arguments, and the package variables that the reading takes, are together of bulk at most 1048576: NARROWER than '..Said'. Prove '..Said' where nothing that the law and all that it calls make is longer than what came in: it says more and counts as full. Else prove '..UptoSaid'. A law counts once. -/
mutual
def uptoBulk {H : Type} : DataW H → Nat
  | .lit (.string bytes) => bytes.length + 1
  | .lit _ => 1
  | .nil => 1
  | .ptr d => uptoBulk d + 1
  | .slice elems spare => uptoBulkAll elems + uptoBulkAll spare + 1
  | .agg parts => uptoBulkAll parts + 1
  | .iface _ d => uptoBulk d + 1
  | .map entries => uptoBulkEntries entries + 1
  | .held _ => 1
def uptoBulkAll {H : Type} : List (DataW H) → Nat
  | [] => 0
  | d :: r => uptoBulk d + uptoBulkAll r
def uptoBulkEntries {H : Type} : List (Lit × DataW H) → Nat
  | [] => 0
  | x :: r => uptoBulkEntry x + uptoBulkEntries r
def uptoBulkEntry {H : Type} : Lit × DataW H → Nat
  | (.string bytes, d) => bytes.length + uptoBulk d + 1
  | (_, d) => uptoBulk d + 1
 end
def uptoSmall : (H : Type) → List (DataW H) → Bool := fun _ ds => decide (uptoBulkAll ds ≤ 1048576)
def OpenSpec.upto (s : _root_.Go.ChangeSpec) : _root_.Go.OpenSpec := { _root_.Go.OpenSpec.ofChange s with cond := some uptoSmall }

/-- 'traveldoclaw11.ZoneBuilds', WHERE WHAT IT READS IS OF BULK AT MOST 1048576: true; the input reads as it did. -/
def zoneBuildsUptoRow : OpenClaim := { program := "ytdlcoilpkelbaaagreatdoor", sum := "19f859025c809dec1542002f0531e90bcf5667b1c2f164a8aed1265f7891802e", func := "traveldoc/traveldoclaw11.ZoneBuilds", spec := "zoneBuilds", inPlace := ["internal/bytealg.IndexByteString", "internal/bytealg.IndexString", "internal/abi.NoEscape", "internal/bytealg.MakeNoZero"], unfollowed := true, recurses := true, named := ["internal/bytealg.MaxLen", "traveldoc/zone.birthRanges", "traveldoc/dates.monthLengths", "traveldoc/optical.weights", "internal/strconv.uint64pow10", "math/bits.deBruijn32tab", "math/bits.deBruijn64tab", "unicode/utf8.first", "unicode/utf8.acceptRanges"], apart := false, laid := [("math/bits.deBruijn32tab", laid_math_bits_deBruijn32tab), ("math/bits.deBruijn64tab", laid_math_bits_deBruijn64tab), ("internal/strconv.uint64pow10", laid_internal_strconv_uint64pow10), ("traveldoc/dates.monthLengths", laid_traveldoc_dates_monthLengths), ("unicode/utf8.acceptRanges", laid_unicode_utf8_acceptRanges), ("traveldoc/optical.weights", laid_traveldoc_optical_weights), ("traveldoc/zone.birthRanges", laid_traveldoc_zone_birthRanges), ("unicode/utf8.first", laid_unicode_utf8_first)], narrowed := true }
def ZoneBuildsUptoSaid : Prop := zoneBuildsUptoRow.holds Tryz.pinned (OpenSpec.upto zoneBuildsSpec)

/-- 'traveldoclaw11.ZoneParses', WHERE WHAT IT READS IS OF BULK AT MOST 1048576: true; the input reads as it did. -/
def zoneParsesUptoRow : OpenClaim := { program := "ytdlcoilpkelbaaagreatdoor", sum := "19f859025c809dec1542002f0531e90bcf5667b1c2f164a8aed1265f7891802e", func := "traveldoc/traveldoclaw11.ZoneParses", spec := "zoneParses", inPlace := ["internal/bytealg.IndexByteString", "internal/bytealg.IndexString", "internal/abi.NoEscape", "internal/bytealg.MakeNoZero"], unfollowed := true, recurses := true, named := ["traveldoc/optical.weights", "internal/strconv.uint64pow10", "math/bits.deBruijn32tab", "math/bits.deBruijn64tab", "unicode/utf8.first", "unicode/utf8.acceptRanges", "internal/bytealg.MaxLen", "traveldoc/zone.birthRanges", "traveldoc/dates.monthLengths"], apart := false, laid := [("math/bits.deBruijn32tab", laid_math_bits_deBruijn32tab), ("math/bits.deBruijn64tab", laid_math_bits_deBruijn64tab), ("internal/strconv.uint64pow10", laid_internal_strconv_uint64pow10), ("traveldoc/dates.monthLengths", laid_traveldoc_dates_monthLengths), ("unicode/utf8.acceptRanges", laid_unicode_utf8_acceptRanges), ("traveldoc/optical.weights", laid_traveldoc_optical_weights), ("traveldoc/zone.birthRanges", laid_traveldoc_zone_birthRanges), ("unicode/utf8.first", laid_unicode_utf8_first)], narrowed := true }
def ZoneParsesUptoSaid : Prop := zoneParsesUptoRow.holds Tryz.pinned (OpenSpec.upto zoneParsesSpec)

/-- 'traveldoclaw11.ZoneMade', WHERE WHAT IT READS IS OF BULK AT MOST 1048576: true; the input reads as it did. -/
def zoneMadeUptoRow : OpenClaim := { program := "ytdlcoilpkelbaaagreatdoor", sum := "19f859025c809dec1542002f0531e90bcf5667b1c2f164a8aed1265f7891802e", func := "traveldoc/traveldoclaw11.ZoneMade", spec := "zoneMade", inPlace := ["internal/bytealg.IndexByteString", "internal/bytealg.IndexString", "internal/abi.NoEscape", "internal/bytealg.MakeNoZero"], unfollowed := true, recurses := true, named := ["internal/bytealg.MaxLen", "traveldoc/zone.birthRanges", "traveldoc/dates.monthLengths", "traveldoc/optical.weights", "internal/strconv.uint64pow10", "math/bits.deBruijn32tab", "math/bits.deBruijn64tab", "unicode/utf8.first", "unicode/utf8.acceptRanges"], apart := false, laid := [("math/bits.deBruijn32tab", laid_math_bits_deBruijn32tab), ("math/bits.deBruijn64tab", laid_math_bits_deBruijn64tab), ("internal/strconv.uint64pow10", laid_internal_strconv_uint64pow10), ("traveldoc/dates.monthLengths", laid_traveldoc_dates_monthLengths), ("unicode/utf8.acceptRanges", laid_unicode_utf8_acceptRanges), ("traveldoc/optical.weights", laid_traveldoc_optical_weights), ("traveldoc/zone.birthRanges", laid_traveldoc_zone_birthRanges), ("unicode/utf8.first", laid_unicode_utf8_first)], narrowed := true }
def ZoneMadeUptoSaid : Prop := zoneMadeUptoRow.holds Tryz.pinned (OpenSpec.upto zoneMadeSpec)

/-- 'traveldoclaw11.ZoneReturns', WHERE WHAT IT READS IS OF BULK AT MOST 1048576: true; the input reads as it did. -/
def zoneReturnsUptoRow : OpenClaim := { program := "ytdlcoilpkelbaaagreatdoor", sum := "19f859025c809dec1542002f0531e90bcf5667b1c2f164a8aed1265f7891802e", func := "traveldoc/traveldoclaw11.ZoneReturns", spec := "zoneReturns", inPlace := ["internal/bytealg.IndexByteString", "internal/bytealg.IndexString", "internal/abi.NoEscape", "internal/bytealg.MakeNoZero"], unfollowed := true, recurses := true, named := ["internal/bytealg.MaxLen", "traveldoc/zone.birthRanges", "traveldoc/dates.monthLengths", "traveldoc/optical.weights", "internal/strconv.uint64pow10", "math/bits.deBruijn32tab", "math/bits.deBruijn64tab", "unicode/utf8.first", "unicode/utf8.acceptRanges"], apart := false, laid := [("math/bits.deBruijn32tab", laid_math_bits_deBruijn32tab), ("math/bits.deBruijn64tab", laid_math_bits_deBruijn64tab), ("internal/strconv.uint64pow10", laid_internal_strconv_uint64pow10), ("traveldoc/dates.monthLengths", laid_traveldoc_dates_monthLengths), ("unicode/utf8.acceptRanges", laid_unicode_utf8_acceptRanges), ("traveldoc/optical.weights", laid_traveldoc_optical_weights), ("traveldoc/zone.birthRanges", laid_traveldoc_zone_birthRanges), ("unicode/utf8.first", laid_unicode_utf8_first)], narrowed := true }
def ZoneReturnsUptoSaid : Prop := zoneReturnsUptoRow.holds Tryz.pinned (OpenSpec.upto zoneReturnsSpec)

/-- 'traveldoclaw11.ZoneSpoiled', WHERE WHAT IT READS IS OF BULK AT MOST 1048576: true; the input reads as it did. -/
def zoneSpoiledUptoRow : OpenClaim := { program := "ytdlcoilpkelbaaagreatdoor", sum := "19f859025c809dec1542002f0531e90bcf5667b1c2f164a8aed1265f7891802e", func := "traveldoc/traveldoclaw11.ZoneSpoiled", spec := "zoneSpoiled", inPlace := ["internal/bytealg.IndexByteString", "internal/bytealg.IndexString", "internal/abi.NoEscape", "internal/bytealg.MakeNoZero"], unfollowed := true, recurses := true, named := ["internal/bytealg.MaxLen", "traveldoc/zone.birthRanges", "traveldoc/dates.monthLengths", "traveldoc/optical.weights", "internal/strconv.uint64pow10", "math/bits.deBruijn32tab", "math/bits.deBruijn64tab", "unicode/utf8.first", "unicode/utf8.acceptRanges"], apart := false, laid := [("math/bits.deBruijn32tab", laid_math_bits_deBruijn32tab), ("math/bits.deBruijn64tab", laid_math_bits_deBruijn64tab), ("internal/strconv.uint64pow10", laid_internal_strconv_uint64pow10), ("traveldoc/dates.monthLengths", laid_traveldoc_dates_monthLengths), ("unicode/utf8.acceptRanges", laid_unicode_utf8_acceptRanges), ("traveldoc/optical.weights", laid_traveldoc_optical_weights), ("traveldoc/zone.birthRanges", laid_traveldoc_zone_birthRanges), ("unicode/utf8.first", laid_unicode_utf8_first)], narrowed := true }
def ZoneSpoiledUptoSaid : Prop := zoneSpoiledUptoRow.holds Tryz.pinned (OpenSpec.upto zoneSpoiledSpec)

/-- 'traveldoclaw11.ZoneNotices', WHERE WHAT IT READS IS OF BULK AT MOST 1048576: true; the input reads as it did. -/
def zoneNoticesUptoRow : OpenClaim := { program := "ytdlcoilpkelbaaagreatdoor", sum := "19f859025c809dec1542002f0531e90bcf5667b1c2f164a8aed1265f7891802e", func := "traveldoc/traveldoclaw11.ZoneNotices", spec := "zoneNotices", inPlace := ["internal/bytealg.IndexByteString", "internal/bytealg.IndexString", "internal/abi.NoEscape", "internal/bytealg.MakeNoZero"], unfollowed := true, recurses := true, named := ["internal/bytealg.MaxLen", "traveldoc/zone.birthRanges", "traveldoc/dates.monthLengths", "traveldoc/optical.weights", "internal/strconv.uint64pow10", "math/bits.deBruijn32tab", "math/bits.deBruijn64tab", "unicode/utf8.first", "unicode/utf8.acceptRanges"], apart := false, laid := [("math/bits.deBruijn32tab", laid_math_bits_deBruijn32tab), ("math/bits.deBruijn64tab", laid_math_bits_deBruijn64tab), ("internal/strconv.uint64pow10", laid_internal_strconv_uint64pow10), ("traveldoc/dates.monthLengths", laid_traveldoc_dates_monthLengths), ("unicode/utf8.acceptRanges", laid_unicode_utf8_acceptRanges), ("traveldoc/optical.weights", laid_traveldoc_optical_weights), ("traveldoc/zone.birthRanges", laid_traveldoc_zone_birthRanges), ("unicode/utf8.first", laid_unicode_utf8_first)], narrowed := true }
def ZoneNoticesUptoSaid : Prop := zoneNoticesUptoRow.holds Tryz.pinned (OpenSpec.upto zoneNoticesSpec)

/-- 'traveldoclaw11.ZoneKeys', WHERE WHAT IT READS IS OF BULK AT MOST 1048576: true; the input reads as it did. -/
def zoneKeysUptoRow : OpenClaim := { program := "ytdlcoilpkelbaaagreatdoor", sum := "19f859025c809dec1542002f0531e90bcf5667b1c2f164a8aed1265f7891802e", func := "traveldoc/traveldoclaw11.ZoneKeys", spec := "zoneKeys", inPlace := ["internal/bytealg.IndexByteString", "internal/bytealg.IndexString", "internal/abi.NoEscape", "internal/bytealg.MakeNoZero"], unfollowed := true, recurses := true, named := ["internal/bytealg.MaxLen", "traveldoc/zone.birthRanges", "traveldoc/dates.monthLengths", "traveldoc/optical.weights", "internal/strconv.uint64pow10", "math/bits.deBruijn32tab", "math/bits.deBruijn64tab", "unicode/utf8.first", "unicode/utf8.acceptRanges"], apart := false, laid := [("math/bits.deBruijn32tab", laid_math_bits_deBruijn32tab), ("math/bits.deBruijn64tab", laid_math_bits_deBruijn64tab), ("internal/strconv.uint64pow10", laid_internal_strconv_uint64pow10), ("traveldoc/dates.monthLengths", laid_traveldoc_dates_monthLengths), ("unicode/utf8.acceptRanges", laid_unicode_utf8_acceptRanges), ("traveldoc/optical.weights", laid_traveldoc_optical_weights), ("traveldoc/zone.birthRanges", laid_traveldoc_zone_birthRanges), ("unicode/utf8.first", laid_unicode_utf8_first)], narrowed := true }
def ZoneKeysUptoSaid : Prop := zoneKeysUptoRow.holds Tryz.pinned (OpenSpec.upto zoneKeysSpec)

end Rows
end Go.Proofs.YtdlcoilpkelbaaaGreatDoor
