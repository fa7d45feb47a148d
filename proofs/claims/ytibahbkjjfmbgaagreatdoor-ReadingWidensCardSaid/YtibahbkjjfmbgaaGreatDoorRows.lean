/-
  NARROWER THAN 'FOR EVERY INPUT', by the rows' own cells (each row's printed sentence says how): ReadingSimilar: laid · ReadingWidens: laid · ReadingFinds: laid · ReadingAny: laid · ReadingGrows: laid · ReadingReads: laid · ReadingLimits: laid.
  DERIVED. THE GIVEN ROWS OF THIS SEAT. 7 by the template 'for every input the law returns true; each argument reads behind the call as it read before'; 0 by the template 'total and deterministic' (their statements: YtibahbkjjfmbgaaGreatDoorTotals.lean).
  GIVEN WITH THE SEED: the statements are not yours to turn. If you find one false, say at which input.
  Laid BY PROGRAM, IN A SANDBOX (cutbox-rows.mjs): the forced cells as the released guide's own fill.sh prints them over the translation 27dc2f601f335f80… (all of the seat's roots in one cut). By AI agents, Wed Nov 11 2026. No macro, syntax, notation, axiom, sorry.
-/
import Derived.Test.YtibahbkjjfmbgaaGreatDoorChecked
import GoSem.PinnedTables
import GoSem.Claim
import GoSem.ClaimJoined
import GoSem.ClaimMapViews
import Derived.JoinedTies
import Derived.KernelRfl
namespace Go.Proofs.YtibahbkjjfmbgaaGreatDoor
/- THE CELL 'sum', in the pinned program and in every row, IS THE sha256 OF THE DUMP (.gsa) THAT YtibahbkjjfmbgaaGreatDoorProg.lean LOADS. Nothing in Lean hashes anything: it is a label: what it is worth is what the hold of that sum in a sandbox is worth. -/
noncomputable def Tryz.pinned : Pinned := { name := "ytibahbkjjfmbgaagreatdoor", sum := "27dc2f601f335f804a5813eac2271049ff7176fb64c4307b18e9cc3c2b26e5ce", checked := Tryz.checked }
namespace Rows
def none {H : Type} : Left H := { results := [], args := [] }

/- WHAT THE LISTED PACKAGE-LEVEL VARIABLES READ AS WHEN THE CALL BEGINS. Each datum BY PROGRAM (the guide's laid-datum.mjs) off the statement by which the dump's own 'gosem.cut.vars' lays the variable. In a bare row this is a premise. The card (YtibahbkjjfmbgaaGreatDoorCards.lean) ties it to the program's text. -/
def laid_math_bits_deBruijn32tab {H : Type} : DataW H := .agg [.lit (.int .u8 0), .lit (.int .u8 1), .lit (.int .u8 28), .lit (.int .u8 2), .lit (.int .u8 29), .lit (.int .u8 14), .lit (.int .u8 24), .lit (.int .u8 3), .lit (.int .u8 30), .lit (.int .u8 22), .lit (.int .u8 20), .lit (.int .u8 15), .lit (.int .u8 25), .lit (.int .u8 17), .lit (.int .u8 4), .lit (.int .u8 8), .lit (.int .u8 31), .lit (.int .u8 27), .lit (.int .u8 13), .lit (.int .u8 23), .lit (.int .u8 21), .lit (.int .u8 19), .lit (.int .u8 16), .lit (.int .u8 7), .lit (.int .u8 26), .lit (.int .u8 12), .lit (.int .u8 18), .lit (.int .u8 6), .lit (.int .u8 11), .lit (.int .u8 5), .lit (.int .u8 10), .lit (.int .u8 9)]
def laid_math_bits_deBruijn64tab {H : Type} : DataW H := .agg [.lit (.int .u8 0), .lit (.int .u8 1), .lit (.int .u8 56), .lit (.int .u8 2), .lit (.int .u8 57), .lit (.int .u8 49), .lit (.int .u8 28), .lit (.int .u8 3), .lit (.int .u8 61), .lit (.int .u8 58), .lit (.int .u8 42), .lit (.int .u8 50), .lit (.int .u8 38), .lit (.int .u8 29), .lit (.int .u8 17), .lit (.int .u8 4), .lit (.int .u8 62), .lit (.int .u8 47), .lit (.int .u8 59), .lit (.int .u8 36), .lit (.int .u8 45), .lit (.int .u8 43), .lit (.int .u8 51), .lit (.int .u8 22), .lit (.int .u8 53), .lit (.int .u8 39), .lit (.int .u8 33), .lit (.int .u8 30), .lit (.int .u8 24), .lit (.int .u8 18), .lit (.int .u8 12), .lit (.int .u8 5), .lit (.int .u8 63), .lit (.int .u8 55), .lit (.int .u8 48), .lit (.int .u8 27), .lit (.int .u8 60), .lit (.int .u8 41), .lit (.int .u8 37), .lit (.int .u8 16), .lit (.int .u8 46), .lit (.int .u8 35), .lit (.int .u8 44), .lit (.int .u8 21), .lit (.int .u8 52), .lit (.int .u8 32), .lit (.int .u8 23), .lit (.int .u8 11), .lit (.int .u8 54), .lit (.int .u8 26), .lit (.int .u8 40), .lit (.int .u8 15), .lit (.int .u8 34), .lit (.int .u8 20), .lit (.int .u8 31), .lit (.int .u8 10), .lit (.int .u8 25), .lit (.int .u8 14), .lit (.int .u8 19), .lit (.int .u8 9), .lit (.int .u8 13), .lit (.int .u8 8), .lit (.int .u8 7), .lit (.int .u8 6)]
def laid_internal_strconv_uint64pow10 {H : Type} : DataW H := .agg [.lit (.int .u64 1), .lit (.int .u64 10), .lit (.int .u64 100), .lit (.int .u64 1000), .lit (.int .u64 10000), .lit (.int .u64 100000), .lit (.int .u64 1000000), .lit (.int .u64 10000000), .lit (.int .u64 100000000), .lit (.int .u64 1000000000), .lit (.int .u64 10000000000), .lit (.int .u64 100000000000), .lit (.int .u64 1000000000000), .lit (.int .u64 10000000000000), .lit (.int .u64 100000000000000), .lit (.int .u64 1000000000000000), .lit (.int .u64 10000000000000000), .lit (.int .u64 100000000000000000), .lit (.int .u64 1000000000000000000), .lit (.int .u64 10000000000000000000)]
def laid_traveldoc_dates_monthLengths {H : Type} : DataW H := .agg [.lit (.int .i64 31), .lit (.int .i64 28), .lit (.int .i64 31), .lit (.int .i64 30), .lit (.int .i64 31), .lit (.int .i64 30), .lit (.int .i64 31), .lit (.int .i64 31), .lit (.int .i64 30), .lit (.int .i64 31), .lit (.int .i64 30), .lit (.int .i64 31)]
def laid_traveldoc_traveldocref12_groups {H : Type} : DataW H := .agg [.lit (.string [48, 68, 79, 81]), .lit (.string [49, 73, 76]), .lit (.string [50, 90]), .lit (.string [53, 83]), .lit (.string [54, 71]), .lit (.string [56, 66])]
def laid_unicode_utf8_acceptRanges {H : Type} : DataW H := .agg [.agg [.lit (.int .u8 128), .lit (.int .u8 191)], .agg [.lit (.int .u8 160), .lit (.int .u8 191)], .agg [.lit (.int .u8 128), .lit (.int .u8 159)], .agg [.lit (.int .u8 144), .lit (.int .u8 191)], .agg [.lit (.int .u8 128), .lit (.int .u8 143)], .agg [.lit (.int .u8 0), .lit (.int .u8 0)], .agg [.lit (.int .u8 0), .lit (.int .u8 0)], .agg [.lit (.int .u8 0), .lit (.int .u8 0)], .agg [.lit (.int .u8 0), .lit (.int .u8 0)], .agg [.lit (.int .u8 0), .lit (.int .u8 0)], .agg [.lit (.int .u8 0), .lit (.int .u8 0)], .agg [.lit (.int .u8 0), .lit (.int .u8 0)], .agg [.lit (.int .u8 0), .lit (.int .u8 0)], .agg [.lit (.int .u8 0), .lit (.int .u8 0)], .agg [.lit (.int .u8 0), .lit (.int .u8 0)], .agg [.lit (.int .u8 0), .lit (.int .u8 0)]]
def laid_traveldoc_optical_weights {H : Type} : DataW H := .agg [.lit (.int .i64 7), .lit (.int .i64 3), .lit (.int .i64 1)]
def laid_traveldoc_zone_birthRanges {H : Type} : DataW H := .agg [.agg [.lit (.int .i64 0), .lit (.int .i64 99)], .agg [.lit (.int .i64 1), .lit (.int .i64 12)], .agg [.lit (.int .i64 1), .lit (.int .i64 31)]]
def laid_traveldoc_reading_groups {H : Type} : DataW H := .agg [.lit (.string [48, 68, 79, 81]), .lit (.string [49, 73, 76]), .lit (.string [50, 90]), .lit (.string [53, 83]), .lit (.string [54, 71]), .lit (.string [56, 66])]
/-- One of Go's own tables, pinned by name: the form's constant. -/
def laid_unicode_utf8_first : DataW Unit := Go.Pinned.utf8First

/-- 'traveldoclaw12.ReadingSimilar': WHATEVER THE INPUT: true; the input reads as it did. -/
def readingSimilarSpec : ChangeSpec := { name := "readingSimilar", fn := fun _ => fun
  | [d] => { results := [.lit (.bool true)], args := [d] }
  | _ => none }
def readingSimilarRow : OpenClaim := { program := "ytibahbkjjfmbgaagreatdoor", sum := "27dc2f601f335f804a5813eac2271049ff7176fb64c4307b18e9cc3c2b26e5ce", func := "traveldoc/traveldoclaw12.ReadingSimilar", spec := "readingSimilar", inPlace := ["internal/bytealg.IndexByteString", "internal/abi.NoEscape", "internal/bytealg.MakeNoZero", "internal/bytealg.IndexString"], unfollowed := true, recurses := true, named := ["traveldoc/reading.groups", "traveldoc/optical.weights", "internal/strconv.uint64pow10", "math/bits.deBruijn32tab", "math/bits.deBruijn64tab", "unicode/utf8.first", "unicode/utf8.acceptRanges", "internal/bytealg.MaxLen", "traveldoc/zone.birthRanges", "traveldoc/dates.monthLengths", "traveldoc/traveldocref12.groups"], apart := false, laid := [("math/bits.deBruijn32tab", laid_math_bits_deBruijn32tab), ("math/bits.deBruijn64tab", laid_math_bits_deBruijn64tab), ("internal/strconv.uint64pow10", laid_internal_strconv_uint64pow10), ("traveldoc/dates.monthLengths", laid_traveldoc_dates_monthLengths), ("traveldoc/traveldocref12.groups", laid_traveldoc_traveldocref12_groups), ("unicode/utf8.acceptRanges", laid_unicode_utf8_acceptRanges), ("traveldoc/optical.weights", laid_traveldoc_optical_weights), ("traveldoc/zone.birthRanges", laid_traveldoc_zone_birthRanges), ("traveldoc/reading.groups", laid_traveldoc_reading_groups), ("unicode/utf8.first", laid_unicode_utf8_first)] }
def ReadingSimilarSaid : Prop := readingSimilarRow.holds Tryz.pinned (OpenSpec.ofChange readingSimilarSpec)

/-- ITS FALSE NEIGHBOUR: 'it returns false'. Refute it at one input. -/
def readingSimilarWrong : ChangeSpec := { name := "readingSimilar", fn := fun _ => fun
  | [d] => { results := [.lit (.bool false)], args := [d] }
  | _ => none }
def ReadingSimilarWrongFalsely : Prop := readingSimilarRow.holds Tryz.pinned (OpenSpec.ofChange readingSimilarWrong)

/-- 'traveldoclaw12.ReadingWidens': WHATEVER THE INPUT: true; the input reads as it did. -/
def readingWidensSpec : ChangeSpec := { name := "readingWidens", fn := fun _ => fun
  | [d1, d2] => { results := [.lit (.bool true)], args := [d1, d2] }
  | _ => none }
def readingWidensRow : OpenClaim := { program := "ytibahbkjjfmbgaagreatdoor", sum := "27dc2f601f335f804a5813eac2271049ff7176fb64c4307b18e9cc3c2b26e5ce", func := "traveldoc/traveldoclaw12.ReadingWidens", spec := "readingWidens", inPlace := ["internal/abi.NoEscape", "internal/bytealg.MakeNoZero", "internal/bytealg.IndexByteString", "internal/bytealg.IndexString"], unfollowed := true, recurses := true, named := ["traveldoc/reading.groups", "traveldoc/traveldocref12.groups", "traveldoc/optical.weights", "internal/strconv.uint64pow10", "math/bits.deBruijn32tab", "math/bits.deBruijn64tab", "unicode/utf8.first", "unicode/utf8.acceptRanges", "internal/bytealg.MaxLen", "traveldoc/zone.birthRanges", "traveldoc/dates.monthLengths"], apart := false, laid := [("math/bits.deBruijn32tab", laid_math_bits_deBruijn32tab), ("math/bits.deBruijn64tab", laid_math_bits_deBruijn64tab), ("internal/strconv.uint64pow10", laid_internal_strconv_uint64pow10), ("traveldoc/dates.monthLengths", laid_traveldoc_dates_monthLengths), ("traveldoc/traveldocref12.groups", laid_traveldoc_traveldocref12_groups), ("unicode/utf8.acceptRanges", laid_unicode_utf8_acceptRanges), ("traveldoc/optical.weights", laid_traveldoc_optical_weights), ("traveldoc/zone.birthRanges", laid_traveldoc_zone_birthRanges), ("traveldoc/reading.groups", laid_traveldoc_reading_groups), ("unicode/utf8.first", laid_unicode_utf8_first)] }
def ReadingWidensSaid : Prop := readingWidensRow.holds Tryz.pinned (OpenSpec.ofChange readingWidensSpec)

/-- ITS FALSE NEIGHBOUR: 'it returns false'. Refute it at one input. -/
def readingWidensWrong : ChangeSpec := { name := "readingWidens", fn := fun _ => fun
  | [d1, d2] => { results := [.lit (.bool false)], args := [d1, d2] }
  | _ => none }
def ReadingWidensWrongFalsely : Prop := readingWidensRow.holds Tryz.pinned (OpenSpec.ofChange readingWidensWrong)

/-- 'traveldoclaw12.ReadingFinds': WHATEVER THE INPUT: true; the input reads as it did. -/
def readingFindsSpec : ChangeSpec := { name := "readingFinds", fn := fun _ => fun
  | [d] => { results := [.lit (.bool true)], args := [d] }
  | _ => none }
def readingFindsRow : OpenClaim := { program := "ytibahbkjjfmbgaagreatdoor", sum := "27dc2f601f335f804a5813eac2271049ff7176fb64c4307b18e9cc3c2b26e5ce", func := "traveldoc/traveldoclaw12.ReadingFinds", spec := "readingFinds", inPlace := ["internal/abi.NoEscape", "internal/bytealg.MakeNoZero", "internal/bytealg.IndexByteString", "internal/bytealg.IndexString"], unfollowed := true, recurses := true, named := ["traveldoc/optical.weights", "internal/strconv.uint64pow10", "math/bits.deBruijn32tab", "math/bits.deBruijn64tab", "unicode/utf8.first", "unicode/utf8.acceptRanges", "internal/bytealg.MaxLen", "traveldoc/zone.birthRanges", "traveldoc/dates.monthLengths", "traveldoc/reading.groups"], apart := false, laid := [("math/bits.deBruijn32tab", laid_math_bits_deBruijn32tab), ("math/bits.deBruijn64tab", laid_math_bits_deBruijn64tab), ("internal/strconv.uint64pow10", laid_internal_strconv_uint64pow10), ("traveldoc/dates.monthLengths", laid_traveldoc_dates_monthLengths), ("unicode/utf8.acceptRanges", laid_unicode_utf8_acceptRanges), ("traveldoc/optical.weights", laid_traveldoc_optical_weights), ("traveldoc/zone.birthRanges", laid_traveldoc_zone_birthRanges), ("traveldoc/reading.groups", laid_traveldoc_reading_groups), ("unicode/utf8.first", laid_unicode_utf8_first)] }
def ReadingFindsSaid : Prop := readingFindsRow.holds Tryz.pinned (OpenSpec.ofChange readingFindsSpec)

/-- ITS FALSE NEIGHBOUR: 'it returns false'. Refute it at one input. -/
def readingFindsWrong : ChangeSpec := { name := "readingFinds", fn := fun _ => fun
  | [d] => { results := [.lit (.bool false)], args := [d] }
  | _ => none }
def ReadingFindsWrongFalsely : Prop := readingFindsRow.holds Tryz.pinned (OpenSpec.ofChange readingFindsWrong)

/-- 'traveldoclaw12.ReadingAny': WHATEVER THE INPUT: true; the input reads as it did. -/
def readingAnySpec : ChangeSpec := { name := "readingAny", fn := fun _ => fun
  | [d] => { results := [.lit (.bool true)], args := [d] }
  | _ => none }
def readingAnyRow : OpenClaim := { program := "ytibahbkjjfmbgaagreatdoor", sum := "27dc2f601f335f804a5813eac2271049ff7176fb64c4307b18e9cc3c2b26e5ce", func := "traveldoc/traveldoclaw12.ReadingAny", spec := "readingAny", inPlace := ["internal/abi.NoEscape", "internal/bytealg.MakeNoZero", "internal/bytealg.IndexByteString", "internal/bytealg.IndexString"], unfollowed := true, recurses := true, named := ["traveldoc/optical.weights", "internal/strconv.uint64pow10", "math/bits.deBruijn32tab", "math/bits.deBruijn64tab", "unicode/utf8.first", "unicode/utf8.acceptRanges", "internal/bytealg.MaxLen", "traveldoc/zone.birthRanges", "traveldoc/dates.monthLengths", "traveldoc/reading.groups"], apart := false, laid := [("math/bits.deBruijn32tab", laid_math_bits_deBruijn32tab), ("math/bits.deBruijn64tab", laid_math_bits_deBruijn64tab), ("internal/strconv.uint64pow10", laid_internal_strconv_uint64pow10), ("traveldoc/dates.monthLengths", laid_traveldoc_dates_monthLengths), ("unicode/utf8.acceptRanges", laid_unicode_utf8_acceptRanges), ("traveldoc/optical.weights", laid_traveldoc_optical_weights), ("traveldoc/zone.birthRanges", laid_traveldoc_zone_birthRanges), ("traveldoc/reading.groups", laid_traveldoc_reading_groups), ("unicode/utf8.first", laid_unicode_utf8_first)] }
def ReadingAnySaid : Prop := readingAnyRow.holds Tryz.pinned (OpenSpec.ofChange readingAnySpec)

/-- ITS FALSE NEIGHBOUR: 'it returns false'. Refute it at one input. -/
def readingAnyWrong : ChangeSpec := { name := "readingAny", fn := fun _ => fun
  | [d] => { results := [.lit (.bool false)], args := [d] }
  | _ => none }
def ReadingAnyWrongFalsely : Prop := readingAnyRow.holds Tryz.pinned (OpenSpec.ofChange readingAnyWrong)

/-- 'traveldoclaw12.ReadingGrows': WHATEVER THE INPUT: true; the input reads as it did. -/
def readingGrowsSpec : ChangeSpec := { name := "readingGrows", fn := fun _ => fun
  | [d1, d2] => { results := [.lit (.bool true)], args := [d1, d2] }
  | _ => none }
def readingGrowsRow : OpenClaim := { program := "ytibahbkjjfmbgaagreatdoor", sum := "27dc2f601f335f804a5813eac2271049ff7176fb64c4307b18e9cc3c2b26e5ce", func := "traveldoc/traveldoclaw12.ReadingGrows", spec := "readingGrows", inPlace := ["internal/abi.NoEscape", "internal/bytealg.MakeNoZero", "internal/bytealg.IndexByteString", "internal/bytealg.IndexString"], unfollowed := true, recurses := true, named := ["traveldoc/optical.weights", "internal/strconv.uint64pow10", "math/bits.deBruijn32tab", "math/bits.deBruijn64tab", "unicode/utf8.first", "unicode/utf8.acceptRanges", "internal/bytealg.MaxLen", "traveldoc/zone.birthRanges", "traveldoc/dates.monthLengths", "traveldoc/reading.groups"], apart := false, laid := [("math/bits.deBruijn32tab", laid_math_bits_deBruijn32tab), ("math/bits.deBruijn64tab", laid_math_bits_deBruijn64tab), ("internal/strconv.uint64pow10", laid_internal_strconv_uint64pow10), ("traveldoc/dates.monthLengths", laid_traveldoc_dates_monthLengths), ("unicode/utf8.acceptRanges", laid_unicode_utf8_acceptRanges), ("traveldoc/optical.weights", laid_traveldoc_optical_weights), ("traveldoc/zone.birthRanges", laid_traveldoc_zone_birthRanges), ("traveldoc/reading.groups", laid_traveldoc_reading_groups), ("unicode/utf8.first", laid_unicode_utf8_first)] }
def ReadingGrowsSaid : Prop := readingGrowsRow.holds Tryz.pinned (OpenSpec.ofChange readingGrowsSpec)

/-- ITS FALSE NEIGHBOUR: 'it returns false'. Refute it at one input. -/
def readingGrowsWrong : ChangeSpec := { name := "readingGrows", fn := fun _ => fun
  | [d1, d2] => { results := [.lit (.bool false)], args := [d1, d2] }
  | _ => none }
def ReadingGrowsWrongFalsely : Prop := readingGrowsRow.holds Tryz.pinned (OpenSpec.ofChange readingGrowsWrong)

/-- 'traveldoclaw12.ReadingReads': WHATEVER THE INPUT: true; the input reads as it did. -/
def readingReadsSpec : ChangeSpec := { name := "readingReads", fn := fun _ => fun
  | [d] => { results := [.lit (.bool true)], args := [d] }
  | _ => none }
def readingReadsRow : OpenClaim := { program := "ytibahbkjjfmbgaagreatdoor", sum := "27dc2f601f335f804a5813eac2271049ff7176fb64c4307b18e9cc3c2b26e5ce", func := "traveldoc/traveldoclaw12.ReadingReads", spec := "readingReads", inPlace := ["internal/abi.NoEscape", "internal/bytealg.MakeNoZero", "internal/bytealg.IndexByteString", "internal/bytealg.IndexString"], unfollowed := true, recurses := true, named := ["traveldoc/optical.weights", "internal/strconv.uint64pow10", "math/bits.deBruijn32tab", "math/bits.deBruijn64tab", "unicode/utf8.first", "unicode/utf8.acceptRanges", "internal/bytealg.MaxLen", "traveldoc/zone.birthRanges", "traveldoc/dates.monthLengths", "traveldoc/reading.groups"], apart := false, laid := [("math/bits.deBruijn32tab", laid_math_bits_deBruijn32tab), ("math/bits.deBruijn64tab", laid_math_bits_deBruijn64tab), ("internal/strconv.uint64pow10", laid_internal_strconv_uint64pow10), ("traveldoc/dates.monthLengths", laid_traveldoc_dates_monthLengths), ("unicode/utf8.acceptRanges", laid_unicode_utf8_acceptRanges), ("traveldoc/optical.weights", laid_traveldoc_optical_weights), ("traveldoc/zone.birthRanges", laid_traveldoc_zone_birthRanges), ("traveldoc/reading.groups", laid_traveldoc_reading_groups), ("unicode/utf8.first", laid_unicode_utf8_first)] }
def ReadingReadsSaid : Prop := readingReadsRow.holds Tryz.pinned (OpenSpec.ofChange readingReadsSpec)

/-- ITS FALSE NEIGHBOUR: 'it returns false'. Refute it at one input. -/
def readingReadsWrong : ChangeSpec := { name := "readingReads", fn := fun _ => fun
  | [d] => { results := [.lit (.bool false)], args := [d] }
  | _ => none }
def ReadingReadsWrongFalsely : Prop := readingReadsRow.holds Tryz.pinned (OpenSpec.ofChange readingReadsWrong)

/-- 'traveldoclaw12.ReadingLimits': WHATEVER THE INPUT: true; the input reads as it did. -/
def readingLimitsSpec : ChangeSpec := { name := "readingLimits", fn := fun _ => fun
  | [d] => { results := [.lit (.bool true)], args := [d] }
  | _ => none }
def readingLimitsRow : OpenClaim := { program := "ytibahbkjjfmbgaagreatdoor", sum := "27dc2f601f335f804a5813eac2271049ff7176fb64c4307b18e9cc3c2b26e5ce", func := "traveldoc/traveldoclaw12.ReadingLimits", spec := "readingLimits", inPlace := ["internal/abi.NoEscape", "internal/bytealg.MakeNoZero", "internal/bytealg.IndexByteString", "internal/bytealg.IndexString"], unfollowed := true, recurses := true, named := ["traveldoc/optical.weights", "internal/strconv.uint64pow10", "math/bits.deBruijn32tab", "math/bits.deBruijn64tab", "unicode/utf8.first", "unicode/utf8.acceptRanges", "internal/bytealg.MaxLen", "traveldoc/zone.birthRanges", "traveldoc/dates.monthLengths", "traveldoc/reading.groups"], apart := false, laid := [("math/bits.deBruijn32tab", laid_math_bits_deBruijn32tab), ("math/bits.deBruijn64tab", laid_math_bits_deBruijn64tab), ("internal/strconv.uint64pow10", laid_internal_strconv_uint64pow10), ("traveldoc/dates.monthLengths", laid_traveldoc_dates_monthLengths), ("unicode/utf8.acceptRanges", laid_unicode_utf8_acceptRanges), ("traveldoc/optical.weights", laid_traveldoc_optical_weights), ("traveldoc/zone.birthRanges", laid_traveldoc_zone_birthRanges), ("traveldoc/reading.groups", laid_traveldoc_reading_groups), ("unicode/utf8.first", laid_unicode_utf8_first)] }
def ReadingLimitsSaid : Prop := readingLimitsRow.holds Tryz.pinned (OpenSpec.ofChange readingLimitsSpec)

/-- ITS FALSE NEIGHBOUR: 'it returns false'. Refute it at one input. -/
def readingLimitsWrong : ChangeSpec := { name := "readingLimits", fn := fun _ => fun
  | [d] => { results := [.lit (.bool false)], args := [d] }
  | _ => none }
def ReadingLimitsWrongFalsely : Prop := readingLimitsRow.holds Tryz.pinned (OpenSpec.ofChange readingLimitsWrong)

/- THE SECOND FORM. 'bulk': how many values and letters a reading holds, each counted each time it is reached (what is shared counts as often as it is met; a slice's spare places count too). A statement '..UptoSaid' is the law's where the arguments, and the package variables that the reading takes, are together of bulk at most 1048576: NARROWER than '..Said'. Prove '..Said' where nothing that the law and all that it calls make is longer than what came in: it says more and counts as full. Else prove '..UptoSaid'. A law counts once. -/
mutual
def uptoBulk {H : Type} : DataW H → Nat
  | .lit (.string bytes) => bytes.length + 1
  | .lit _ => 1
  | .nil => 1
  | .ptr d => uptoBulk d + 1
  | .slice elems spare => uptoBulkAll elems + uptoBulkAll spare + 1
  | .agg parts => uptoBulkAll parts + 1
  | .iface _ d => uptoBulk d + 1
  | .map entries => uptoBulkEntries entries + 1
  | .held _ => 1
def uptoBulkAll {H : Type} : List (DataW H) → Nat
  | [] => 0
  | d :: r => uptoBulk d + uptoBulkAll r
def uptoBulkEntries {H : Type} : List (Lit × DataW H) → Nat
  | [] => 0
  | x :: r => uptoBulkEntry x + uptoBulkEntries r
def uptoBulkEntry {H : Type} : Lit × DataW H → Nat
  | (.string bytes, d) => bytes.length + uptoBulk d + 1
  | (_, d) => uptoBulk d + 1
 end
def uptoSmall : (H : Type) → List (DataW H) → Bool := fun _ ds => decide (uptoBulkAll ds ≤ 1048576)
def OpenSpec.upto (s : _root_.Go.ChangeSpec) : _root_.Go.OpenSpec := { _root_.Go.OpenSpec.ofChange s with cond := some uptoSmall }

/-- 'traveldoclaw12.ReadingSimilar', WHERE WHAT IT READS IS OF BULK AT MOST 1048576: true; the input reads as it did. -/
def readingSimilarUptoRow : OpenClaim := { program := "ytibahbkjjfmbgaagreatdoor", sum := "27dc2f601f335f804a5813eac2271049ff7176fb64c4307b18e9cc3c2b26e5ce", func := "traveldoc/traveldoclaw12.ReadingSimilar", spec := "readingSimilar", inPlace := ["internal/bytealg.IndexByteString", "internal/abi.NoEscape", "internal/bytealg.MakeNoZero", "internal/bytealg.IndexString"], unfollowed := true, recurses := true, named := ["traveldoc/reading.groups", "traveldoc/optical.weights", "internal/strconv.uint64pow10", "math/bits.deBruijn32tab", "math/bits.deBruijn64tab", "unicode/utf8.first", "unicode/utf8.acceptRanges", "internal/bytealg.MaxLen", "traveldoc/zone.birthRanges", "traveldoc/dates.monthLengths", "traveldoc/traveldocref12.groups"], apart := false, laid := [("math/bits.deBruijn32tab", laid_math_bits_deBruijn32tab), ("math/bits.deBruijn64tab", laid_math_bits_deBruijn64tab), ("internal/strconv.uint64pow10", laid_internal_strconv_uint64pow10), ("traveldoc/dates.monthLengths", laid_traveldoc_dates_monthLengths), ("traveldoc/traveldocref12.groups", laid_traveldoc_traveldocref12_groups), ("unicode/utf8.acceptRanges", laid_unicode_utf8_acceptRanges), ("traveldoc/optical.weights", laid_traveldoc_optical_weights), ("traveldoc/zone.birthRanges", laid_traveldoc_zone_birthRanges), ("traveldoc/reading.groups", laid_traveldoc_reading_groups), ("unicode/utf8.first", laid_unicode_utf8_first)], narrowed := true }
def ReadingSimilarUptoSaid : Prop := readingSimilarUptoRow.holds Tryz.pinned (OpenSpec.upto readingSimilarSpec)

/-- 'traveldoclaw12.ReadingWidens', WHERE WHAT IT READS IS OF BULK AT MOST 1048576: true; the input reads as it did. -/
def readingWidensUptoRow : OpenClaim := { program := "ytibahbkjjfmbgaagreatdoor", sum := "27dc2f601f335f804a5813eac2271049ff7176fb64c4307b18e9cc3c2b26e5ce", func := "traveldoc/traveldoclaw12.ReadingWidens", spec := "readingWidens", inPlace := ["internal/abi.NoEscape", "internal/bytealg.MakeNoZero", "internal/bytealg.IndexByteString", "internal/bytealg.IndexString"], unfollowed := true, recurses := true, named := ["traveldoc/reading.groups", "traveldoc/traveldocref12.groups", "traveldoc/optical.weights", "internal/strconv.uint64pow10", "math/bits.deBruijn32tab", "math/bits.deBruijn64tab", "unicode/utf8.first", "unicode/utf8.acceptRanges", "internal/bytealg.MaxLen", "traveldoc/zone.birthRanges", "traveldoc/dates.monthLengths"], apart := false, laid := [("math/bits.deBruijn32tab", laid_math_bits_deBruijn32tab), ("math/bits.deBruijn64tab", laid_math_bits_deBruijn64tab), ("internal/strconv.uint64pow10", laid_internal_strconv_uint64pow10), ("traveldoc/dates.monthLengths", laid_traveldoc_dates_monthLengths), ("traveldoc/traveldocref12.groups", laid_traveldoc_traveldocref12_groups), ("unicode/utf8.acceptRanges", laid_unicode_utf8_acceptRanges), ("traveldoc/optical.weights", laid_traveldoc_optical_weights), ("traveldoc/zone.birthRanges", laid_traveldoc_zone_birthRanges), ("traveldoc/reading.groups", laid_traveldoc_reading_groups), ("unicode/utf8.first", laid_unicode_utf8_first)], narrowed := true }
def ReadingWidensUptoSaid : Prop := readingWidensUptoRow.holds Tryz.pinned (OpenSpec.upto readingWidensSpec)

/-- 'traveldoclaw12.ReadingFinds', WHERE WHAT IT READS IS OF BULK AT MOST 1048576: true; the input reads as it did. -/
def readingFindsUptoRow : OpenClaim := { program := "ytibahbkjjfmbgaagreatdoor", sum := "27dc2f601f335f804a5813eac2271049ff7176fb64c4307b18e9cc3c2b26e5ce", func := "traveldoc/traveldoclaw12.ReadingFinds", spec := "readingFinds", inPlace := ["internal/abi.NoEscape", "internal/bytealg.MakeNoZero", "internal/bytealg.IndexByteString", "internal/bytealg.IndexString"], unfollowed := true, recurses := true, named := ["traveldoc/optical.weights", "internal/strconv.uint64pow10", "math/bits.deBruijn32tab", "math/bits.deBruijn64tab", "unicode/utf8.first", "unicode/utf8.acceptRanges", "internal/bytealg.MaxLen", "traveldoc/zone.birthRanges", "traveldoc/dates.monthLengths", "traveldoc/reading.groups"], apart := false, laid := [("math/bits.deBruijn32tab", laid_math_bits_deBruijn32tab), ("math/bits.deBruijn64tab", laid_math_bits_deBruijn64tab), ("internal/strconv.uint64pow10", laid_internal_strconv_uint64pow10), ("traveldoc/dates.monthLengths", laid_traveldoc_dates_monthLengths), ("unicode/utf8.acceptRanges", laid_unicode_utf8_acceptRanges), ("traveldoc/optical.weights", laid_traveldoc_optical_weights), ("traveldoc/zone.birthRanges", laid_traveldoc_zone_birthRanges), ("traveldoc/reading.groups", laid_traveldoc_reading_groups), ("unicode/utf8.first", laid_unicode_utf8_first)], narrowed := true }
def ReadingFindsUptoSaid : Prop := readingFindsUptoRow.holds Tryz.pinned (OpenSpec.upto readingFindsSpec)

/-- 'traveldoclaw12.ReadingAny', WHERE WHAT IT READS IS OF BULK AT MOST 1048576: true; the input reads as it did. -/
def readingAnyUptoRow : OpenClaim := { program := "ytibahbkjjfmbgaagreatdoor", sum := "27dc2f601f335f804a5813eac2271049ff7176fb64c4307b18e9cc3c2b26e5ce", func := "traveldoc/traveldoclaw12.ReadingAny", spec := "readingAny", inPlace := ["internal/abi.NoEscape", "internal/bytealg.MakeNoZero", "internal/bytealg.IndexByteString", "internal/bytealg.IndexString"], unfollowed := true, recurses := true, named := ["traveldoc/optical.weights", "internal/strconv.uint64pow10", "math/bits.deBruijn32tab", "math/bits.deBruijn64tab", "unicode/utf8.first", "unicode/utf8.acceptRanges", "internal/bytealg.MaxLen", "traveldoc/zone.birthRanges", "traveldoc/dates.monthLengths", "traveldoc/reading.groups"], apart := false, laid := [("math/bits.deBruijn32tab", laid_math_bits_deBruijn32tab), ("math/bits.deBruijn64tab", laid_math_bits_deBruijn64tab), ("internal/strconv.uint64pow10", laid_internal_strconv_uint64pow10), ("traveldoc/dates.monthLengths", laid_traveldoc_dates_monthLengths), ("unicode/utf8.acceptRanges", laid_unicode_utf8_acceptRanges), ("traveldoc/optical.weights", laid_traveldoc_optical_weights), ("traveldoc/zone.birthRanges", laid_traveldoc_zone_birthRanges), ("traveldoc/reading.groups", laid_traveldoc_reading_groups), ("unicode/utf8.first", laid_unicode_utf8_first)], narrowed := true }
def ReadingAnyUptoSaid : Prop := readingAnyUptoRow.holds Tryz.pinned (OpenSpec.upto readingAnySpec)

/-- 'traveldoclaw12.ReadingGrows', WHERE WHAT IT READS IS OF BULK AT MOST 1048576: true; the input reads as it did. -/
def readingGrowsUptoRow : OpenClaim := { program := "ytibahbkjjfmbgaagreatdoor", sum := "27dc2f601f335f804a5813eac2271049ff7176fb64c4307b18e9cc3c2b26e5ce", func := "traveldoc/traveldoclaw12.ReadingGrows", spec := "readingGrows", inPlace := ["internal/abi.NoEscape", "internal/bytealg.MakeNoZero", "internal/bytealg.IndexByteString", "internal/bytealg.IndexString"], unfollowed := true, recurses := true, named := ["traveldoc/optical.weights", "internal/strconv.uint64pow10", "math/bits.deBruijn32tab", "math/bits.deBruijn64tab", "unicode/utf8.first", "unicode/utf8.acceptRanges", "internal/bytealg.MaxLen", "traveldoc/zone.birthRanges", "traveldoc/dates.monthLengths", "traveldoc/reading.groups"], apart := false, laid := [("math/bits.deBruijn32tab", laid_math_bits_deBruijn32tab), ("math/bits.deBruijn64tab", laid_math_bits_deBruijn64tab), ("internal/strconv.uint64pow10", laid_internal_strconv_uint64pow10), ("traveldoc/dates.monthLengths", laid_traveldoc_dates_monthLengths), ("unicode/utf8.acceptRanges", laid_unicode_utf8_acceptRanges), ("traveldoc/optical.weights", laid_traveldoc_optical_weights), ("traveldoc/zone.birthRanges", laid_traveldoc_zone_birthRanges), ("traveldoc/reading.groups", laid_traveldoc_reading_groups), ("unicode/utf8.first", laid_unicode_utf8_first)], narrowed := true }
def ReadingGrowsUptoSaid : Prop := readingGrowsUptoRow.holds Tryz.pinned (OpenSpec.upto readingGrowsSpec)

/-- 'traveldoclaw12.ReadingReads', WHERE WHAT IT READS IS OF BULK AT MOST 1048576: true; the input reads as it did. -/
def readingReadsUptoRow : OpenClaim := { program := "ytibahbkjjfmbgaagreatdoor", sum := "27dc2f601f335f804a5813eac2271049ff7176fb64c4307b18e9cc3c2b26e5ce", func := "traveldoc/traveldoclaw12.ReadingReads", spec := "readingReads", inPlace := ["internal/abi.NoEscape", "internal/bytealg.MakeNoZero", "internal/bytealg.IndexByteString", "internal/bytealg.IndexString"], unfollowed := true, recurses := true, named := ["traveldoc/optical.weights", "internal/strconv.uint64pow10", "math/bits.deBruijn32tab", "math/bits.deBruijn64tab", "unicode/utf8.first", "unicode/utf8.acceptRanges", "internal/bytealg.MaxLen", "traveldoc/zone.birthRanges", "traveldoc/dates.monthLengths", "traveldoc/reading.groups"], apart := false, laid := [("math/bits.deBruijn32tab", laid_math_bits_deBruijn32tab), ("math/bits.deBruijn64tab", laid_math_bits_deBruijn64tab), ("internal/strconv.uint64pow10", laid_internal_strconv_uint64pow10), ("traveldoc/dates.monthLengths", laid_traveldoc_dates_monthLengths), ("unicode/utf8.acceptRanges", laid_unicode_utf8_acceptRanges), ("traveldoc/optical.weights", laid_traveldoc_optical_weights), ("traveldoc/zone.birthRanges", laid_traveldoc_zone_birthRanges), ("traveldoc/reading.groups", laid_traveldoc_reading_groups), ("unicode/utf8.first", laid_unicode_utf8_first)], narrowed := true }
def ReadingReadsUptoSaid : Prop := readingReadsUptoRow.holds Tryz.pinned (OpenSpec.upto readingReadsSpec)

/-- 'traveldoclaw12.ReadingLimits', WHERE WHAT IT READS IS OF BULK AT MOST 1048576: true; the input reads as it did. -/
def readingLimitsUptoRow : OpenClaim := { program := "ytibahbkjjfmbgaagreatdoor", sum := "27dc2f601f335f804a5813eac2271049ff7176fb64c4307b18e9cc3c2b26e5ce", func := "traveldoc/traveldoclaw12.ReadingLimits", spec := "readingLimits", inPlace := ["internal/abi.NoEscape", "internal/bytealg.MakeNoZero", "internal/bytealg.IndexByteString", "internal/bytealg.IndexString"], unfollowed := true, recurses := true, named := ["traveldoc/optical.weights", "internal/strconv.uint64pow10", "math/bits.deBruijn32tab", "math/bits.deBruijn64tab", "unicode/utf8.first", "unicode/utf8.acceptRanges", "internal/bytealg.MaxLen", "traveldoc/zone.birthRanges", "traveldoc/dates.monthLengths", "traveldoc/reading.groups"], apart := false, laid := [("math/bits.deBruijn32tab", laid_math_bits_deBruijn32tab), ("math/bits.deBruijn64tab", laid_math_bits_deBruijn64tab), ("internal/strconv.uint64pow10", laid_internal_strconv_uint64pow10), ("traveldoc/dates.monthLengths", laid_traveldoc_dates_monthLengths), ("unicode/utf8.acceptRanges", laid_unicode_utf8_acceptRanges), ("traveldoc/optical.weights", laid_traveldoc_optical_weights), ("traveldoc/zone.birthRanges", laid_traveldoc_zone_birthRanges), ("traveldoc/reading.groups", laid_traveldoc_reading_groups), ("unicode/utf8.first", laid_unicode_utf8_first)], narrowed := true }
def ReadingLimitsUptoSaid : Prop := readingLimitsUptoRow.holds Tryz.pinned (OpenSpec.upto readingLimitsSpec)

end Rows
end Go.Proofs.YtibahbkjjfmbgaaGreatDoor
