/-
  NARROWER THAN 'FOR EVERY INPUT', by the rows' own cells (each row's printed sentence says how): Clipped: laid · Strange: laid · Compact: laid · Shaped: laid · Unrepeated: laid · All: laid.
  DERIVED. THE GIVEN ROWS OF THIS SEAT. 6 by the template 'for every input the law returns true; each argument reads behind the call as it read before'; 0 by the template 'total and deterministic' (their statements: YtjnbhiamaabbgabGreatDoorTotals.lean).
  GIVEN WITH THE SEED: the statements are not yours to turn. If you find one false, say at which input.
  Laid BY PROGRAM, IN A SANDBOX (cutbox-rows.mjs): the forced cells as the released guide's own fill.sh prints them over the translation 945b15dd4b58a998… (all of the seat's roots in one cut). By AI agents, Wed Nov 11 2026. No macro, syntax, notation, axiom, sorry.
-/
import Derived.Test.YtjnbhiamaabbgabGreatDoorChecked
import GoSem.Claim
import GoSem.ClaimJoined
import GoSem.ClaimMapViews
import Derived.JoinedTies
import Derived.KernelRfl
namespace Go.Proofs.YtjnbhiamaabbgabGreatDoor
/- THE CELL 'sum', in the pinned program and in every row, IS THE sha256 OF THE DUMP (.gsa) THAT YtjnbhiamaabbgabGreatDoorProg.lean LOADS. Nothing in Lean hashes anything: it is a label: what it is worth is what the hold of that sum in a sandbox is worth. -/
noncomputable def Tryz.pinned : Pinned := { name := "ytjnbhiamaabbgabgreatdoor", sum := "945b15dd4b58a99800349357807bfc3670bfa898a382adb1f1fe0344d93d08be", checked := Tryz.checked }
namespace Rows
def none {H : Type} : Left H := { results := [], args := [] }

/- WHAT THE LISTED PACKAGE-LEVEL VARIABLES READ AS WHEN THE CALL BEGINS. Each datum BY PROGRAM (the guide's laid-datum.mjs) off the statement by which the dump's own 'gosem.cut.vars' lays the variable. In a bare row this is a premise. The card (YtjnbhiamaabbgabGreatDoorCards.lean) ties it to the program's text. -/
def laid_coffer_prim_roundWords {H : Type} : DataW H := .agg [.lit (.int .u32 1116352408), .lit (.int .u32 1899447441), .lit (.int .u32 3049323471), .lit (.int .u32 3921009573), .lit (.int .u32 961987163), .lit (.int .u32 1508970993), .lit (.int .u32 2453635748), .lit (.int .u32 2870763221), .lit (.int .u32 3624381080), .lit (.int .u32 310598401), .lit (.int .u32 607225278), .lit (.int .u32 1426881987), .lit (.int .u32 1925078388), .lit (.int .u32 2162078206), .lit (.int .u32 2614888103), .lit (.int .u32 3248222580), .lit (.int .u32 3835390401), .lit (.int .u32 4022224774), .lit (.int .u32 264347078), .lit (.int .u32 604807628), .lit (.int .u32 770255983), .lit (.int .u32 1249150122), .lit (.int .u32 1555081692), .lit (.int .u32 1996064986), .lit (.int .u32 2554220882), .lit (.int .u32 2821834349), .lit (.int .u32 2952996808), .lit (.int .u32 3210313671), .lit (.int .u32 3336571891), .lit (.int .u32 3584528711), .lit (.int .u32 113926993), .lit (.int .u32 338241895), .lit (.int .u32 666307205), .lit (.int .u32 773529912), .lit (.int .u32 1294757372), .lit (.int .u32 1396182291), .lit (.int .u32 1695183700), .lit (.int .u32 1986661051), .lit (.int .u32 2177026350), .lit (.int .u32 2456956037), .lit (.int .u32 2730485921), .lit (.int .u32 2820302411), .lit (.int .u32 3259730800), .lit (.int .u32 3345764771), .lit (.int .u32 3516065817), .lit (.int .u32 3600352804), .lit (.int .u32 4094571909), .lit (.int .u32 275423344), .lit (.int .u32 430227734), .lit (.int .u32 506948616), .lit (.int .u32 659060556), .lit (.int .u32 883997877), .lit (.int .u32 958139571), .lit (.int .u32 1322822218), .lit (.int .u32 1537002063), .lit (.int .u32 1747873779), .lit (.int .u32 1955562222), .lit (.int .u32 2024104815), .lit (.int .u32 2227730452), .lit (.int .u32 2361852424), .lit (.int .u32 2428436474), .lit (.int .u32 2756734187), .lit (.int .u32 3204031479), .lit (.int .u32 3329325298)]
def laid_coffer_disk_ErrCrashed {H : Type} : DataW H := .iface "*errors.errorString" (.ptr (.agg [.lit (.string [116, 104, 101, 32, 109, 97, 99, 104, 105, 110, 101, 32, 115, 116, 111, 112, 112, 101, 100])]))
def laid_coffer_coffer_errTampered {H : Type} : DataW H := .iface "*errors.errorString" (.ptr (.agg [.lit (.string [115, 111, 109, 101, 98, 111, 100, 121, 32, 104, 97, 115, 32, 98, 101, 101, 110, 32, 97, 116, 32, 116, 104, 101, 32, 100, 105, 115, 107])]))
def laid_coffer_cofferref_roots {H : Type} : DataW H := .agg [.lit (.int .u32 1116352408), .lit (.int .u32 1899447441), .lit (.int .u32 3049323471), .lit (.int .u32 3921009573), .lit (.int .u32 961987163), .lit (.int .u32 1508970993), .lit (.int .u32 2453635748), .lit (.int .u32 2870763221), .lit (.int .u32 3624381080), .lit (.int .u32 310598401), .lit (.int .u32 607225278), .lit (.int .u32 1426881987), .lit (.int .u32 1925078388), .lit (.int .u32 2162078206), .lit (.int .u32 2614888103), .lit (.int .u32 3248222580), .lit (.int .u32 3835390401), .lit (.int .u32 4022224774), .lit (.int .u32 264347078), .lit (.int .u32 604807628), .lit (.int .u32 770255983), .lit (.int .u32 1249150122), .lit (.int .u32 1555081692), .lit (.int .u32 1996064986), .lit (.int .u32 2554220882), .lit (.int .u32 2821834349), .lit (.int .u32 2952996808), .lit (.int .u32 3210313671), .lit (.int .u32 3336571891), .lit (.int .u32 3584528711), .lit (.int .u32 113926993), .lit (.int .u32 338241895), .lit (.int .u32 666307205), .lit (.int .u32 773529912), .lit (.int .u32 1294757372), .lit (.int .u32 1396182291), .lit (.int .u32 1695183700), .lit (.int .u32 1986661051), .lit (.int .u32 2177026350), .lit (.int .u32 2456956037), .lit (.int .u32 2730485921), .lit (.int .u32 2820302411), .lit (.int .u32 3259730800), .lit (.int .u32 3345764771), .lit (.int .u32 3516065817), .lit (.int .u32 3600352804), .lit (.int .u32 4094571909), .lit (.int .u32 275423344), .lit (.int .u32 430227734), .lit (.int .u32 506948616), .lit (.int .u32 659060556), .lit (.int .u32 883997877), .lit (.int .u32 958139571), .lit (.int .u32 1322822218), .lit (.int .u32 1537002063), .lit (.int .u32 1747873779), .lit (.int .u32 1955562222), .lit (.int .u32 2024104815), .lit (.int .u32 2227730452), .lit (.int .u32 2361852424), .lit (.int .u32 2428436474), .lit (.int .u32 2756734187), .lit (.int .u32 3204031479), .lit (.int .u32 3329325298)]

/-- 'cofferkeep.Clipped': WHATEVER THE INPUT: true; the input reads as it did. -/
def clippedSpec : ChangeSpec := { name := "clipped", fn := fun _ => fun
  | [d1, d2, d3, d4, d5] => { results := [.lit (.bool true)], args := [d1, d2, d3, d4, d5] }
  | _ => none }
def clippedRow : OpenClaim := { program := "ytjnbhiamaabbgabgreatdoor", sum := "945b15dd4b58a99800349357807bfc3670bfa898a382adb1f1fe0344d93d08be", func := "coffer/cofferkeep.Clipped", spec := "clipped", inPlace := ["internal/abi.NoEscape", "internal/bytealg.MakeNoZero", "(*sync.WaitGroup).Wait", "internal/race.Disable", "sync/atomic.LoadUint64", "internal/race.Enable", "internal/race.Acquire", "internal/synctest.IsAssociated[sync.WaitGroup]", "sync/atomic.CompareAndSwapUint64", "internal/synctest.Disassociate[sync.WaitGroup]", "internal/race.Write", "internal/synctest.IsInBubble", "sync.runtime_SemacquireWaitGroup", "(*sync.WaitGroup).Add", "internal/race.ReleaseMerge", "internal/synctest.Associate[sync.WaitGroup]", "sync.fatal", "sync/atomic.OrUint64", "sync/atomic.AddUint64", "internal/race.Read", "sync/atomic.StoreUint64", "sync.runtime_Semrelease", "(*sync.WaitGroup).Done", "internal/reflectlite.TypeOf", "maps.clone"], unfollowed := true, recurses := true, named := ["coffer/prim.roundWords", "coffer/coffer.errTampered", "coffer/disk.ErrCrashed"], leaving := true, apart := false, laid := [("coffer/prim.roundWords", laid_coffer_prim_roundWords), ("coffer/disk.ErrCrashed", laid_coffer_disk_ErrCrashed), ("coffer/coffer.errTampered", laid_coffer_coffer_errTampered)] }
def ClippedSaid : Prop := clippedRow.holds Tryz.pinned (OpenSpec.ofChange clippedSpec)

/-- ITS FALSE NEIGHBOUR: 'it returns false'. Refute it at one input. -/
def clippedWrong : ChangeSpec := { name := "clipped", fn := fun _ => fun
  | [d1, d2, d3, d4, d5] => { results := [.lit (.bool false)], args := [d1, d2, d3, d4, d5] }
  | _ => none }
def ClippedWrongFalsely : Prop := clippedRow.holds Tryz.pinned (OpenSpec.ofChange clippedWrong)

/-- 'cofferkeep.Strange': WHATEVER THE INPUT: true; the input reads as it did. -/
def strangeSpec : ChangeSpec := { name := "strange", fn := fun _ => fun
  | [d1, d2, d3, d4] => { results := [.lit (.bool true)], args := [d1, d2, d3, d4] }
  | _ => none }
def strangeRow : OpenClaim := { program := "ytjnbhiamaabbgabgreatdoor", sum := "945b15dd4b58a99800349357807bfc3670bfa898a382adb1f1fe0344d93d08be", func := "coffer/cofferkeep.Strange", spec := "strange", inPlace := ["internal/abi.NoEscape", "internal/bytealg.MakeNoZero", "(*sync.WaitGroup).Wait", "internal/race.Disable", "sync/atomic.LoadUint64", "internal/race.Enable", "internal/race.Acquire", "internal/synctest.IsAssociated[sync.WaitGroup]", "sync/atomic.CompareAndSwapUint64", "internal/synctest.Disassociate[sync.WaitGroup]", "internal/race.Write", "internal/synctest.IsInBubble", "sync.runtime_SemacquireWaitGroup", "(*sync.WaitGroup).Add", "internal/race.ReleaseMerge", "internal/synctest.Associate[sync.WaitGroup]", "sync.fatal", "sync/atomic.OrUint64", "sync/atomic.AddUint64", "internal/race.Read", "sync/atomic.StoreUint64", "sync.runtime_Semrelease", "(*sync.WaitGroup).Done", "internal/reflectlite.TypeOf", "maps.clone"], unfollowed := true, recurses := true, named := ["coffer/prim.roundWords", "coffer/coffer.errTampered", "coffer/disk.ErrCrashed"], leaving := true, apart := false, laid := [("coffer/prim.roundWords", laid_coffer_prim_roundWords), ("coffer/disk.ErrCrashed", laid_coffer_disk_ErrCrashed), ("coffer/coffer.errTampered", laid_coffer_coffer_errTampered)] }
def StrangeSaid : Prop := strangeRow.holds Tryz.pinned (OpenSpec.ofChange strangeSpec)

/-- ITS FALSE NEIGHBOUR: 'it returns false'. Refute it at one input. -/
def strangeWrong : ChangeSpec := { name := "strange", fn := fun _ => fun
  | [d1, d2, d3, d4] => { results := [.lit (.bool false)], args := [d1, d2, d3, d4] }
  | _ => none }
def StrangeWrongFalsely : Prop := strangeRow.holds Tryz.pinned (OpenSpec.ofChange strangeWrong)

/-- 'cofferkeep.Compact': WHATEVER THE INPUT: true; the input reads as it did. -/
def compactSpec : ChangeSpec := { name := "compact", fn := fun _ => fun
  | [d1, d2, d3] => { results := [.lit (.bool true)], args := [d1, d2, d3] }
  | _ => none }
def compactRow : OpenClaim := { program := "ytjnbhiamaabbgabgreatdoor", sum := "945b15dd4b58a99800349357807bfc3670bfa898a382adb1f1fe0344d93d08be", func := "coffer/cofferkeep.Compact", spec := "compact", inPlace := ["internal/abi.NoEscape", "internal/bytealg.MakeNoZero", "(*sync.WaitGroup).Wait", "internal/race.Disable", "sync/atomic.LoadUint64", "internal/race.Enable", "internal/race.Acquire", "internal/synctest.IsAssociated[sync.WaitGroup]", "sync/atomic.CompareAndSwapUint64", "internal/synctest.Disassociate[sync.WaitGroup]", "internal/race.Write", "internal/synctest.IsInBubble", "sync.runtime_SemacquireWaitGroup", "(*sync.WaitGroup).Add", "internal/race.ReleaseMerge", "internal/synctest.Associate[sync.WaitGroup]", "sync.fatal", "sync/atomic.OrUint64", "sync/atomic.AddUint64", "internal/race.Read", "sync/atomic.StoreUint64", "sync.runtime_Semrelease", "(*sync.WaitGroup).Done", "internal/reflectlite.TypeOf", "maps.clone"], unfollowed := true, recurses := true, named := ["coffer/prim.roundWords", "coffer/coffer.errTampered", "coffer/disk.ErrCrashed"], leaving := true, apart := false, laid := [("coffer/prim.roundWords", laid_coffer_prim_roundWords), ("coffer/disk.ErrCrashed", laid_coffer_disk_ErrCrashed), ("coffer/coffer.errTampered", laid_coffer_coffer_errTampered)] }
def CompactSaid : Prop := compactRow.holds Tryz.pinned (OpenSpec.ofChange compactSpec)

/-- ITS FALSE NEIGHBOUR: 'it returns false'. Refute it at one input. -/
def compactWrong : ChangeSpec := { name := "compact", fn := fun _ => fun
  | [d1, d2, d3] => { results := [.lit (.bool false)], args := [d1, d2, d3] }
  | _ => none }
def CompactWrongFalsely : Prop := compactRow.holds Tryz.pinned (OpenSpec.ofChange compactWrong)

/-- 'cofferkeep.Shaped': WHATEVER THE INPUT: true; the input reads as it did. -/
def shapedSpec : ChangeSpec := { name := "shaped", fn := fun _ => fun
  | [d1, d2, d3, d4, d5] => { results := [.lit (.bool true)], args := [d1, d2, d3, d4, d5] }
  | _ => none }
def shapedRow : OpenClaim := { program := "ytjnbhiamaabbgabgreatdoor", sum := "945b15dd4b58a99800349357807bfc3670bfa898a382adb1f1fe0344d93d08be", func := "coffer/cofferkeep.Shaped", spec := "shaped", inPlace := ["internal/abi.NoEscape", "internal/bytealg.MakeNoZero", "(*sync.WaitGroup).Wait", "internal/race.Disable", "sync/atomic.LoadUint64", "internal/race.Enable", "internal/race.Acquire", "internal/synctest.IsAssociated[sync.WaitGroup]", "sync/atomic.CompareAndSwapUint64", "internal/synctest.Disassociate[sync.WaitGroup]", "internal/race.Write", "internal/synctest.IsInBubble", "sync.runtime_SemacquireWaitGroup", "(*sync.WaitGroup).Add", "internal/race.ReleaseMerge", "internal/synctest.Associate[sync.WaitGroup]", "sync.fatal", "sync/atomic.OrUint64", "sync/atomic.AddUint64", "internal/race.Read", "sync/atomic.StoreUint64", "sync.runtime_Semrelease", "(*sync.WaitGroup).Done", "internal/reflectlite.TypeOf", "maps.clone"], unfollowed := true, recurses := true, named := ["coffer/prim.roundWords", "coffer/coffer.errTampered", "coffer/disk.ErrCrashed"], leaving := true, apart := false, laid := [("coffer/prim.roundWords", laid_coffer_prim_roundWords), ("coffer/disk.ErrCrashed", laid_coffer_disk_ErrCrashed), ("coffer/coffer.errTampered", laid_coffer_coffer_errTampered)] }
def ShapedSaid : Prop := shapedRow.holds Tryz.pinned (OpenSpec.ofChange shapedSpec)

/-- ITS FALSE NEIGHBOUR: 'it returns false'. Refute it at one input. -/
def shapedWrong : ChangeSpec := { name := "shaped", fn := fun _ => fun
  | [d1, d2, d3, d4, d5] => { results := [.lit (.bool false)], args := [d1, d2, d3, d4, d5] }
  | _ => none }
def ShapedWrongFalsely : Prop := shapedRow.holds Tryz.pinned (OpenSpec.ofChange shapedWrong)

/-- 'cofferkeep.Unrepeated': WHATEVER THE INPUT: true; the input reads as it did. -/
def unrepeatedSpec : ChangeSpec := { name := "unrepeated", fn := fun _ => fun
  | [d1, d2, d3] => { results := [.lit (.bool true)], args := [d1, d2, d3] }
  | _ => none }
def unrepeatedRow : OpenClaim := { program := "ytjnbhiamaabbgabgreatdoor", sum := "945b15dd4b58a99800349357807bfc3670bfa898a382adb1f1fe0344d93d08be", func := "coffer/cofferkeep.Unrepeated", spec := "unrepeated", inPlace := ["internal/abi.NoEscape", "internal/bytealg.MakeNoZero", "(*sync.WaitGroup).Wait", "internal/race.Disable", "sync/atomic.LoadUint64", "internal/race.Enable", "internal/race.Acquire", "internal/synctest.IsAssociated[sync.WaitGroup]", "sync/atomic.CompareAndSwapUint64", "internal/synctest.Disassociate[sync.WaitGroup]", "internal/race.Write", "internal/synctest.IsInBubble", "sync.runtime_SemacquireWaitGroup", "(*sync.WaitGroup).Add", "internal/race.ReleaseMerge", "internal/synctest.Associate[sync.WaitGroup]", "sync.fatal", "sync/atomic.OrUint64", "sync/atomic.AddUint64", "internal/race.Read", "sync/atomic.StoreUint64", "sync.runtime_Semrelease", "(*sync.WaitGroup).Done", "internal/reflectlite.TypeOf"], unfollowed := true, recurses := true, named := ["coffer/prim.roundWords", "coffer/coffer.errTampered", "coffer/disk.ErrCrashed"], leaving := true, apart := false, laid := [("coffer/prim.roundWords", laid_coffer_prim_roundWords), ("coffer/disk.ErrCrashed", laid_coffer_disk_ErrCrashed), ("coffer/coffer.errTampered", laid_coffer_coffer_errTampered)] }
def UnrepeatedSaid : Prop := unrepeatedRow.holds Tryz.pinned (OpenSpec.ofChange unrepeatedSpec)

/-- ITS FALSE NEIGHBOUR: 'it returns false'. Refute it at one input. -/
def unrepeatedWrong : ChangeSpec := { name := "unrepeated", fn := fun _ => fun
  | [d1, d2, d3] => { results := [.lit (.bool false)], args := [d1, d2, d3] }
  | _ => none }
def UnrepeatedWrongFalsely : Prop := unrepeatedRow.holds Tryz.pinned (OpenSpec.ofChange unrepeatedWrong)

/-- 'cofferlaw.All': WHATEVER THE INPUT: true; the input reads as it did. -/
def allSpec : ChangeSpec := { name := "all", fn := fun _ => fun
  | [d1, d2] => { results := [.lit (.bool true)], args := [d1, d2] }
  | _ => none }
def allRow : OpenClaim := { program := "ytjnbhiamaabbgabgreatdoor", sum := "945b15dd4b58a99800349357807bfc3670bfa898a382adb1f1fe0344d93d08be", func := "coffer/cofferlaw.All", spec := "all", inPlace := ["internal/abi.NoEscape", "internal/bytealg.MakeNoZero", "(*sync.WaitGroup).Wait", "internal/race.Disable", "sync/atomic.LoadUint64", "internal/race.Enable", "internal/race.Acquire", "internal/synctest.IsAssociated[sync.WaitGroup]", "sync/atomic.CompareAndSwapUint64", "internal/synctest.Disassociate[sync.WaitGroup]", "internal/race.Write", "internal/synctest.IsInBubble", "sync.runtime_SemacquireWaitGroup", "(*sync.WaitGroup).Add", "internal/race.ReleaseMerge", "internal/synctest.Associate[sync.WaitGroup]", "sync.fatal", "sync/atomic.OrUint64", "sync/atomic.AddUint64", "internal/race.Read", "sync/atomic.StoreUint64", "sync.runtime_Semrelease", "(*sync.WaitGroup).Done", "internal/reflectlite.TypeOf", "maps.clone"], unfollowed := true, recurses := true, named := ["coffer/prim.roundWords", "coffer/coffer.errTampered", "coffer/disk.ErrCrashed", "coffer/cofferref.roots"], leaving := true, apart := false, laid := [("coffer/cofferref.roots", laid_coffer_cofferref_roots), ("coffer/prim.roundWords", laid_coffer_prim_roundWords), ("coffer/disk.ErrCrashed", laid_coffer_disk_ErrCrashed), ("coffer/coffer.errTampered", laid_coffer_coffer_errTampered)] }
def AllSaid : Prop := allRow.holds Tryz.pinned (OpenSpec.ofChange allSpec)

/-- ITS FALSE NEIGHBOUR: 'it returns false'. Refute it at one input. -/
def allWrong : ChangeSpec := { name := "all", fn := fun _ => fun
  | [d1, d2] => { results := [.lit (.bool false)], args := [d1, d2] }
  | _ => none }
def AllWrongFalsely : Prop := allRow.holds Tryz.pinned (OpenSpec.ofChange allWrong)

/- THE SECOND FORM. 'bulk': how many values and letters a reading holds, each counted each time it is reached (what is shared counts as often as it is met; a slice's spare places count too). A statement '..UptoSaid' is the law's where the arguments, and the package variables that the reading takes, are together of bulk at most 1048576: NARROWER than '..Said'. Prove '..Said' where nothing that the law and all that it calls make is longer than what came in: it says more and counts as full. Else prove '..UptoSaid'. A law counts once. -/
mutual
def uptoBulk {H : Type} : DataW H → Nat
  | .lit (.string bytes) => bytes.length + 1
  | .lit _ => 1
  | .nil => 1
  | .ptr d => uptoBulk d + 1
  | .slice elems spare => uptoBulkAll elems + uptoBulkAll spare + 1
  | .agg parts => uptoBulkAll parts + 1
  | .iface _ d => uptoBulk d + 1
  | .map entries => uptoBulkEntries entries + 1
  | .held _ => 1
def uptoBulkAll {H : Type} : List (DataW H) → Nat
  | [] => 0
  | d :: r => uptoBulk d + uptoBulkAll r
def uptoBulkEntries {H : Type} : List (Lit × DataW H) → Nat
  | [] => 0
  | x :: r => uptoBulkEntry x + uptoBulkEntries r
def uptoBulkEntry {H : Type} : Lit × DataW H → Nat
  | (.string bytes, d) => bytes.length + uptoBulk d + 1
  | (_, d) => uptoBulk d + 1
 end
def uptoSmall : (H : Type) → List (DataW H) → Bool := fun _ ds => decide (uptoBulkAll ds ≤ 1048576)
def OpenSpec.upto (s : _root_.Go.ChangeSpec) : _root_.Go.OpenSpec := { _root_.Go.OpenSpec.ofChange s with cond := some uptoSmall }

/-- 'cofferkeep.Clipped', WHERE WHAT IT READS IS OF BULK AT MOST 1048576: true; the input reads as it did. -/
def clippedUptoRow : OpenClaim := { program := "ytjnbhiamaabbgabgreatdoor", sum := "945b15dd4b58a99800349357807bfc3670bfa898a382adb1f1fe0344d93d08be", func := "coffer/cofferkeep.Clipped", spec := "clipped", inPlace := ["internal/abi.NoEscape", "internal/bytealg.MakeNoZero", "(*sync.WaitGroup).Wait", "internal/race.Disable", "sync/atomic.LoadUint64", "internal/race.Enable", "internal/race.Acquire", "internal/synctest.IsAssociated[sync.WaitGroup]", "sync/atomic.CompareAndSwapUint64", "internal/synctest.Disassociate[sync.WaitGroup]", "internal/race.Write", "internal/synctest.IsInBubble", "sync.runtime_SemacquireWaitGroup", "(*sync.WaitGroup).Add", "internal/race.ReleaseMerge", "internal/synctest.Associate[sync.WaitGroup]", "sync.fatal", "sync/atomic.OrUint64", "sync/atomic.AddUint64", "internal/race.Read", "sync/atomic.StoreUint64", "sync.runtime_Semrelease", "(*sync.WaitGroup).Done", "internal/reflectlite.TypeOf", "maps.clone"], unfollowed := true, recurses := true, named := ["coffer/prim.roundWords", "coffer/coffer.errTampered", "coffer/disk.ErrCrashed"], leaving := true, apart := false, laid := [("coffer/prim.roundWords", laid_coffer_prim_roundWords), ("coffer/disk.ErrCrashed", laid_coffer_disk_ErrCrashed), ("coffer/coffer.errTampered", laid_coffer_coffer_errTampered)], narrowed := true }
def ClippedUptoSaid : Prop := clippedUptoRow.holds Tryz.pinned (OpenSpec.upto clippedSpec)

/-- 'cofferkeep.Strange', WHERE WHAT IT READS IS OF BULK AT MOST 1048576: true; the input reads as it did. -/
def strangeUptoRow : OpenClaim := { program := "ytjnbhiamaabbgabgreatdoor", sum := "945b15dd4b58a99800349357807bfc3670bfa898a382adb1f1fe0344d93d08be", func := "coffer/cofferkeep.Strange", spec := "strange", inPlace := ["internal/abi.NoEscape", "internal/bytealg.MakeNoZero", "(*sync.WaitGroup).Wait", "internal/race.Disable", "sync/atomic.LoadUint64", "internal/race.Enable", "internal/race.Acquire", "internal/synctest.IsAssociated[sync.WaitGroup]", "sync/atomic.CompareAndSwapUint64", "internal/synctest.Disassociate[sync.WaitGroup]", "internal/race.Write", "internal/synctest.IsInBubble", "sync.runtime_SemacquireWaitGroup", "(*sync.WaitGroup).Add", "internal/race.ReleaseMerge", "internal/synctest.Associate[sync.WaitGroup]", "sync.fatal", "sync/atomic.OrUint64", "sync/atomic.AddUint64", "internal/race.Read", "sync/atomic.StoreUint64", "sync.runtime_Semrelease", "(*sync.WaitGroup).Done", "internal/reflectlite.TypeOf", "maps.clone"], unfollowed := true, recurses := true, named := ["coffer/prim.roundWords", "coffer/coffer.errTampered", "coffer/disk.ErrCrashed"], leaving := true, apart := false, laid := [("coffer/prim.roundWords", laid_coffer_prim_roundWords), ("coffer/disk.ErrCrashed", laid_coffer_disk_ErrCrashed), ("coffer/coffer.errTampered", laid_coffer_coffer_errTampered)], narrowed := true }
def StrangeUptoSaid : Prop := strangeUptoRow.holds Tryz.pinned (OpenSpec.upto strangeSpec)

/-- 'cofferkeep.Compact', WHERE WHAT IT READS IS OF BULK AT MOST 1048576: true; the input reads as it did. -/
def compactUptoRow : OpenClaim := { program := "ytjnbhiamaabbgabgreatdoor", sum := "945b15dd4b58a99800349357807bfc3670bfa898a382adb1f1fe0344d93d08be", func := "coffer/cofferkeep.Compact", spec := "compact", inPlace := ["internal/abi.NoEscape", "internal/bytealg.MakeNoZero", "(*sync.WaitGroup).Wait", "internal/race.Disable", "sync/atomic.LoadUint64", "internal/race.Enable", "internal/race.Acquire", "internal/synctest.IsAssociated[sync.WaitGroup]", "sync/atomic.CompareAndSwapUint64", "internal/synctest.Disassociate[sync.WaitGroup]", "internal/race.Write", "internal/synctest.IsInBubble", "sync.runtime_SemacquireWaitGroup", "(*sync.WaitGroup).Add", "internal/race.ReleaseMerge", "internal/synctest.Associate[sync.WaitGroup]", "sync.fatal", "sync/atomic.OrUint64", "sync/atomic.AddUint64", "internal/race.Read", "sync/atomic.StoreUint64", "sync.runtime_Semrelease", "(*sync.WaitGroup).Done", "internal/reflectlite.TypeOf", "maps.clone"], unfollowed := true, recurses := true, named := ["coffer/prim.roundWords", "coffer/coffer.errTampered", "coffer/disk.ErrCrashed"], leaving := true, apart := false, laid := [("coffer/prim.roundWords", laid_coffer_prim_roundWords), ("coffer/disk.ErrCrashed", laid_coffer_disk_ErrCrashed), ("coffer/coffer.errTampered", laid_coffer_coffer_errTampered)], narrowed := true }
def CompactUptoSaid : Prop := compactUptoRow.holds Tryz.pinned (OpenSpec.upto compactSpec)

/-- 'cofferkeep.Shaped', WHERE WHAT IT READS IS OF BULK AT MOST 1048576: true; the input reads as it did. -/
def shapedUptoRow : OpenClaim := { program := "ytjnbhiamaabbgabgreatdoor", sum := "945b15dd4b58a99800349357807bfc3670bfa898a382adb1f1fe0344d93d08be", func := "coffer/cofferkeep.Shaped", spec := "shaped", inPlace := ["internal/abi.NoEscape", "internal/bytealg.MakeNoZero", "(*sync.WaitGroup).Wait", "internal/race.Disable", "sync/atomic.LoadUint64", "internal/race.Enable", "internal/race.Acquire", "internal/synctest.IsAssociated[sync.WaitGroup]", "sync/atomic.CompareAndSwapUint64", "internal/synctest.Disassociate[sync.WaitGroup]", "internal/race.Write", "internal/synctest.IsInBubble", "sync.runtime_SemacquireWaitGroup", "(*sync.WaitGroup).Add", "internal/race.ReleaseMerge", "internal/synctest.Associate[sync.WaitGroup]", "sync.fatal", "sync/atomic.OrUint64", "sync/atomic.AddUint64", "internal/race.Read", "sync/atomic.StoreUint64", "sync.runtime_Semrelease", "(*sync.WaitGroup).Done", "internal/reflectlite.TypeOf", "maps.clone"], unfollowed := true, recurses := true, named := ["coffer/prim.roundWords", "coffer/coffer.errTampered", "coffer/disk.ErrCrashed"], leaving := true, apart := false, laid := [("coffer/prim.roundWords", laid_coffer_prim_roundWords), ("coffer/disk.ErrCrashed", laid_coffer_disk_ErrCrashed), ("coffer/coffer.errTampered", laid_coffer_coffer_errTampered)], narrowed := true }
def ShapedUptoSaid : Prop := shapedUptoRow.holds Tryz.pinned (OpenSpec.upto shapedSpec)

/-- 'cofferkeep.Unrepeated', WHERE WHAT IT READS IS OF BULK AT MOST 1048576: true; the input reads as it did. -/
def unrepeatedUptoRow : OpenClaim := { program := "ytjnbhiamaabbgabgreatdoor", sum := "945b15dd4b58a99800349357807bfc3670bfa898a382adb1f1fe0344d93d08be", func := "coffer/cofferkeep.Unrepeated", spec := "unrepeated", inPlace := ["internal/abi.NoEscape", "internal/bytealg.MakeNoZero", "(*sync.WaitGroup).Wait", "internal/race.Disable", "sync/atomic.LoadUint64", "internal/race.Enable", "internal/race.Acquire", "internal/synctest.IsAssociated[sync.WaitGroup]", "sync/atomic.CompareAndSwapUint64", "internal/synctest.Disassociate[sync.WaitGroup]", "internal/race.Write", "internal/synctest.IsInBubble", "sync.runtime_SemacquireWaitGroup", "(*sync.WaitGroup).Add", "internal/race.ReleaseMerge", "internal/synctest.Associate[sync.WaitGroup]", "sync.fatal", "sync/atomic.OrUint64", "sync/atomic.AddUint64", "internal/race.Read", "sync/atomic.StoreUint64", "sync.runtime_Semrelease", "(*sync.WaitGroup).Done", "internal/reflectlite.TypeOf"], unfollowed := true, recurses := true, named := ["coffer/prim.roundWords", "coffer/coffer.errTampered", "coffer/disk.ErrCrashed"], leaving := true, apart := false, laid := [("coffer/prim.roundWords", laid_coffer_prim_roundWords), ("coffer/disk.ErrCrashed", laid_coffer_disk_ErrCrashed), ("coffer/coffer.errTampered", laid_coffer_coffer_errTampered)], narrowed := true }
def UnrepeatedUptoSaid : Prop := unrepeatedUptoRow.holds Tryz.pinned (OpenSpec.upto unrepeatedSpec)

/-- 'cofferlaw.All', WHERE WHAT IT READS IS OF BULK AT MOST 1048576: true; the input reads as it did. -/
def allUptoRow : OpenClaim := { program := "ytjnbhiamaabbgabgreatdoor", sum := "945b15dd4b58a99800349357807bfc3670bfa898a382adb1f1fe0344d93d08be", func := "coffer/cofferlaw.All", spec := "all", inPlace := ["internal/abi.NoEscape", "internal/bytealg.MakeNoZero", "(*sync.WaitGroup).Wait", "internal/race.Disable", "sync/atomic.LoadUint64", "internal/race.Enable", "internal/race.Acquire", "internal/synctest.IsAssociated[sync.WaitGroup]", "sync/atomic.CompareAndSwapUint64", "internal/synctest.Disassociate[sync.WaitGroup]", "internal/race.Write", "internal/synctest.IsInBubble", "sync.runtime_SemacquireWaitGroup", "(*sync.WaitGroup).Add", "internal/race.ReleaseMerge", "internal/synctest.Associate[sync.WaitGroup]", "sync.fatal", "sync/atomic.OrUint64", "sync/atomic.AddUint64", "internal/race.Read", "sync/atomic.StoreUint64", "sync.runtime_Semrelease", "(*sync.WaitGroup).Done", "internal/reflectlite.TypeOf", "maps.clone"], unfollowed := true, recurses := true, named := ["coffer/prim.roundWords", "coffer/coffer.errTampered", "coffer/disk.ErrCrashed", "coffer/cofferref.roots"], leaving := true, apart := false, laid := [("coffer/cofferref.roots", laid_coffer_cofferref_roots), ("coffer/prim.roundWords", laid_coffer_prim_roundWords), ("coffer/disk.ErrCrashed", laid_coffer_disk_ErrCrashed), ("coffer/coffer.errTampered", laid_coffer_coffer_errTampered)], narrowed := true }
def AllUptoSaid : Prop := allUptoRow.holds Tryz.pinned (OpenSpec.upto allSpec)

end Rows
end Go.Proofs.YtjnbhiamaabbgabGreatDoor
