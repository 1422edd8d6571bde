/-
  No cell of these rows narrows 'for every input' (looked for: loops, veiled, ifaces, maps, wideKeys, modest, calm, conditions, laid).
  DERIVED. THE GIVEN ROWS OF THIS SEAT. 12 by the template 'for every input the law returns true; each argument reads behind the call as it read before'; 0 by the template 'total and deterministic' (their statements: YtiefgfbeemlnjaaTotals.lean).
  GIVEN WITH THE SEED: the statements are not yours to turn. If you find one false, say at which input.
  Laid BY PROGRAM, IN A SANDBOX (cutbox-rows.mjs): the forced cells as the released guide's own fill.sh prints them over the translation 6d614420c9c6d089… (all of the seat's roots in one cut). By AI agents, Wed Nov 11 2026. No macro, syntax, notation, axiom, sorry.
-/
import Derived.Test.YtiefgfbeemlnjaaChecked
import GoSem.Claim
import GoSem.ClaimJoined
import GoSem.ClaimMapViews
import Derived.JoinedTies
import Derived.KernelRfl
namespace Go.Proofs.Ytiefgfbeemlnjaa
/- THE CELL 'sum', in the pinned program and in every row, IS THE sha256 OF THE DUMP (.gsa) THAT YtiefgfbeemlnjaaProg.lean LOADS. Nothing in Lean hashes anything: it is a label: what it is worth is what the hold of that sum in a sandbox is worth. -/
noncomputable def Try.pinned : Pinned := { name := "ytiefgfbeemlnjaa", sum := "6d614420c9c6d089ae660102963a9fdf46f0cb17b38c996d4f84add3fb11479d", checked := Try.checked }
namespace Rows
def none {H : Type} : Left H := { results := [], args := [] }

/-- 'undercroftlaw16.IlogScans': WHATEVER THE INPUT: true; the input reads as it did. -/
def ilogScansSpec : ChangeSpec := { name := "ilogScans", fn := fun _ => fun
  | [d1, d2, d3] => { results := [.lit (.bool true)], args := [d1, d2, d3] }
  | _ => none }
def ilogScansRow : OpenClaim := { program := "ytiefgfbeemlnjaa", sum := "6d614420c9c6d089ae660102963a9fdf46f0cb17b38c996d4f84add3fb11479d", func := "undercroft/undercroftlaw16.IlogScans", spec := "ilogScans", apart := false }
def IlogScansSaid : Prop := ilogScansRow.holds Try.pinned (OpenSpec.ofChange ilogScansSpec)

/-- ITS FALSE NEIGHBOUR: 'it returns false'. Refute it at one input. -/
def ilogScansWrong : ChangeSpec := { name := "ilogScans", fn := fun _ => fun
  | [d1, d2, d3] => { results := [.lit (.bool false)], args := [d1, d2, d3] }
  | _ => none }
def IlogScansWrongFalsely : Prop := ilogScansRow.holds Try.pinned (OpenSpec.ofChange ilogScansWrong)

/-- 'undercroftlaw16.IlogBack': WHATEVER THE INPUT: true; the input reads as it did. -/
def ilogBackSpec : ChangeSpec := { name := "ilogBack", fn := fun _ => fun
  | [d1, d2, d3] => { results := [.lit (.bool true)], args := [d1, d2, d3] }
  | _ => none }
def ilogBackRow : OpenClaim := { program := "ytiefgfbeemlnjaa", sum := "6d614420c9c6d089ae660102963a9fdf46f0cb17b38c996d4f84add3fb11479d", func := "undercroft/undercroftlaw16.IlogBack", spec := "ilogBack", apart := false }
def IlogBackSaid : Prop := ilogBackRow.holds Try.pinned (OpenSpec.ofChange ilogBackSpec)

/-- ITS FALSE NEIGHBOUR: 'it returns false'. Refute it at one input. -/
def ilogBackWrong : ChangeSpec := { name := "ilogBack", fn := fun _ => fun
  | [d1, d2, d3] => { results := [.lit (.bool false)], args := [d1, d2, d3] }
  | _ => none }
def IlogBackWrongFalsely : Prop := ilogBackRow.holds Try.pinned (OpenSpec.ofChange ilogBackWrong)

/-- 'undercroftlaw16.IlogTorn': WHATEVER THE INPUT: true; the input reads as it did. -/
def ilogTornSpec : ChangeSpec := { name := "ilogTorn", fn := fun _ => fun
  | [d1, d2, d3, d4] => { results := [.lit (.bool true)], args := [d1, d2, d3, d4] }
  | _ => none }
def ilogTornRow : OpenClaim := { program := "ytiefgfbeemlnjaa", sum := "6d614420c9c6d089ae660102963a9fdf46f0cb17b38c996d4f84add3fb11479d", func := "undercroft/undercroftlaw16.IlogTorn", spec := "ilogTorn", apart := false }
def IlogTornSaid : Prop := ilogTornRow.holds Try.pinned (OpenSpec.ofChange ilogTornSpec)

/-- ITS FALSE NEIGHBOUR: 'it returns false'. Refute it at one input. -/
def ilogTornWrong : ChangeSpec := { name := "ilogTorn", fn := fun _ => fun
  | [d1, d2, d3, d4] => { results := [.lit (.bool false)], args := [d1, d2, d3, d4] }
  | _ => none }
def IlogTornWrongFalsely : Prop := ilogTornRow.holds Try.pinned (OpenSpec.ofChange ilogTornWrong)

/-- 'undercroftlaw09.RangesMany': WHATEVER THE INPUT: true; the input reads as it did. -/
def rangesManySpec : ChangeSpec := { name := "rangesMany", fn := fun _ => fun
  | [d1, d2] => { results := [.lit (.bool true)], args := [d1, d2] }
  | _ => none }
def rangesManyRow : OpenClaim := { program := "ytiefgfbeemlnjaa", sum := "6d614420c9c6d089ae660102963a9fdf46f0cb17b38c996d4f84add3fb11479d", func := "undercroft/undercroftlaw09.RangesMany", spec := "rangesMany", inPlace := ["slices.overlaps[undercroft/api.Span]"], unfollowed := true, recurses := true, apart := false }
def RangesManySaid : Prop := rangesManyRow.holds Try.pinned (OpenSpec.ofChange rangesManySpec)

/-- ITS FALSE NEIGHBOUR: 'it returns false'. Refute it at one input. -/
def rangesManyWrong : ChangeSpec := { name := "rangesMany", fn := fun _ => fun
  | [d1, d2] => { results := [.lit (.bool false)], args := [d1, d2] }
  | _ => none }
def RangesManyWrongFalsely : Prop := rangesManyRow.holds Try.pinned (OpenSpec.ofChange rangesManyWrong)

/-- 'undercroftlaw09.RangesOrder': WHATEVER THE INPUT: true; the input reads as it did. -/
def rangesOrderSpec : ChangeSpec := { name := "rangesOrder", fn := fun _ => fun
  | [d1, d2, d3, d4] => { results := [.lit (.bool true)], args := [d1, d2, d3, d4] }
  | _ => none }
def rangesOrderRow : OpenClaim := { program := "ytiefgfbeemlnjaa", sum := "6d614420c9c6d089ae660102963a9fdf46f0cb17b38c996d4f84add3fb11479d", func := "undercroft/undercroftlaw09.RangesOrder", spec := "rangesOrder", inPlace := ["slices.overlaps[undercroft/api.Span]"], unfollowed := true, recurses := true, apart := false }
def RangesOrderSaid : Prop := rangesOrderRow.holds Try.pinned (OpenSpec.ofChange rangesOrderSpec)

/-- ITS FALSE NEIGHBOUR: 'it returns false'. Refute it at one input. -/
def rangesOrderWrong : ChangeSpec := { name := "rangesOrder", fn := fun _ => fun
  | [d1, d2, d3, d4] => { results := [.lit (.bool false)], args := [d1, d2, d3, d4] }
  | _ => none }
def RangesOrderWrongFalsely : Prop := rangesOrderRow.holds Try.pinned (OpenSpec.ofChange rangesOrderWrong)

/-- 'undercroftlaw09.RangesDoes': WHATEVER THE INPUT: true; the input reads as it did. -/
def rangesDoesSpec : ChangeSpec := { name := "rangesDoes", fn := fun _ => fun
  | [d] => { results := [.lit (.bool true)], args := [d] }
  | _ => none }
def rangesDoesRow : OpenClaim := { program := "ytiefgfbeemlnjaa", sum := "6d614420c9c6d089ae660102963a9fdf46f0cb17b38c996d4f84add3fb11479d", func := "undercroft/undercroftlaw09.RangesDoes", spec := "rangesDoes", inPlace := ["slices.overlaps[undercroft/api.Span]"], unfollowed := true, recurses := true, apart := false }
def RangesDoesSaid : Prop := rangesDoesRow.holds Try.pinned (OpenSpec.ofChange rangesDoesSpec)

/-- ITS FALSE NEIGHBOUR: 'it returns false'. Refute it at one input. -/
def rangesDoesWrong : ChangeSpec := { name := "rangesDoes", fn := fun _ => fun
  | [d] => { results := [.lit (.bool false)], args := [d] }
  | _ => none }
def RangesDoesWrongFalsely : Prop := rangesDoesRow.holds Try.pinned (OpenSpec.ofChange rangesDoesWrong)

/-- 'undercroftlaw24.SessionOnce': WHATEVER THE INPUT: true; the input reads as it did. -/
def sessionOnceSpec : ChangeSpec := { name := "sessionOnce", fn := fun _ => fun
  | [d] => { results := [.lit (.bool true)], args := [d] }
  | _ => none }
def sessionOnceRow : OpenClaim := { program := "ytiefgfbeemlnjaa", sum := "6d614420c9c6d089ae660102963a9fdf46f0cb17b38c996d4f84add3fb11479d", func := "undercroft/undercroftlaw24.SessionOnce", spec := "sessionOnce", inPlace := ["sync/atomic.LoadUint32", "(*internal/sync.Mutex).Lock", "internal/race.Disable", "sync/atomic.CompareAndSwapInt32", "internal/race.Enable", "internal/race.Acquire", "(*internal/sync.Mutex).lockSlow", "internal/sync.runtime_canSpin", "internal/sync.runtime_doSpin", "internal/sync.throw", "internal/sync.runtime_nanotime", "internal/sync.runtime_SemacquireMutex", "sync/atomic.AddInt32", "(*internal/sync.Mutex).Unlock", "internal/race.ReleaseMerge", "(*internal/sync.Mutex).unlockSlow", "internal/sync.fatal", "internal/sync.runtime_Semrelease", "sync/atomic.StoreUint32", "sync/atomic.AddInt64", "sync/atomic.LoadInt64"], unfollowed := true, recurses := true, apart := false }
def SessionOnceSaid : Prop := sessionOnceRow.holds Try.pinned (OpenSpec.ofChange sessionOnceSpec)

/-- ITS FALSE NEIGHBOUR: 'it returns false'. Refute it at one input. -/
def sessionOnceWrong : ChangeSpec := { name := "sessionOnce", fn := fun _ => fun
  | [d] => { results := [.lit (.bool false)], args := [d] }
  | _ => none }
def SessionOnceWrongFalsely : Prop := sessionOnceRow.holds Try.pinned (OpenSpec.ofChange sessionOnceWrong)

/-- 'undercroftlaw24.SessionApart': WHATEVER THE INPUT: true; the input reads as it did. -/
def sessionApartSpec : ChangeSpec := { name := "sessionApart", fn := fun _ => fun
  | [d1, d2] => { results := [.lit (.bool true)], args := [d1, d2] }
  | _ => none }
def sessionApartRow : OpenClaim := { program := "ytiefgfbeemlnjaa", sum := "6d614420c9c6d089ae660102963a9fdf46f0cb17b38c996d4f84add3fb11479d", func := "undercroft/undercroftlaw24.SessionApart", spec := "sessionApart", inPlace := ["sync/atomic.LoadUint32", "(*internal/sync.Mutex).Lock", "internal/race.Disable", "sync/atomic.CompareAndSwapInt32", "internal/race.Enable", "internal/race.Acquire", "(*internal/sync.Mutex).lockSlow", "internal/sync.runtime_canSpin", "internal/sync.runtime_doSpin", "internal/sync.throw", "internal/sync.runtime_nanotime", "internal/sync.runtime_SemacquireMutex", "sync/atomic.AddInt32", "(*internal/sync.Mutex).Unlock", "internal/race.ReleaseMerge", "(*internal/sync.Mutex).unlockSlow", "internal/sync.fatal", "internal/sync.runtime_Semrelease", "sync/atomic.StoreUint32", "sync/atomic.AddInt64", "sync/atomic.LoadInt64"], unfollowed := true, recurses := true, apart := false }
def SessionApartSaid : Prop := sessionApartRow.holds Try.pinned (OpenSpec.ofChange sessionApartSpec)

/-- ITS FALSE NEIGHBOUR: 'it returns false'. Refute it at one input. -/
def sessionApartWrong : ChangeSpec := { name := "sessionApart", fn := fun _ => fun
  | [d1, d2] => { results := [.lit (.bool false)], args := [d1, d2] }
  | _ => none }
def SessionApartWrongFalsely : Prop := sessionApartRow.holds Try.pinned (OpenSpec.ofChange sessionApartWrong)

/-- 'undercroftlaw24.SessionDoes': WHATEVER THE INPUT: true; the input reads as it did. -/
def sessionDoesSpec : ChangeSpec := { name := "sessionDoes", fn := fun _ => fun
  | [d] => { results := [.lit (.bool true)], args := [d] }
  | _ => none }
def sessionDoesRow : OpenClaim := { program := "ytiefgfbeemlnjaa", sum := "6d614420c9c6d089ae660102963a9fdf46f0cb17b38c996d4f84add3fb11479d", func := "undercroft/undercroftlaw24.SessionDoes", spec := "sessionDoes", inPlace := ["sync/atomic.LoadUint32", "(*internal/sync.Mutex).Lock", "internal/race.Disable", "sync/atomic.CompareAndSwapInt32", "internal/race.Enable", "internal/race.Acquire", "(*internal/sync.Mutex).lockSlow", "internal/sync.runtime_canSpin", "internal/sync.runtime_doSpin", "internal/sync.throw", "internal/sync.runtime_nanotime", "internal/sync.runtime_SemacquireMutex", "sync/atomic.AddInt32", "(*internal/sync.Mutex).Unlock", "internal/race.ReleaseMerge", "(*internal/sync.Mutex).unlockSlow", "internal/sync.fatal", "internal/sync.runtime_Semrelease", "sync/atomic.StoreUint32", "sync/atomic.AddInt64", "sync/atomic.LoadInt64", "sync/atomic.StoreInt64"], unfollowed := true, recurses := true, apart := false }
def SessionDoesSaid : Prop := sessionDoesRow.holds Try.pinned (OpenSpec.ofChange sessionDoesSpec)

/-- ITS FALSE NEIGHBOUR: 'it returns false'. Refute it at one input. -/
def sessionDoesWrong : ChangeSpec := { name := "sessionDoes", fn := fun _ => fun
  | [d] => { results := [.lit (.bool false)], args := [d] }
  | _ => none }
def SessionDoesWrongFalsely : Prop := sessionDoesRow.holds Try.pinned (OpenSpec.ofChange sessionDoesWrong)

/-- 'undercroftlaw03.DiskCut': WHATEVER THE INPUT: true; the input reads as it did. -/
def diskCutSpec : ChangeSpec := { name := "diskCut", fn := fun _ => fun
  | [d1, d2, d3] => { results := [.lit (.bool true)], args := [d1, d2, d3] }
  | _ => none }
def diskCutRow : OpenClaim := { program := "ytiefgfbeemlnjaa", sum := "6d614420c9c6d089ae660102963a9fdf46f0cb17b38c996d4f84add3fb11479d", func := "undercroft/undercroftlaw03.DiskCut", spec := "diskCut", unfollowed := true, recurses := true, apart := false }
def DiskCutSaid : Prop := diskCutRow.holds Try.pinned (OpenSpec.ofChange diskCutSpec)

/-- ITS FALSE NEIGHBOUR: 'it returns false'. Refute it at one input. -/
def diskCutWrong : ChangeSpec := { name := "diskCut", fn := fun _ => fun
  | [d1, d2, d3] => { results := [.lit (.bool false)], args := [d1, d2, d3] }
  | _ => none }
def DiskCutWrongFalsely : Prop := diskCutRow.holds Try.pinned (OpenSpec.ofChange diskCutWrong)

/-- 'undercroftlaw03.DiskCrash': WHATEVER THE INPUT: true; the input reads as it did. -/
def diskCrashSpec : ChangeSpec := { name := "diskCrash", fn := fun _ => fun
  | [d1, d2, d3] => { results := [.lit (.bool true)], args := [d1, d2, d3] }
  | _ => none }
def diskCrashRow : OpenClaim := { program := "ytiefgfbeemlnjaa", sum := "6d614420c9c6d089ae660102963a9fdf46f0cb17b38c996d4f84add3fb11479d", func := "undercroft/undercroftlaw03.DiskCrash", spec := "diskCrash", unfollowed := true, recurses := true, apart := false }
def DiskCrashSaid : Prop := diskCrashRow.holds Try.pinned (OpenSpec.ofChange diskCrashSpec)

/-- ITS FALSE NEIGHBOUR: 'it returns false'. Refute it at one input. -/
def diskCrashWrong : ChangeSpec := { name := "diskCrash", fn := fun _ => fun
  | [d1, d2, d3] => { results := [.lit (.bool false)], args := [d1, d2, d3] }
  | _ => none }
def DiskCrashWrongFalsely : Prop := diskCrashRow.holds Try.pinned (OpenSpec.ofChange diskCrashWrong)

/-- 'undercroftlaw03.DiskApart': WHATEVER THE INPUT: true; the input reads as it did. -/
def diskApartSpec : ChangeSpec := { name := "diskApart", fn := fun _ => fun
  | [d1, d2, d3, d4] => { results := [.lit (.bool true)], args := [d1, d2, d3, d4] }
  | _ => none }
def diskApartRow : OpenClaim := { program := "ytiefgfbeemlnjaa", sum := "6d614420c9c6d089ae660102963a9fdf46f0cb17b38c996d4f84add3fb11479d", func := "undercroft/undercroftlaw03.DiskApart", spec := "diskApart", unfollowed := true, recurses := true, apart := false }
def DiskApartSaid : Prop := diskApartRow.holds Try.pinned (OpenSpec.ofChange diskApartSpec)

/-- ITS FALSE NEIGHBOUR: 'it returns false'. Refute it at one input. -/
def diskApartWrong : ChangeSpec := { name := "diskApart", fn := fun _ => fun
  | [d1, d2, d3, d4] => { results := [.lit (.bool false)], args := [d1, d2, d3, d4] }
  | _ => none }
def DiskApartWrongFalsely : Prop := diskApartRow.holds Try.pinned (OpenSpec.ofChange diskApartWrong)

/- THE SECOND FORM. 'bulk': how many values and letters a reading holds, each counted each time it is reached (what is shared counts as often as it is met; a slice's spare places count too). A statement '..UptoSaid' is the law's where the arguments, and the package variables that the reading takes, are together of bulk at most 1048576: NARROWER than '..Said'. Prove '..Said' where nothing that the law and all that it calls make is longer than what came in: it says more and counts as full. Else prove '..UptoSaid'. A law counts once. -/
mutual
def uptoBulk {H : Type} : DataW H → Nat
  | .lit (.string bytes) => bytes.length + 1
  | .lit _ => 1
  | .nil => 1
  | .ptr d => uptoBulk d + 1
  | .slice elems spare => uptoBulkAll elems + uptoBulkAll spare + 1
  | .agg parts => uptoBulkAll parts + 1
  | .iface _ d => uptoBulk d + 1
  | .map entries => uptoBulkEntries entries + 1
  | .held _ => 1
def uptoBulkAll {H : Type} : List (DataW H) → Nat
  | [] => 0
  | d :: r => uptoBulk d + uptoBulkAll r
def uptoBulkEntries {H : Type} : List (Lit × DataW H) → Nat
  | [] => 0
  | x :: r => uptoBulkEntry x + uptoBulkEntries r
def uptoBulkEntry {H : Type} : Lit × DataW H → Nat
  | (.string bytes, d) => bytes.length + uptoBulk d + 1
  | (_, d) => uptoBulk d + 1
 end
def uptoSmall : (H : Type) → List (DataW H) → Bool := fun _ ds => decide (uptoBulkAll ds ≤ 1048576)
def OpenSpec.upto (s : _root_.Go.ChangeSpec) : _root_.Go.OpenSpec := { _root_.Go.OpenSpec.ofChange s with cond := some uptoSmall }

/-- 'undercroftlaw16.IlogScans', WHERE WHAT IT READS IS OF BULK AT MOST 1048576: true; the input reads as it did. -/
def ilogScansUptoRow : OpenClaim := { program := "ytiefgfbeemlnjaa", sum := "6d614420c9c6d089ae660102963a9fdf46f0cb17b38c996d4f84add3fb11479d", func := "undercroft/undercroftlaw16.IlogScans", spec := "ilogScans", apart := false, narrowed := true }
def IlogScansUptoSaid : Prop := ilogScansUptoRow.holds Try.pinned (OpenSpec.upto ilogScansSpec)

/-- 'undercroftlaw16.IlogBack', WHERE WHAT IT READS IS OF BULK AT MOST 1048576: true; the input reads as it did. -/
def ilogBackUptoRow : OpenClaim := { program := "ytiefgfbeemlnjaa", sum := "6d614420c9c6d089ae660102963a9fdf46f0cb17b38c996d4f84add3fb11479d", func := "undercroft/undercroftlaw16.IlogBack", spec := "ilogBack", apart := false, narrowed := true }
def IlogBackUptoSaid : Prop := ilogBackUptoRow.holds Try.pinned (OpenSpec.upto ilogBackSpec)

/-- 'undercroftlaw16.IlogTorn', WHERE WHAT IT READS IS OF BULK AT MOST 1048576: true; the input reads as it did. -/
def ilogTornUptoRow : OpenClaim := { program := "ytiefgfbeemlnjaa", sum := "6d614420c9c6d089ae660102963a9fdf46f0cb17b38c996d4f84add3fb11479d", func := "undercroft/undercroftlaw16.IlogTorn", spec := "ilogTorn", apart := false, narrowed := true }
def IlogTornUptoSaid : Prop := ilogTornUptoRow.holds Try.pinned (OpenSpec.upto ilogTornSpec)

/-- 'undercroftlaw09.RangesMany', WHERE WHAT IT READS IS OF BULK AT MOST 1048576: true; the input reads as it did. -/
def rangesManyUptoRow : OpenClaim := { program := "ytiefgfbeemlnjaa", sum := "6d614420c9c6d089ae660102963a9fdf46f0cb17b38c996d4f84add3fb11479d", func := "undercroft/undercroftlaw09.RangesMany", spec := "rangesMany", inPlace := ["slices.overlaps[undercroft/api.Span]"], unfollowed := true, recurses := true, apart := false, narrowed := true }
def RangesManyUptoSaid : Prop := rangesManyUptoRow.holds Try.pinned (OpenSpec.upto rangesManySpec)

/-- 'undercroftlaw09.RangesOrder', WHERE WHAT IT READS IS OF BULK AT MOST 1048576: true; the input reads as it did. -/
def rangesOrderUptoRow : OpenClaim := { program := "ytiefgfbeemlnjaa", sum := "6d614420c9c6d089ae660102963a9fdf46f0cb17b38c996d4f84add3fb11479d", func := "undercroft/undercroftlaw09.RangesOrder", spec := "rangesOrder", inPlace := ["slices.overlaps[undercroft/api.Span]"], unfollowed := true, recurses := true, apart := false, narrowed := true }
def RangesOrderUptoSaid : Prop := rangesOrderUptoRow.holds Try.pinned (OpenSpec.upto rangesOrderSpec)

/-- 'undercroftlaw09.RangesDoes', WHERE WHAT IT READS IS OF BULK AT MOST 1048576: true; the input reads as it did. -/
def rangesDoesUptoRow : OpenClaim := { program := "ytiefgfbeemlnjaa", sum := "6d614420c9c6d089ae660102963a9fdf46f0cb17b38c996d4f84add3fb11479d", func := "undercroft/undercroftlaw09.RangesDoes", spec := "rangesDoes", inPlace := ["slices.overlaps[undercroft/api.Span]"], unfollowed := true, recurses := true, apart := false, narrowed := true }
def RangesDoesUptoSaid : Prop := rangesDoesUptoRow.holds Try.pinned (OpenSpec.upto rangesDoesSpec)

/-- 'undercroftlaw24.SessionOnce', WHERE WHAT IT READS IS OF BULK AT MOST 1048576: true; the input reads as it did. -/
def sessionOnceUptoRow : OpenClaim := { program := "ytiefgfbeemlnjaa", sum := "6d614420c9c6d089ae660102963a9fdf46f0cb17b38c996d4f84add3fb11479d", func := "undercroft/undercroftlaw24.SessionOnce", spec := "sessionOnce", inPlace := ["sync/atomic.LoadUint32", "(*internal/sync.Mutex).Lock", "internal/race.Disable", "sync/atomic.CompareAndSwapInt32", "internal/race.Enable", "internal/race.Acquire", "(*internal/sync.Mutex).lockSlow", "internal/sync.runtime_canSpin", "internal/sync.runtime_doSpin", "internal/sync.throw", "internal/sync.runtime_nanotime", "internal/sync.runtime_SemacquireMutex", "sync/atomic.AddInt32", "(*internal/sync.Mutex).Unlock", "internal/race.ReleaseMerge", "(*internal/sync.Mutex).unlockSlow", "internal/sync.fatal", "internal/sync.runtime_Semrelease", "sync/atomic.StoreUint32", "sync/atomic.AddInt64", "sync/atomic.LoadInt64"], unfollowed := true, recurses := true, apart := false, narrowed := true }
def SessionOnceUptoSaid : Prop := sessionOnceUptoRow.holds Try.pinned (OpenSpec.upto sessionOnceSpec)

/-- 'undercroftlaw24.SessionApart', WHERE WHAT IT READS IS OF BULK AT MOST 1048576: true; the input reads as it did. -/
def sessionApartUptoRow : OpenClaim := { program := "ytiefgfbeemlnjaa", sum := "6d614420c9c6d089ae660102963a9fdf46f0cb17b38c996d4f84add3fb11479d", func := "undercroft/undercroftlaw24.SessionApart", spec := "sessionApart", inPlace := ["sync/atomic.LoadUint32", "(*internal/sync.Mutex).Lock", "internal/race.Disable", "sync/atomic.CompareAndSwapInt32", "internal/race.Enable", "internal/race.Acquire", "(*internal/sync.Mutex).lockSlow", "internal/sync.runtime_canSpin", "internal/sync.runtime_doSpin", "internal/sync.throw", "internal/sync.runtime_nanotime", "internal/sync.runtime_SemacquireMutex", "sync/atomic.AddInt32", "(*internal/sync.Mutex).Unlock", "internal/race.ReleaseMerge", "(*internal/sync.Mutex).unlockSlow", "internal/sync.fatal", "internal/sync.runtime_Semrelease", "sync/atomic.StoreUint32", "sync/atomic.AddInt64", "sync/atomic.LoadInt64"], unfollowed := true, recurses := true, apart := false, narrowed := true }
def SessionApartUptoSaid : Prop := sessionApartUptoRow.holds Try.pinned (OpenSpec.upto sessionApartSpec)

/-- 'undercroftlaw24.SessionDoes', WHERE WHAT IT READS IS OF BULK AT MOST 1048576: true; the input reads as it did. -/
def sessionDoesUptoRow : OpenClaim := { program := "ytiefgfbeemlnjaa", sum := "6d614420c9c6d089ae660102963a9fdf46f0cb17b38c996d4f84add3fb11479d", func := "undercroft/undercroftlaw24.SessionDoes", spec := "sessionDoes", inPlace := ["sync/atomic.LoadUint32", "(*internal/sync.Mutex).Lock", "internal/race.Disable", "sync/atomic.CompareAndSwapInt32", "internal/race.Enable", "internal/race.Acquire", "(*internal/sync.Mutex).lockSlow", "internal/sync.runtime_canSpin", "internal/sync.runtime_doSpin", "internal/sync.throw", "internal/sync.runtime_nanotime", "internal/sync.runtime_SemacquireMutex", "sync/atomic.AddInt32", "(*internal/sync.Mutex).Unlock", "internal/race.ReleaseMerge", "(*internal/sync.Mutex).unlockSlow", "internal/sync.fatal", "internal/sync.runtime_Semrelease", "sync/atomic.StoreUint32", "sync/atomic.AddInt64", "sync/atomic.LoadInt64", "sync/atomic.StoreInt64"], unfollowed := true, recurses := true, apart := false, narrowed := true }
def SessionDoesUptoSaid : Prop := sessionDoesUptoRow.holds Try.pinned (OpenSpec.upto sessionDoesSpec)

/-- 'undercroftlaw03.DiskCut', WHERE WHAT IT READS IS OF BULK AT MOST 1048576: true; the input reads as it did. -/
def diskCutUptoRow : OpenClaim := { program := "ytiefgfbeemlnjaa", sum := "6d614420c9c6d089ae660102963a9fdf46f0cb17b38c996d4f84add3fb11479d", func := "undercroft/undercroftlaw03.DiskCut", spec := "diskCut", unfollowed := true, recurses := true, apart := false, narrowed := true }
def DiskCutUptoSaid : Prop := diskCutUptoRow.holds Try.pinned (OpenSpec.upto diskCutSpec)

/-- 'undercroftlaw03.DiskCrash', WHERE WHAT IT READS IS OF BULK AT MOST 1048576: true; the input reads as it did. -/
def diskCrashUptoRow : OpenClaim := { program := "ytiefgfbeemlnjaa", sum := "6d614420c9c6d089ae660102963a9fdf46f0cb17b38c996d4f84add3fb11479d", func := "undercroft/undercroftlaw03.DiskCrash", spec := "diskCrash", unfollowed := true, recurses := true, apart := false, narrowed := true }
def DiskCrashUptoSaid : Prop := diskCrashUptoRow.holds Try.pinned (OpenSpec.upto diskCrashSpec)

/-- 'undercroftlaw03.DiskApart', WHERE WHAT IT READS IS OF BULK AT MOST 1048576: true; the input reads as it did. -/
def diskApartUptoRow : OpenClaim := { program := "ytiefgfbeemlnjaa", sum := "6d614420c9c6d089ae660102963a9fdf46f0cb17b38c996d4f84add3fb11479d", func := "undercroft/undercroftlaw03.DiskApart", spec := "diskApart", unfollowed := true, recurses := true, apart := false, narrowed := true }
def DiskApartUptoSaid : Prop := diskApartUptoRow.holds Try.pinned (OpenSpec.upto diskApartSpec)

end Rows
end Go.Proofs.Ytiefgfbeemlnjaa
