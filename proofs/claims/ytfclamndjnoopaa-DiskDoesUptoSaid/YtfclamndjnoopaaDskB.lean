/- Disks and their power: what is asked, and whether a write is done. Disks and their power: New, Read; a sector of one byte. -/
import Derived.Test.YtfclamndjnoopaaDskA
import Derived.BigQuiet
import Derived.Laws.MakeOwn
namespace Go.Proofs.Ytfclamndjnoopaa
section
open Go.RowKit Go.Lib
set_option maxRecDepth 100000

set_option maxHeartbeats 800000 in
theorem on_any (pb : Nat) (S : PSt) (q : Option Addr) (c : Nat) (w : World) (hp : IsPow w pb S q c) :
    Calls Try.prog 14 #[.pointer (some ⟨pb, 0, none⟩)] w fun e w' => e = .returned (.bool (!S.out)) ∧ w' = w := by
  obtain ⟨c0, c1, c2, c3, c4⟩ := hp.cells
  clear hp
  go_enter Try.func14, Try.ntmps14
  go_wp2_with fail
  go_returns
  exact ⟨rfl, rfl⟩
set_option maxHeartbeats 800000 in
theorem waiting_any (pb : Nat) (S : PSt) (q : Option Addr) (c : Nat) (w : World) (hp : IsPow w pb S q c) :
    Calls Try.prog 16 #[.pointer (some ⟨pb, 0, none⟩)] w fun e w' => e = .returned (.int .i64 (S.ws.length : Int)) ∧ w' = w := by
  obtain ⟨c0, c1, c2, c3, c4⟩ := hp.cells
  clear hp
  go_enter Try.func16, Try.ntmps16
  go_wp2_with fail
  go_returns
  exact ⟨rfl, rfl⟩
set_option maxHeartbeats 800000 in
theorem writes_any (pb : Nat) (S : PSt) (q : Option Addr) (c : Nat) (w : World) (hp : IsPow w pb S q c) :
    Calls Try.prog 15 #[.pointer (some ⟨pb, 0, none⟩)] w fun e w' => e = .returned (.int .i64 S.writes) ∧ w' = w := by
  obtain ⟨c0, c1, c2, c3, c4⟩ := hp.cells
  clear hp
  go_enter Try.func15, Try.ntmps15
  go_wp2_with fail
  go_returns
  exact ⟨rfl, rfl⟩
set_option maxHeartbeats 800000 in
theorem sectors_any (pb : Nat) (D : DSt) (w : World) (hd : IsDisk w pb D) :
    Calls Try.prog 25 #[.pointer (some ⟨D.db, 0, none⟩)] w fun e w' => e = .returned (.int .i64 (D.n : Int)) ∧ w' = w := by
  obtain ⟨c0, c1, c2, c3, c4⟩ := hd.cells
  clear hd
  go_enter Try.func25, Try.ntmps25
  go_wp2_with fail
  go_returns
  exact ⟨rfl, rfl⟩
/-- What is answered before anything is done. -/
def askE (S : PSt) (D : DSt) (at_ many : Int) : Int := if S.out then 5 else if D.failed then 30 else if at_ < 0 ∨ many < 0 ∨ (D.n : Int) < many ∨ (D.n : Int) - many < at_ then 1 else 0
set_option maxHeartbeats 1600000 in
theorem ask_any (pb : Nat) (S : PSt) (q : Option Addr) (c : Nat) (D : DSt) (at_ many : Int) (w : World) (hp : IsPow w pb S q c) (hd : IsDisk w pb D) (ha : -9223372036854775808 ≤ at_ ∧ at_ ≤ 9223372036854775807) (hm : -9223372036854775808 ≤ many ∧ many ≤ 9223372036854775807) :
    Calls Try.prog 28 #[.pointer (some ⟨D.db, 0, none⟩), .int .i64 at_, .int .i64 many] w fun e w' => e = .returned (.int .i64 (askE S D at_ many)) ∧ w' = w := by
  obtain ⟨c0, c1, c2, c3, c4⟩ := hp.cells
  obtain ⟨d0, d1, d2, d3, d4⟩ := hd.cells
  have hn1 := hd.n1
  have hn2 := hd.n2
  obtain ⟨R, hR⟩ : ∃ R, askE S D at_ many = R := ⟨_, rfl⟩
  rw [hR]
  have HR := hid hR
  obtain ⟨out, ho⟩ : ∃ o, S.out = o := ⟨_, rfl⟩
  obtain ⟨fl, hf⟩ : ∃ o, D.failed = o := ⟨_, rfl⟩
  obtain ⟨n, hn⟩ : ∃ n, D.n = n := ⟨_, rfl⟩
  have HR2 : Hid (R = if out then 5 else if fl then 30 else if at_ < 0 ∨ many < 0 ∨ (n : Int) < many ∨ (n : Int) - many < at_ then 1 else 0) := hid (by rw [← hR, ← ho, ← hf, ← hn]; rfl)
  rw [ho] at c0
  rw [hf] at d2
  rw [hn] at d1 hn1 hn2
  clear hp hd hR HR ho hf hn c1 c2 c3 c4 d3 d4
  cases out
  case true =>
    have HV : Hid (R = 5) := hid (by rw [HR2.out]; rfl)
    go_enter Try.func28, Try.ntmps28
    go_wp2_with fail
    go_returns
    exact ⟨by rw [HV.out]; rfl, rfl⟩
  cases fl
  case true =>
    have HV : Hid (R = 30) := hid (by rw [HR2.out]; rfl)
    go_enter Try.func28, Try.ntmps28
    go_wp2_with fail
    go_returns
    exact ⟨by rw [HV.out]; rfl, rfl⟩
  have HV1 : Hid ((at_ < 0 ∨ many < 0 ∨ (n : Int) < many ∨ (n : Int) - many < at_) → R = 1) := hid (fun h => by rw [HR2.out]; simp only [Bool.false_eq_true, if_false]; rw [if_pos h])
  have HV0 : Hid (¬ (at_ < 0 ∨ many < 0 ∨ (n : Int) < many ∨ (n : Int) - many < at_) → R = 0) := hid (fun h => by rw [HR2.out]; simp only [Bool.false_eq_true, if_false]; rw [if_neg h])
  clear HR2
  go_enter Try.func28, Try.ntmps28
  by_cases h1 : at_ < 0
  · have HV := hid (HV1.out (by omega))
    go_wp2_with fail
    go_returns
    exact ⟨by rw [HV.out]; rfl, rfl⟩
  by_cases h2 : many < 0
  · have HV := hid (HV1.out (by omega))
    go_wp2_with fail
    go_returns
    exact ⟨by rw [HV.out]; rfl, rfl⟩
  by_cases h3 : (n : Int) < many
  · have HV := hid (HV1.out (by omega))
    go_wp2_with fail
    go_returns
    exact ⟨by rw [HV.out]; rfl, rfl⟩
  by_cases h4 : (n : Int) - many < at_
  · have HV := hid (HV1.out (by omega))
    go_wp2_with fail
    go_returns
    exact ⟨by rw [HV.out]; rfl, rfl⟩
  have HV := hid (HV0.out (by omega))
  go_wp2_with fail
  go_returns
  exact ⟨by rw [HV.out]; rfl, rfl⟩
/-- A write comes: is it done? -/
def spendS (S : PSt) : Bool × PSt := if S.bounded ∧ S.left = 0 then (false, { S with out := true }) else (true, { S with left := if S.bounded then S.left - 1 else S.left, writes := S.writes + 1 })
set_option maxHeartbeats 1600000 in
theorem spend_any (pb : Nat) (S : PSt) (q : Option Addr) (c : Nat) (w : World) (hp : IsPow w pb S q c) (hl : S.bounded = true → 0 ≤ S.left) (hw : S.writes + S.ws.length < 500000000000) :
    Calls Try.prog 29 #[.pointer (some ⟨pb, 0, none⟩)] w fun e w' => e = .returned (.bool (spendS S).1) ∧ IsPow w' pb (spendS S).2 q c ∧ Frm [pb] w w' := by
  have HP := hid hp
  obtain ⟨c0, c1, c2, c3, c4⟩ := hp.cells
  have z0 := hp.froz 0
  have z2 := hp.froz 2
  have z3 := hp.froz 3
  have hlb := hp.lb
  have hwb := hp.wb
  have HNB : Hid (∀ k ∈ blk q, k ∉ [pb]) := hid (fun k hk hm => by simp at hm; subst hm; exact hp.apart hk)
  clear hp
  obtain ⟨out, bounded, left, writes, ws⟩ := S
  simp only at c0 c1 c2 c3 c4 hlb hwb hl hw
  cases bounded
  case false =>
    have hne : ¬ ((false = true) ∧ left = 0) := by simp
    go_enter Try.func29, Try.ntmps29
    go_wp2_with fail
    go_returns
    obtain ⟨h1, h2⟩ := sets_row pb 59 [(3, .int .i64 (writes + 1))] w _ HP.out.row
    exact ⟨rfl, ⟨h1, ownsRow_kept HP.out.own h2 HNB.out, HP.out.len, hlb, by show 0 ≤ writes + 1 ∧ writes + 1 + (ws.length : Int) ≤ 500000000000; omega, HP.out.apart⟩, h2⟩
  have hl0 := hl rfl
  by_cases h0 : left = 0
  · subst h0
    go_enter Try.func29, Try.ntmps29
    go_wp2_with fail
    go_returns
    obtain ⟨h1, h2⟩ := sets_row pb 59 [(0, .bool true)] w _ HP.out.row
    exact ⟨rfl, ⟨h1, ownsRow_kept HP.out.own h2 HNB.out, HP.out.len, hlb, hwb, HP.out.apart⟩, h2⟩
  · have hb : (left == 0) = false := by simpa using h0
    have he : spendS ⟨out, true, left, writes, ws⟩ = (true, ⟨out, true, left - 1, writes + 1, ws⟩) := by unfold spendS; rw [if_neg (by simpa using h0)]; rfl
    rw [he]
    go_enter Try.func29, Try.ntmps29
    go_wp2_with fail
    go_returns
    obtain ⟨h1, h2⟩ := sets_row pb 59 [(2, .int .i64 (left - 1)), (3, .int .i64 (writes + 1))] w _ HP.out.row
    exact ⟨rfl, ⟨h1, ownsRow_kept HP.out.own h2 HNB.out, HP.out.len, by show -9223372036854775808 ≤ left - 1 ∧ left - 1 ≤ 9223372036854775807; omega, by show 0 ≤ writes + 1 ∧ writes + 1 + (ws.length : Int) ≤ 500000000000; omega, HP.out.apart⟩, h2⟩
set_option maxHeartbeats 800000 in
theorem sector_any (g o n c k : Nat) (hk : (k + 1) * 128 ≤ n) (hc : n ≤ c) (hn : n ≤ 140737488355328) (w : World) :
    Calls Try.prog 30 #[.slice (some ⟨g, o, none⟩) n c, .int .i64 (k : Int)] w fun e w' => e = .returned (.slice (some ⟨g, o + k * 128, none⟩) 128 (c - k * 128)) ∧ w' = w := by
  have hsl : ∀ W : World, (Instr.slice 22 (.slice (some ⟨g, o, none⟩) n c) (some (.int .i64 ((k * 128 : Nat) : Int))) (some (.int .i64 (((k + 1) * 128 : Nat) : Int))) none).run Try.prog W = .ok (.slice (some ⟨g, o + k * 128, none⟩) 128 (c - k * 128)) W := fun W => by
    rw [run_slice_lh W 22 _ _ _ (by simp [Program.elem, Try.underlying22] : Try.prog.underlying 22 = some (.slice (Try.prog.elem 22))) .i64 .i64 _ _ (by omega) (by omega) (by omega), show Try.prog.elem 22 = 5 by simp [Program.elem, Try.underlying22]]
    obtain ⟨i, hi', hz, h1, h2⟩ := info_parts (infoB)
    have hs : (sizeOf 5).run Try.prog W = .ok 1 W := by simp [sizeOf, typeInfo, hi', h1, Result.andThen]
    rw [hs]
    have hne : ¬ c = k * 128 := by omega
    have e1 : ((k : Int) * 128).toNat = k * 128 := by omega
    have e2 : (((k : Int) + 1) * 128).toNat = (k + 1) * 128 := by omega
    simp [Result.andThen, sliced]
    rw [e1, e2, if_neg hne]
    refine ⟨?_, by omega, rfl⟩
    by_cases h0 : k * 128 = 0 <;> simp [Addr.add, h0]
  have hsw : ∀ W : World, (Instr.slice 22 (.slice (some ⟨g, o, none⟩) n c) (some (.int .i64 ((k : Int) * 128))) (some (.int .i64 (((k : Int) + 1) * 128))) none).run Try.prog W = .ok (.slice (some ⟨g, o + k * 128, none⟩) 128 (c - k * 128)) W := fun W => by
    have h := hsl W
    rwa [show ((k * 128 : Nat) : Int) = (k : Int) * 128 by omega, show (((k + 1) * 128 : Nat) : Int) = ((k : Int) + 1) * 128 by omega] at h
  clear hsl
  go_enter Try.func30, Try.ntmps30
  go_wp2_with fail
  go_returns
  exact ⟨rfl, rfl⟩
end
section
open Go.RowKit Go.Lib
set_option maxRecDepth 100000

theorem make_bytes (k : Nat) (hk : k ≤ 140737488355328) (W : World) : (Instr.makeSlice 22 (.int .i64 (k : Int)) (.int .i64 (k : Int))).run Try.prog W = .ok (.slice (some ⟨W.heap.size, 0, none⟩) k k) (W.alloc (.cells (bv (List.replicate k 0)).toArray 5)) := by
  obtain ⟨i, hi, hz, h1, h2⟩ := info_parts (infoB)
  have h := run_make (P := Try.prog) W 22 5 i (.int .u8 0) Try.underlying22 hi hz .i64 .i64 (k : Int) (k : Int) (by omega) (Int.le_refl _) (by rw [h2]; omega) (by omega)
  rw [h, h1]
  have e : madeCells (Value.int .u8 0).cells ((k : Int).toNat * 1) = (bv (List.replicate k 0)).toArray := by
    apply Array.ext'
    rw [show (Value.int .u8 0).cells = #[Value.int .u8 0] from rfl, toList_madeCells_one]
    simp [bv]
  rw [e]
  simp
theorem rep_bd (k : Nat) : ∀ z ∈ List.replicate k (0 : Int), 0 ≤ z ∧ z < 256 := fun z hz => by
  obtain rfl := (List.mem_replicate.1 hz).2
  omega
theorem three_blocks (w : World) (o1 o2 o3 : Obj) : (((w.alloc o1).alloc o2).alloc o3).drew.heap[w.heap.size]? = some o1 ∧ (((w.alloc o1).alloc o2).alloc o3).drew.heap[w.heap.size + 1]? = some o2 ∧ (((w.alloc o1).alloc o2).alloc o3).drew.heap[w.heap.size + 1 + 1]? = some o3 ∧ Frm [] w (((w.alloc o1).alloc o2).alloc o3).drew := by
  have f1 : Frm [] w (w.alloc o1) := (Frm.refl _ _).alloc _
  have f2 : Frm [] (w.alloc o1) ((w.alloc o1).alloc o2) := (Frm.refl _ _).alloc _
  have f3 : Frm [] ((w.alloc o1).alloc o2) (((w.alloc o1).alloc o2).alloc o3) := (Frm.refl _ _).alloc _
  have h2 : ((w.alloc o1).alloc o2).heap[w.heap.size + 1]? = some o2 := heap_alloc_to _ _ (by simp)
  have h3 : (((w.alloc o1).alloc o2).alloc o3).heap[w.heap.size + 1 + 1]? = some o3 := heap_alloc_to _ _ (by simp)
  exact ⟨f3.heap (f2.heap (heap_alloc_new _ _) (by simp)) (by simp), f3.heap h2 (by simp), h3, ((f1.trans f2 (by simp)).trans f3 (by simp)).drew⟩
set_option maxHeartbeats 1600000 in
theorem new_any (pb n : Nat) (h1 : 1 ≤ n) (h2 : n ≤ 8192) (w : World) :
    Calls Try.prog 9 #[.pointer (some ⟨pb, 0, none⟩), .int .i64 (n : Int)] w fun e w' => ∃ D : DSt, e = .returned (.tuple #[.pointer (some ⟨D.db, 0, none⟩), .int .i64 0]) ∧ IsDisk w' pb D ∧ D.n = n ∧ D.failed = false ∧ D.plat = List.replicate (n * 128) 0 ∧ D.seen = List.replicate (n * 128) 0 ∧ w.heap.size ≤ D.db ∧ w.heap.size ≤ D.gp ∧ w.heap.size ≤ D.gs ∧ Frm [] w w' := by
  have hmk := make_bytes (n * 128) (by omega)
  rw [show ((n * 128 : Nat) : Int) = (n : Int) * 128 by omega] at hmk
  go_enter Try.func9, Try.ntmps9
  go_wp2_with fail
  go_region
  · go_wp2_with fail
    go_returns
    obtain ⟨b1, b2, b3, bf⟩ := three_blocks w (.cells (bv (List.replicate (n * 128) 0)).toArray 5) (.cells (bv (List.replicate (n * 128) 0)).toArray 5) (.cells #[.pointer (some ⟨pb, 0, none⟩), .int .i64 (n : Int), .bool false, .slice (some ⟨w.heap.size, 0, none⟩) (n * 128) (n * 128), .slice (some ⟨w.heap.size + 1, 0, none⟩) (n * 128) (n * 128)] 61)
    exact ⟨⟨w.heap.size + 1 + 1, w.heap.size, w.heap.size + 1, n, false, List.replicate (n * 128) 0, List.replicate (n * 128) 0⟩, rfl, ⟨b3, b1, b2, by simp, by simp, rep_bd _, rep_bd _, h1, h2, by simp, by simp; omega, by simp⟩, rfl, rfl, rfl, rfl, by simp; omega, by simp, by simp, bf⟩
  · go_wp2_with fail
    go_returns
    obtain ⟨b1, b2, b3, bf⟩ := three_blocks w (.cells (bv (List.replicate (n * 128) 0)).toArray 5) (.cells (bv (List.replicate (n * 128) 0)).toArray 5) (.cells #[.pointer (some ⟨pb, 0, none⟩), .int .i64 (n : Int), .bool false, .slice (some ⟨w.heap.size + 1, 0, none⟩) (n * 128) (n * 128), .slice (some ⟨w.heap.size, 0, none⟩) (n * 128) (n * 128)] 61)
    exact ⟨⟨w.heap.size + 1 + 1, w.heap.size + 1, w.heap.size, n, false, List.replicate (n * 128) 0, List.replicate (n * 128) 0⟩, rfl, ⟨b3, b2, b1, by simp, by simp, rep_bd _, rep_bd _, h1, h2, by simp, by simp, by simp; omega⟩, rfl, rfl, rfl, rfl, by simp; omega, by simp, by simp, bf⟩
end
end Go.Proofs.Ytfclamndjnoopaa
