/- Contracts of package code's reader's methods: Num, Bytes. -/
import Derived.Test.YtajfjkfnmmfhmaaGreatDoorQsaa
import Derived.OrdersHeld
import Derived.StillTail
import Derived.Deep.RegionHeld3
import Derived.Deep.Cut
import Derived.Laws.EntriesVeiled
import Derived.Laws.BitsAllLaws
import Derived.BigQuiet
namespace Go.Proofs.YtajfjkfnmmfhmaaGreatDoor
set_option maxRecDepth 100000
set_option maxHeartbeats 25600000
section
open Go.RowKit
def Holds (y : Nat) (v : Value) (w : World) : Prop := w.cell? ⟨y, 0, none⟩ = some v
theorem holds_set {w : World} {y : Nat} {u : Value} (h : w.cell? ⟨y, 0, none⟩ = some u) (v : Value) : Holds y v (w.setCell ⟨y, 0, none⟩ v) := by
 exact World.cell?_setCell_same _ _ _ h
theorem Holds.kept {w w' : World} {y : Nat} {v : Value} {S : List Nat} (h : Holds y v w) (hf : Frm S w w') (hn : y ∉ S) : w'.cell? ⟨y, 0, none⟩ = some v :=
 (hf.cell (p := ⟨y, 0, none⟩) (World.block_lt_of_cell? w _ h) hn).trans h
def numT (ls : List Int) (k : Int) : Int × Nat × Int := if k < 1 ∨ 8 < k then (0, 0, 1) else if ls.length < k then (0, 0, 10) else (leV (ls.take k.toNat), k.toNat, 0)
theorem num1R_any (x y g o c : Nat) (k : Int) (ls : List Int) (hb : ∀ z ∈ ls, 0 ≤ z ∧ z < 256) (w : World) (hrd : Rd w (some ⟨g, o, none⟩) ls) (hc : ls.length ≤ c) (_hc2 : c ≤ 140737488355328) (hxy : x ≠ y)
  (hk : -9223372036854775808 ≤ k) (hk2 : k ≤ 9223372036854775807) (hx : w.cell? ⟨x, 0, none⟩ = some (.int .i64 k)) (hy : w.cell? ⟨y, 0, none⟩ = some (.int .u64 0)) (hyf : w.frozen? ⟨y, 0, none⟩ = false) :
  Calls Tryz.prog 87 #[.slice (some ⟨g, o, none⟩) ls.length c, .pointer (some ⟨x, 0, none⟩), .pointer (some ⟨y, 0, none⟩)] w (GivesR (numT ls k).2.1 (numT ls k).2.2 [y] (Holds y (.int .u64 (numT ls k).1)) w) := by
 by_cases h1 : k < 1 ∨ 8 < k
 ·rw [show numT ls k = (0, 0, 1) by unfold numT; rw [if_pos h1]]
  have HY := hid hy
  by_cases h2 : k < 1
  ·go_enter Tryz.func87, Tryz.ntmps87
   go_wp2_with fail
   go_returns
   exact ⟨rfl, HY.out, Frm.refl _ _⟩
  ·go_enter Tryz.func87, Tryz.ntmps87
   go_wp2_with fail
   go_returns
   exact ⟨rfl, HY.out, Frm.refl _ _⟩
 ·obtain ⟨j, rfl⟩ : ∃ j : Nat, k = (j : Int) := ⟨k.toNat, by omega⟩
  have hj1 : 1 ≤ j := by omega
  have hj8 : j ≤ 8 := by omega
  by_cases h2 : ls.length < j
  ·rw [show numT ls j = (0, 0, 10) by unfold numT; rw [if_neg h1, if_pos (by omega)]]
   have HY := hid hy
   clear h1
   go_enter Tryz.func87, Tryz.ntmps87
   go_wp2_with fail
   go_returns
   exact ⟨rfl, HY.out, Frm.refl _ _⟩
  ·rw [show numT ls j = (leV (ls.take j), j, 0) by unfold numT; rw [if_neg h1, if_neg (by omega)]; simp]
   have HV := hid (fun w' (h : Rd w' (some ⟨g, o, none⟩) ls) => value_any (some ⟨g, o, none⟩) c (ls.take j) (fun z hz => hb z (List.mem_of_mem_take hz)) (by simp; omega) w' (h.take j))
   rw [show (ls.take j).length = j by simp; omega] at HV
   have HB := hid hb
   have HRD := hid hrd
   have hyl := World.block_lt_of_cell? w _ hy
   have hxl := World.block_lt_of_cell? w _ hx
   clear h1 hb hrd
   go_enter Tryz.func87, Tryz.ntmps87
   go_wp2_with fail
   refine (HV.out w HRD.out).mono ?_
   rintro e w1 ⟨rfl, hf⟩
   have k1 := (hf.cell (p := ⟨x, 0, none⟩) hxl (by simp)).trans hx
   have k2 := (hf.cell (p := ⟨y, 0, none⟩) hyl (by simp)).trans hy
   have k3 := (hf.frozen (p := ⟨y, 0, none⟩) hyl (by simp)).trans hyf
   have HK := hid k2
   go_wp2_with fail
   go_returns
   refine ⟨rfl, ?_, (hf.mono (by simp)).trans ((Frm.refl _ _).setCell _ _ (by simp)) (fun i hi _ => hi)⟩
   exact holds_set HK.out _
def readS {α : Type} (z : α) (pos : Nat) (err : Int) (r : α × Nat × Int) : α × Nat × Int :=
 if err ≠ 0 then (z, pos, err) else if r.2.2 = 0 then (r.1, pos + r.2.1, 0) else (r.1, pos, r.2.2)
theorem readS_ok {α : Type} (z : α) (pos : Nat) (r : α × Nat × Int) : readS z pos 0 r = (r.1, (if r.2.2 = 0 then pos + r.2.1 else pos), r.2.2) := by
 unfold readS
 by_cases h : r.2.2 = 0
 ·simp [h]
 ·simp [h]
theorem two_steps {w W w1 w' : World} {b y : Nat} (hF : Frm [] w W) (h2 : Frm [y] W w1) (h3 : Frm [b] w1 w') (hy : w.heap.size ≤ y) : Frm [b] w w' :=
 ((hF.mono (T := [b]) (by simp)).trans h2 (by intro i hi hlt; simp at hi; omega)).trans h3 (fun i hi _ => hi)
theorem numT_len (ls : List Int) (k : Int) : (numT ls k).2.1 ≤ ls.length := by
 unfold numT
 split
 ·simp
 ·split
  ·simp
  ·simp; omega
theorem numR_any (b g pos : Nat) (bs : List Int) (hb : ∀ z ∈ bs, 0 ≤ z ∧ z < 256) (err k : Int) (w : World) (hw : IsR w b g bs pos err) (hk : -9223372036854775808 ≤ k) (hk2 : k ≤ 9223372036854775807) :
  Calls Tryz.prog 42 #[.pointer (some ⟨b, 0, none⟩), .int .i64 k] w fun e w' => e = .returned (.int .u64 (readS 0 pos err (numT (bs.drop pos) k)).1) ∧
   IsR w' b g bs (readS 0 pos err (numT (bs.drop pos) k)).2.1 (readS 0 pos err (numT (bs.drop pos) k)).2.2 ∧ Frm [b] w w' := by
 obtain ⟨hlt, hlg, hbg, hpos, hlen, _⟩ := hw.cells
 have HW := hid hw
 have HB := hid hb
 obtain ⟨r, hr⟩ := eX (numT (bs.drop pos) k)
 have HR := hid hr
 rw [hr]
 clear hw hb hr
 by_cases he : err = 0
 ·subst he
  go_enter Tryz.func42, Tryz.ntmps42
  go_wp2_with fail
  have hF : Frm [] w ((w.alloc (Obj.cells #[Value.int IntKind.i64 k] 3)).alloc (Obj.cells #[Value.int IntKind.u64 0] 27)) := ((Frm.refl _ _).alloc _).alloc _
  obtain ⟨W, hWd⟩ : ∃ W, W = ((w.alloc (Obj.cells #[Value.int IntKind.i64 k] 3)).alloc (Obj.cells #[Value.int IntKind.u64 0] 27)) := ⟨_, rfl⟩
  have hx : W.cell? ⟨w.heap.size, 0, none⟩ = some (.int .i64 k) := by subst hWd; simp
  have hy : W.cell? ⟨w.heap.size + 1, 0, none⟩ = some (.int .u64 0) := by subst hWd; simp
  have hyf : W.frozen? ⟨w.heap.size + 1, 0, none⟩ = false := by subst hWd; simp
  rw [← hWd] at hF ⊢
  have hW0 := HW.out.kept hF (by simp) (by simp)
  refine (take_both b g pos r.2.1 r.2.2 bs [w.heap.size + 1] (Holds (w.heap.size + 1) (.int .u64 r.1)) 87 _ W hW0 (by simp; omega) (by simp; omega) (by have := numT_len (bs.drop pos) k; rw [HR.out] at this; simp at this; omega) (fun l w => callable Tryz.func87 (by kernel_rfl) (by kernel_rfl) _ _) ?_).mono ?_
  ·intro o c hc hrd
   have := num1R_any w.heap.size (w.heap.size + 1) g o c k (bs.drop pos) (fun z hz => HB.out z (List.mem_of_mem_drop hz)) W.drew hrd hc.1 hc.2 (by omega) hk hk2 hx hy hyf
   rw [HR.out] at this
   exact this
  rintro e w' ⟨rfl, w1, h1, h2, h3, h4⟩
  have hv := h1.kept h3 (by simp; omega)
  go_wp2_with fail
  go_returns
  rw [readS_ok]
  exact ⟨rfl, h4, two_steps hF h2 h3 (by omega)⟩
 ·have HE : Hid (err ≠ 0) := he
  clear he
  go_enter Tryz.func42, Tryz.ntmps42
  go_wp2_with fail
  have hF : Frm [] w ((w.alloc (Obj.cells #[Value.int IntKind.i64 k] 3)).alloc (Obj.cells #[Value.int IntKind.u64 0] 27)) := ((Frm.refl _ _).alloc _).alloc _
  refine (take_stop b g pos err bs _ _ _ (HW.out.kept hF (by simp) (by simp)) HE.out).mono ?_
  rintro e w' ⟨rfl, rfl⟩
  go_wp2_with fail
  go_returns
  unfold readS
  rw [if_pos HE.out]
  exact ⟨rfl, HW.out.kept hF (by simp) (by simp), hF.mono (by simp)⟩
end
section
open Go.RowKit
def HoldsB (y : Nat) (zs : List Int) (m : Nat) (w1 : World) : Prop := ∃ p c, Holds y (.slice p zs.length c) w1 ∧ Own w1 5 (.slice p zs.length c) zs ∧ ∀ k ∈ blk p, m ≤ k
def bytesT (ls : List Int) (k : Int) : List Int × Nat × Int := if k < 0 then ([], 0, 1) else if ls.length < k then ([], 0, 10) else (ls.take k.toNat, k.toNat, 0)
theorem heap_alloc_at (w : World) (o : Obj) {k : Nat} (h : w.heap.size = k) : (w.alloc o).heap[k]? = some o := by subst h; exact heap_alloc_new _ _
theorem bytesT_len (ls : List Int) (k : Int) : (bytesT ls k).2.1 ≤ ls.length := by
 unfold bytesT
 split
 ·simp
 ·split
  ·simp
  ·simp; omega
theorem holdsB_nil {y m : Nat} {w : World} (h : Holds y (.slice none 0 0) w) : HoldsB y [] m w := ⟨none, 0, h, Own.nil _ _, by simp [blk]⟩
theorem bytes1R_any (x y g o c : Nat) (k : Int) (ls : List Int) (w : World) (hrd : Rd w (some ⟨g, o, none⟩) ls) (hc : ls.length ≤ c) (hc2 : c ≤ 140737488355328) (hxy : x ≠ y) (hyg : y ≠ g)
  (hk : -9223372036854775808 ≤ k) (hk2 : k ≤ 9223372036854775807) (hx : w.cell? ⟨x, 0, none⟩ = some (.int .i64 k)) (hy : w.cell? ⟨y, 0, none⟩ = some (.slice none 0 0)) (hyf : w.frozen? ⟨y, 0, none⟩ = false) :
  Calls Tryz.prog 118 #[.slice (some ⟨g, o, none⟩) ls.length c, .pointer (some ⟨x, 0, none⟩), .pointer (some ⟨y, 0, none⟩)] w (GivesR (bytesT ls k).2.1 (bytesT ls k).2.2 [y] (HoldsB y (bytesT ls k).1 w.heap.size) w) := by
 have HY := hid (holdsB_nil (m := w.heap.size) hy)
 by_cases h1 : k < 0
 ·rw [show bytesT ls k = ([], 0, 1) by unfold bytesT; rw [if_pos h1]]
  go_enter Tryz.func118, Tryz.ntmps118
  go_wp2_with fail
  go_returns
  exact ⟨rfl, HY.out, Frm.refl _ _⟩
 ·obtain ⟨j, rfl⟩ : ∃ j : Nat, k = (j : Int) := ⟨k.toNat, by omega⟩
  by_cases h2 : ls.length < j
  ·rw [show bytesT ls j = ([], 0, 10) by unfold bytesT; rw [if_neg h1, if_pos (by omega)]]
   go_enter Tryz.func118, Tryz.ntmps118
   go_wp2_with fail
   go_returns
   exact ⟨rfl, HY.out, Frm.refl _ _⟩
  ·rw [show bytesT ls j = (ls.take j, j, 0) by unfold bytesT; rw [if_neg h1, if_neg (by omega)]; simp]
   by_cases h3 : j = 0
   ·subst h3
    go_enter Tryz.func118, Tryz.ntmps118
    go_wp2_with fail
    go_returns
    exact ⟨rfl, HY.out, Frm.refl _ _⟩
   ·have hj : 0 < j := by omega
    have hmk := run_make_row' (P := Tryz.prog) 24 5 (.int .u8 0) 1 Tryz.underlying24 infoE rfl .i64 .i64 j (by omega) (by omega)
    have hyl := World.block_lt_of_cell? w _ hy
    have hxl := World.block_lt_of_cell? w _ hx
    have HRD := hid hrd
    clear h1 h3 hrd
    have HG : Frm [y] w ((w.setCell ⟨y, 0, none⟩ (.slice (some ⟨w.heap.size, 0, none⟩) j j)).alloc (.cells (madeCells #[Value.int IntKind.u8 0] j) 5)) := ((Frm.refl _ _).setCell _ _ (by simp)).alloc _
    have hrd2 := HRD.out.kept HG (by intro k hk; simp [blk] at hk ⊢; omega)
    have hh := heap_alloc_at (w.setCell ⟨y, 0, none⟩ (.slice (some ⟨w.heap.size, 0, none⟩) j j)) (.cells (madeCells #[Value.int IntKind.u8 0] j) 5) (World.size_setCell _ _ _)
    have HS := holds_set hy (.slice (some ⟨w.heap.size, 0, none⟩) j j)
    have HH := hid hh
    have HR2 := hid hrd2
    clear hh hrd2
    go_enter Tryz.func118, Tryz.ntmps118
    go_wp2_with (refine wpList_copyB rfl _ _ 24 rfl 5 Tryz.underlying24 infoE w.heap.size j j (madeCells #[Value.int IntKind.u8 0] j) rfl HH.out (size_madeCells _ _) (some ⟨g, o, none⟩) ls.length c ls rfl rfl HR2.out (by omega) ?_)
    intro w' hb hf
    have HB := hid hb
    clear hb
    have k1 := (hf.cell (p := ⟨x, 0, none⟩) (by simpa [World.setCell] using Nat.lt_succ_of_lt hxl) (by simp; omega)).trans ((HG.cell (p := ⟨x, 0, none⟩) hxl (by simp; omega)).trans hx)
    go_wp2_with fail
    go_returns
    have HS2 : Holds y (.slice (some ⟨w.heap.size, 0, none⟩) j j) ((w.setCell ⟨y, 0, none⟩ (.slice (some ⟨w.heap.size, 0, none⟩) j j)).alloc (.cells (madeCells #[Value.int IntKind.u8 0] j) 5)) := HS.kept ((Frm.refl [] _).alloc _) (by simp)
    have e1 : (ls.take j).length = j := by simp; omega
    refine ⟨rfl, ⟨some ⟨w.heap.size, 0, none⟩, j, ?_, own_of_block' HB.out (by rw [e1]; unfold maxLen; omega) e1, by simp [blk]⟩, HG.trans hf (by simp)⟩
    rw [e1]
    exact HS2.kept hf (by simp; omega)
theorem bytesR_any (b g pos : Nat) (bs : List Int) (err k : Int) (w : World) (hw : IsR w b g bs pos err) (hk : -9223372036854775808 ≤ k) (hk2 : k ≤ 9223372036854775807) :
  Calls Tryz.prog 100 #[.pointer (some ⟨b, 0, none⟩), .int .i64 k] w fun e w' => ∃ p n c, e = .returned (.slice p n c) ∧ n = (readS [] pos err (bytesT (bs.drop pos) k)).1.length ∧ Own w' 5 (.slice p n c) (readS [] pos err (bytesT (bs.drop pos) k)).1 ∧ (∀ k ∈ blk p, w.heap.size ≤ k) ∧
   IsR w' b g bs (readS [] pos err (bytesT (bs.drop pos) k)).2.1 (readS [] pos err (bytesT (bs.drop pos) k)).2.2 ∧ Frm [b] w w' := by
 obtain ⟨hlt, hlg, hbg, hpos, hlen, _⟩ := hw.cells
 have HW := hid hw
 obtain ⟨r, hr⟩ := eX (bytesT (bs.drop pos) k)
 have HR := hid hr
 rw [hr]
 clear hw hr
 by_cases he : err = 0
 ·subst he
  go_enter Tryz.func100, Tryz.ntmps100
  go_wp2_with fail
  have hF : Frm [] w ((w.alloc (Obj.cells #[Value.int IntKind.i64 k] 3)).alloc (Obj.cells #[Value.slice none 0 0] 24)) := ((Frm.refl _ _).alloc _).alloc _
  obtain ⟨W, hWd⟩ : ∃ W, W = ((w.alloc (Obj.cells #[Value.int IntKind.i64 k] 3)).alloc (Obj.cells #[Value.slice none 0 0] 24)) := ⟨_, rfl⟩
  have hx : W.cell? ⟨w.heap.size, 0, none⟩ = some (.int .i64 k) := by subst hWd; simp
  have hy : W.cell? ⟨w.heap.size + 1, 0, none⟩ = some (.slice none 0 0) := by subst hWd; simp
  have hyf : W.frozen? ⟨w.heap.size + 1, 0, none⟩ = false := by subst hWd; simp
  have hWs : w.heap.size ≤ W.heap.size := by subst hWd; simp; omega
  rw [← hWd] at hF ⊢
  have hW0 := HW.out.kept hF (by simp) (by simp)
  refine (take_both b g pos r.2.1 r.2.2 bs [w.heap.size + 1] (HoldsB (w.heap.size + 1) r.1 W.heap.size) 118 _ W hW0 (by simp; omega) (by simp; omega) (by have := bytesT_len (bs.drop pos) k; rw [HR.out] at this; simp at this; omega) (fun l w => callable Tryz.func118 (by kernel_rfl) (by kernel_rfl) _ _) ?_).mono ?_
  ·intro o c hc hrd
   have := bytes1R_any w.heap.size (w.heap.size + 1) g o c k (bs.drop pos) W.drew hrd hc.1 hc.2 (by omega) (by omega) hk hk2 hx hy hyf
   rw [HR.out] at this
   exact this
  rintro e w' ⟨rfl, w1, ⟨p, c, h1, ho, hfr⟩, h2, h3, h4⟩
  have hv := h1.kept h3 (by simp; omega)
  have hbp : ∀ k ∈ blk p, k ∉ [b] := by intro k hk; simp; have := hfr k hk; have := hF.size; omega
  have HO := hid (ho.kept h3 (by rw [own_blk]; exact hbp))
  have HFR := hid hfr
  clear hfr ho
  go_wp2_with fail
  go_returns
  rw [readS_ok]
  exact ⟨p, r.1.length, c, rfl, rfl, HO.out, fun k hk => Nat.le_trans hWs (HFR.out k hk), h4, two_steps hF h2 h3 (by omega)⟩
 ·have HE : Hid (err ≠ 0) := he
  clear he
  go_enter Tryz.func100, Tryz.ntmps100
  go_wp2_with fail
  have hF : Frm [] w ((w.alloc (Obj.cells #[Value.int IntKind.i64 k] 3)).alloc (Obj.cells #[Value.slice none 0 0] 24)) := ((Frm.refl _ _).alloc _).alloc _
  refine (take_stop b g pos err bs _ _ _ (HW.out.kept hF (by simp) (by simp)) HE.out).mono ?_
  rintro e w' ⟨rfl, rfl⟩
  go_wp2_with fail
  go_returns
  unfold readS
  rw [if_pos HE.out]
  exact ⟨none, 0, 0, rfl, rfl, Own.nil _ _, by simp [blk], HW.out.kept hF (by simp) (by simp), hF.mono (by simp)⟩
end
section
open Go.RowKit
theorem conv_rd {P : Program} {w : World} (src e dst : TypeId) (hs : P.underlying src = some (.slice e)) (he : P.underlying e = some (.int .u8)) (hd : P.underlying dst = some .string) {g o n : Nat} {zs : List Int} (hrd : Rd w (some ⟨g, o, none⟩) zs) (cap : Nat) (hn : zs.length = n) :
  Sem.run P (convert src dst (.slice (some ⟨g, o, none⟩) n cap)) w = .ok (.string (strOfNums zs)) w := by
 refine run_convert_bytes_arg (P := P) (w := w) src e hs he g o n cap zs hn (fun i hi => ?_) dst hd
 rcases hrd with rfl | ⟨g', o', h, hc⟩
 ·simp at hn; omega
 ·simp at h; obtain ⟨rfl, rfl⟩ := h; exact hc i (by omega)
def textT (ls : List Int) (most : Int) : List Int × Nat × Int :=
 if ls.length < 2 then ([], 0, 10) else if most < leV (ls.take 2) then ([], 0, 11) else if ls.length < 2 + (leV (ls.take 2)).toNat then ([], 0, 10) else ((ls.drop 2).take (leV (ls.take 2)).toNat, 2 + (leV (ls.take 2)).toNat, 0)
theorem textT_len (ls : List Int) (k : Int) : (textT ls k).2.1 ≤ ls.length := by
 unfold textT
 split
 ·simp
 ·split
  ·simp
  ·split
   ·simp
   ·simp; omega
theorem text1R_any (x y g o c : Nat) (k : Int) (ls : List Int) (hb : ∀ z ∈ ls, 0 ≤ z ∧ z < 256) (w : World) (hrd : Rd w (some ⟨g, o, none⟩) ls) (hc : ls.length ≤ c) (hc2 : c ≤ 140737488355328)
  (hk : -9223372036854775808 ≤ k) (hk2 : k ≤ 9223372036854775807) (hx : w.cell? ⟨x, 0, none⟩ = some (.int .i64 k)) (hy : w.cell? ⟨y, 0, none⟩ = some (.string (strOfNums []))) (hyf : w.frozen? ⟨y, 0, none⟩ = false) :
  Calls Tryz.prog 113 #[.slice (some ⟨g, o, none⟩) ls.length c, .pointer (some ⟨x, 0, none⟩), .pointer (some ⟨y, 0, none⟩)] w (GivesR (textT ls k).2.1 (textT ls k).2.2 [y] (Holds y (.string (strOfNums (textT ls k).1))) w) := by
 have HY : Hid (Holds y (.string (strOfNums [])) w) := hy
 by_cases h1 : ls.length < 2
 ·rw [show textT ls k = ([], 0, 10) by unfold textT; rw [if_pos h1]]
  go_enter Tryz.func113, Tryz.ntmps113
  go_wp2_with fail
  go_returns
  exact ⟨rfl, HY.out, Frm.refl _ _⟩
 ·have hbd := leV_bd (ls.take 2) (fun z hz => hb z (List.mem_of_mem_take hz))
  rw [show (ls.take 2).length = 2 by simp; omega] at hbd
  have HV := hid (fun w' (h : Rd w' (some ⟨g, o, none⟩) ls) => value_any (some ⟨g, o, none⟩) c (ls.take 2) (fun z hz => hb z (List.mem_of_mem_take hz)) (by simp; omega) w' (h.take 2))
  rw [show (ls.take 2).length = 2 by simp; omega] at HV
  have e0 : textT ls k = if k < leV (ls.take 2) then ([], 0, 11) else if ls.length < 2 + (leV (ls.take 2)).toNat then ([], 0, 10) else ((ls.drop 2).take (leV (ls.take 2)).toNat, 2 + (leV (ls.take 2)).toNat, 0) := by unfold textT; rw [if_neg h1]
  rw [e0]
  clear e0
  generalize leV (ls.take 2) = N at hbd HV ⊢
  obtain ⟨n, rfl⟩ := Int.eq_ofNat_of_zero_le hbd.1
  rw [Int.toNat_natCast]
  have hn : n < 65536 := by have := hbd.2; simp at this; omega
  have HRD := hid hrd
  have hyl := World.block_lt_of_cell? w _ hy
  have hxl := World.block_lt_of_cell? w _ hx
  have h1' : 2 ≤ ls.length := by omega
  clear hbd hb hrd h1
  have step : ∀ w1 : World, Frm [] w w1 → w1.cell? ⟨x, 0, none⟩ = some (.int .i64 k) ∧ w1.cell? ⟨y, 0, none⟩ = some (.string (strOfNums [])) ∧ w1.frozen? ⟨y, 0, none⟩ = false := fun w1 hf =>
   ⟨(hf.cell (p := ⟨x, 0, none⟩) hxl (by simp)).trans hx, (hf.cell (p := ⟨y, 0, none⟩) hyl (by simp)).trans hy, (hf.frozen (p := ⟨y, 0, none⟩) hyl (by simp)).trans hyf⟩
  have ST := hid step
  clear step
  by_cases h2 : k < n
  ·rw [if_pos h2]
   go_enter Tryz.func113, Tryz.ntmps113
   go_wp2_with fail
   refine (HV.out w HRD.out).mono ?_
   rintro e w1 ⟨rfl, hf⟩
   obtain ⟨k1, k2, k3⟩ := ST.out w1 hf
   have K2 := hid k2
   go_wp2_with fail
   go_returns
   exact ⟨rfl, K2.out, hf.mono (by simp)⟩
  ·rw [if_neg h2]
   by_cases h3 : ls.length < 2 + n
   ·rw [if_pos h3]
    go_enter Tryz.func113, Tryz.ntmps113
    go_wp2_with fail
    refine (HV.out w HRD.out).mono ?_
    rintro e w1 ⟨rfl, hf⟩
    obtain ⟨k1, k2, k3⟩ := ST.out w1 hf
    have K2 := hid k2
    go_wp2_with fail
    go_returns
    exact ⟨rfl, K2.out, hf.mono (by simp)⟩
   ·rw [if_neg h3]
    have fin : ∀ w1 : World, Frm [] w w1 → w1.cell? ⟨y, 0, none⟩ = some (.string (strOfNums [])) → GivesR (2 + n) 0 [y] (Holds y (.string (strOfNums ((ls.drop 2).take n)))) w (.returned (.tuple #[.int .i64 (2 + n), .int .i64 0])) (w1.setCell ⟨y, 0, none⟩ (.string (strOfNums ((ls.drop 2).take n)))) := fun w1 hf k2 =>
     ⟨by simp, holds_set k2 _, (hf.mono (by simp)).trans ((Frm.refl _ _).setCell _ _ (by simp)) (fun i hi _ => hi)⟩
    have FIN := hid fin
    clear fin
    by_cases h4 : c = 2
    ·obtain rfl : n = 0 := by omega
     subst h4
     go_enter Tryz.func113, Tryz.ntmps113
     go_wp2_with fail
     refine (HV.out w HRD.out).mono ?_
     rintro e w1 ⟨rfl, hf⟩
     obtain ⟨k1, k2, k3⟩ := ST.out w1 hf
     have K2 := hid k2
     have hcv := conv_rd (P := Tryz.prog) (w := w1) 24 5 9 Tryz.underlying24 Tryz.underlying5 Tryz.underlying9 (g := g) (o := o) (n := 0) (Or.inl (List.take_zero (l := ls.drop 2))) 0 (by simp)
     go_wp2_with fail
     go_returns
     exact FIN.out w1 hf K2.out
    ·have hcv := fun w1 (h : Rd w1 (some ⟨g, o, none⟩) ls) => conv_rd (P := Tryz.prog) (w := w1) 24 5 9 Tryz.underlying24 Tryz.underlying5 Tryz.underlying9 (n := n) ((h.drop 2).take n) (c - 2) (by simp; omega)
     have HCV := hid hcv
     clear hcv
     go_enter Tryz.func113, Tryz.ntmps113
     go_wp2_with fail
     refine (HV.out w HRD.out).mono ?_
     rintro e w1 ⟨rfl, hf⟩
     obtain ⟨k1, k2, k3⟩ := ST.out w1 hf
     have K2 := hid k2
     have hcv := HCV.out w1 (HRD.out.kept hf (by simp))
     go_wp2_with fail
     go_returns
     exact FIN.out w1 hf K2.out
theorem textR_any (b g pos : Nat) (bs : List Int) (hb : ∀ z ∈ bs, 0 ≤ z ∧ z < 256) (err k : Int) (w : World) (hw : IsR w b g bs pos err) (hk : -9223372036854775808 ≤ k) (hk2 : k ≤ 9223372036854775807) :
  Calls Tryz.prog 93 #[.pointer (some ⟨b, 0, none⟩), .int .i64 k] w fun e w' => e = .returned (.string (strOfNums (readS [] pos err (textT (bs.drop pos) k)).1)) ∧
   IsR w' b g bs (readS [] pos err (textT (bs.drop pos) k)).2.1 (readS [] pos err (textT (bs.drop pos) k)).2.2 ∧ Frm [b] w w' := by
 obtain ⟨hlt, hlg, hbg, hpos, hlen, _⟩ := hw.cells
 have HW := hid hw
 have HB := hid hb
 obtain ⟨r, hr⟩ := eX (textT (bs.drop pos) k)
 have HR := hid hr
 rw [hr]
 clear hw hb hr
 by_cases he : err = 0
 ·subst he
  go_enter Tryz.func93, Tryz.ntmps93
  go_wp2_with fail
  have hF : Frm [] w ((w.alloc (Obj.cells #[Value.int IntKind.i64 k] 3)).alloc (Obj.cells #[Value.string { data := #[] }] 9)) := ((Frm.refl _ _).alloc _).alloc _
  obtain ⟨W, hWd⟩ : ∃ W, W = ((w.alloc (Obj.cells #[Value.int IntKind.i64 k] 3)).alloc (Obj.cells #[Value.string { data := #[] }] 9)) := ⟨_, rfl⟩
  have hx : W.cell? ⟨w.heap.size, 0, none⟩ = some (.int .i64 k) := by subst hWd; simp
  have hy : W.cell? ⟨w.heap.size + 1, 0, none⟩ = some (.string (strOfNums [])) := by subst hWd; simp [strOfNums]
  have hyf : W.frozen? ⟨w.heap.size + 1, 0, none⟩ = false := by subst hWd; simp
  rw [← hWd] at hF ⊢
  have hW0 := HW.out.kept hF (by simp) (by simp)
  refine (take_both b g pos r.2.1 r.2.2 bs [w.heap.size + 1] (Holds (w.heap.size + 1) (.string (strOfNums r.1))) 113 _ W hW0 (by simp; omega) (by simp; omega) (by have := textT_len (bs.drop pos) k; rw [HR.out] at this; simp at this; omega) (fun l w => callable Tryz.func113 (by kernel_rfl) (by kernel_rfl) _ _) ?_).mono ?_
  ·intro o c hc hrd
   have := text1R_any w.heap.size (w.heap.size + 1) g o c k (bs.drop pos) (fun z hz => HB.out z (List.mem_of_mem_drop hz)) W.drew hrd hc.1 hc.2 hk hk2 hx hy hyf
   rw [HR.out] at this
   exact this
  rintro e w' ⟨rfl, w1, h1, h2, h3, h4⟩
  have hv := h1.kept h3 (by simp; omega)
  go_wp2_with fail
  go_returns
  rw [readS_ok]
  exact ⟨rfl, h4, two_steps hF h2 h3 (by omega)⟩
 ·have HE : Hid (err ≠ 0) := he
  clear he
  go_enter Tryz.func93, Tryz.ntmps93
  go_wp2_with fail
  have hF : Frm [] w ((w.alloc (Obj.cells #[Value.int IntKind.i64 k] 3)).alloc (Obj.cells #[Value.string { data := #[] }] 9)) := ((Frm.refl _ _).alloc _).alloc _
  refine (take_stop b g pos err bs _ _ _ (HW.out.kept hF (by simp) (by simp)) HE.out).mono ?_
  rintro e w' ⟨rfl, rfl⟩
  go_wp2_with fail
  go_returns
  unfold readS
  rw [if_pos HE.out]
  exact ⟨rfl, HW.out.kept hF (by simp) (by simp), hF.mono (by simp)⟩
theorem int_eq {a c : Int} (h : a = c) : Ending.returned (.int .i64 a) = Ending.returned (.int .i64 c) := by rw [h]
theorem left_any (b g pos : Nat) (bs : List Int) (err : Int) (w : World) (hw : IsR w b g bs pos err) :
  Calls Tryz.prog 89 #[.pointer (some ⟨b, 0, none⟩)] w fun e w' => e = .returned (.int .i64 ((bs.length - pos : Nat) : Int)) ∧ ∃ n, w' = w.drewN n := by
 obtain ⟨hlt, hlg, hbg, hpos, hlen, c0, c1, c2, f1, f2, _⟩ := hw.cells
 clear hw
 go_enter Tryz.func89, Tryz.ntmps89
 go_wp2_with fail
 go_quiet (fail)
 go_wp2_with fail
 go_returns
 exact ⟨int_eq (by omega), nq, rfl⟩
def doneS (len pos : Nat) (err : Int) : Int := if err = 0 ∧ pos < len then 13 else err
theorem doneR_any (b g pos : Nat) (bs : List Int) (err : Int) (w : World) (hw : IsR w b g bs pos err) :
  Calls Tryz.prog 43 #[.pointer (some ⟨b, 0, none⟩)] w fun e w' => e = .returned (.int .i64 (doneS bs.length pos err)) ∧ ∃ n, w' = w.drewN n := by
 obtain ⟨hlt, hlg, hbg, hpos, hlen, c0, c1, c2, f1, f2, _⟩ := hw.cells
 have HW := hid hw
 clear hw
 by_cases he : err = 0
 ·subst he
  by_cases hp : pos < bs.length
  ·rw [show doneS bs.length pos 0 = 13 by simp [doneS, hp]]
   go_enter Tryz.func43, Tryz.ntmps43
   go_wp2_with fail
   refine (left_any b g pos bs 0 _ HW.out).mono ?_
   rintro e w' ⟨rfl, n, rfl⟩
   have hpp : (0 : Int) < ((bs.length - pos : Nat) : Int) := by omega
   go_wp2_with fail
   go_returns
   exact ⟨rfl, _, rfl⟩
  ·rw [show doneS bs.length pos 0 = 0 by simp [doneS]; omega]
   go_enter Tryz.func43, Tryz.ntmps43
   go_wp2_with fail
   refine (left_any b g pos bs 0 _ HW.out).mono ?_
   rintro e w' ⟨rfl, n, rfl⟩
   have hpp : ¬ (0 : Int) < ((bs.length - pos : Nat) : Int) := by omega
   go_wp2_with fail
   go_returns
   exact ⟨rfl, _, rfl⟩
 ·rw [show doneS bs.length pos err = err by simp [doneS, he]]
  have hb : (err == 0) = false := by simpa using he
  have hb2 : (err != 0) = true := by simpa using he
  clear he
  go_enter Tryz.func43, Tryz.ntmps43
  go_wp2_with fail
  go_returns
  exact ⟨rfl, 0, rfl⟩
end
section
open Go.RowKit
def Keeps (A : List Nat) (w w' : World) : Prop := ∀ k ∈ A, w'.heap[k]? = w.heap[k]?
theorem Rd.keeps {w w' : World} {p : Option Addr} {zs : List Int} {A : List Nat} (h : Rd w p zs) (hk : Keeps A w w') (hp : ∀ k ∈ blk p, k ∈ A) : Rd w' p zs := by
 rcases h with h | ⟨g, o, rfl, hc⟩
 ·exact Or.inl h
 ·refine Or.inr ⟨g, o, rfl, fun i hi => ?_⟩
  rw [World.cell?_of_block (hk g (hp g (by simp [blk])))]
  exact hc i hi
theorem Frm.keeps {S A : List Nat} {w w' : World} (h : Frm S w w') (hA : ∀ k ∈ A, k ∉ S ∧ k < w.heap.size) : Keeps A w w' := fun k hk => h.block k (hA k hk).2 (hA k hk).1
def FreshW (w0 w : World) (b : Nat) (room : Int) (s : List Int × Int) (A : List Nat) : Prop := ∃ fp, IsW w b fp room s.1 s.2 ∧ Frm [] w0 w ∧ (∀ k ∈ fp, w0.heap.size ≤ k) ∧ ∀ k ∈ A, k ∉ fp ∧ k < w.heap.size
theorem FreshW.next {w0 w w' : World} {b : Nat} {room : Int} {fp A : List Nat} {s : List Int × Int} (hF : Frm [] w0 w) (hfp : ∀ k ∈ fp, w0.heap.size ≤ k) (hA : ∀ k ∈ A, k ∉ fp ∧ k < w.heap.size) (h : NowW w b fp room s.1 s.2 w') : FreshW w0 w' b room s A ∧ Keeps A w w' := by
 obtain ⟨fp', h1, h2, h3⟩ := h
 refine ⟨⟨fp', h1, hF.trans h2 (fun i hi hlt => absurd (hfp i hi) (Nat.not_le.2 hlt)), fun k hk => (h3 k hk).elim (hfp k) (fun h => Nat.le_trans hF.size h), fun k hk => ⟨fun hk' => ?_, Nat.lt_of_lt_of_le (hA k hk).2 h2.size⟩⟩, h2.keeps hA⟩
 rcases h3 k hk' with h | h
 ·exact (hA k hk).1 h
 ·exact absurd (hA k hk).2 (Nat.not_lt.2 h)
theorem FreshW.born {w0 w : World} {b : Nat} {room : Int} (h : IsW w b [b] room [] 0) (hf : Frm [] w0 w) (hb : w0.heap.size ≤ b) : FreshW w0 w b room ([], 0) [] := ⟨[b], h, hf, by simpa using hb, by simp⟩
theorem FreshW.frm {w0 w : World} {b : Nat} {room : Int} {s : List Int × Int} {A : List Nat} (h : FreshW w0 w b room s A) : Frm [] w0 w := by obtain ⟨_, _, h, _⟩ := h; exact h
section
variable (w0 w : World) (b : Nat) (room : Int) (s : List Int × Int) (A : List Nat) (hw : FreshW w0 w b room s A) (hr0 : 0 ≤ room) (hr1 : room ≤ 2147483647) (hz : (s.1.length : Int) ≤ room)
include hw hr0 hr1 hz
theorem numF_any (n k : Int) (hn : 0 ≤ n) (hn2 : n < 18446744073709551616) (hk : -9223372036854775808 ≤ k) (hk2 : k ≤ 9223372036854775807) :
  Calls Tryz.prog 27 #[.pointer (some ⟨b, 0, none⟩), .int .u64 n, .int .i64 k] w fun e w' => e = .returned (.tuple #[]) ∧ FreshW w0 w' b room (stepW room s (numF n k)) A ∧ Keeps A w w' := by
 obtain ⟨fp, h1, h2, h3, h4⟩ := hw
 exact (num_any b fp room s n k w h1 hr0 hr1 hz hn hn2 hk hk2).mono fun e w' h => ⟨h.1, FreshW.next h2 h3 h4 h.2⟩
theorem bytesF_any (p : Option Addr) (ns : List Int) (c : Nat) (hl : ns.length ≤ 140737488355328) (hc : ns = [] → p = none → c = 0) (hrd : Rd w p ns) :
  Calls Tryz.prog 28 #[.pointer (some ⟨b, 0, none⟩), .slice p ns.length c] w fun e w' => e = .returned (.tuple #[]) ∧ FreshW w0 w' b room (stepW room s (ns, 0)) A ∧ Keeps A w w' := by
 obtain ⟨fp, h1, h2, h3, h4⟩ := hw
 exact (bytes_any b fp room s p ns c w h1 hr0 hr1 hz hl hc hrd).mono fun e w' h => ⟨h.1, FreshW.next h2 h3 h4 h.2⟩
theorem textF_any (t : ByteArray) (ht : t.size ≤ maxLen) :
  Calls Tryz.prog 92 #[.pointer (some ⟨b, 0, none⟩), .string t] w fun e w' => e = .returned (.tuple #[]) ∧ FreshW w0 w' b room (stepW room s (textF t)) A ∧ Keeps A w w' := by
 obtain ⟨fp, h1, h2, h3, h4⟩ := hw
 exact (text_any b fp room s t w h1 hr0 hr1 hz ht).mono fun e w' h => ⟨h.1, FreshW.next h2 h3 h4 h.2⟩
end
theorem doneWF_ok (w0 w : World) (b : Nat) (room : Int) (zs : List Int) (A : List Nat) (hw : FreshW w0 w b room (zs, 0) A) (hr1 : room ≤ 2147483647) (hz : (zs.length : Int) ≤ room) :
  Calls Tryz.prog 26 #[.pointer (some ⟨b, 0, none⟩)] w fun e w' => ∃ g, e = .returned (.tuple #[.slice (some ⟨g, 0, none⟩) zs.length zs.length, .int .i64 0]) ∧ Rd w' (some ⟨g, 0, none⟩) zs ∧ FreshW w0 w' b room (zs, 0) (g :: A) ∧ Keeps A w w' ∧ w0.heap.size ≤ g ∧ g < w'.heap.size := by
 obtain ⟨fp, h1, h2, h3, h4⟩ := hw
 refine (doneW_ok b fp room zs w h1 hr1 hz).mono ?_
 rintro e w' ⟨g, he, hg, hf, hsz⟩
 refine ⟨g, he, (own_of_block (E := 5) hg (by unfold maxLen; omega)).rd, ⟨fp, h1.kept hf (by simp), h2.trans hf (by simp), h3, ?_⟩, hf.keeps (fun k hk => ⟨by simp, (h4 k hk).2⟩), Nat.le_trans h2.size hsz, lt_of_heap hg⟩
 intro k hk
 simp at hk
 rcases hk with rfl | hk
 ·exact ⟨fun h => absurd (h1.lt k h) (Nat.not_lt.2 hsz), lt_of_heap hg⟩
 ·exact ⟨(h4 k hk).1, Nat.lt_of_lt_of_le (h4 k hk).2 hf.size⟩
def FreshR (w0 w : World) (b g : Nat) (bs : List Int) (pos : Nat) (err : Int) : Prop := IsR w b g bs pos err ∧ Frm [] w0 w ∧ w0.heap.size ≤ b ∧ w0.heap.size ≤ g
theorem FreshR.next {w0 w w' : World} {b g : Nat} {bs : List Int} {pos pos' : Nat} {err err' : Int} (h : FreshR w0 w b g bs pos err) (hr : IsR w' b g bs pos' err') (hf : Frm [b] w w') : FreshR w0 w' b g bs pos' err' :=
 ⟨hr, h.2.1.trans hf (fun i hi hlt => by simp at hi; have := h.2.2.1; omega), h.2.2⟩
theorem FreshR.drewN {w0 w : World} {b g : Nat} {bs : List Int} {pos : Nat} {err : Int} (h : FreshR w0 w b g bs pos err) (n : Nat) : FreshR w0 (w.drewN n) b g bs pos err :=
 ⟨h.1.kept ((Frm.refl [] w).drewN n) (by simp) (by simp), h.2.1.drewN n, h.2.2⟩
theorem le_bd (n : Int) (k : Nat) : ∀ z ∈ le n k, 0 ≤ z ∧ z < 256 := by
 intro z hz; simp [le] at hz; obtain ⟨i, _, rfl⟩ := hz; omega
theorem leV_le (n : Nat) (k : Nat) : leV (le (n : Int) k) = ((n % 2 ^ (8 * k) : Nat) : Int) := by
 induction k with
 | zero => simp [le, leV, Nat.mod_one]
 | succ k ih =>
  rw [le_succ, leV_snoc, ih, le_length]
  have e : (2 : Nat) ^ (8 * (k + 1)) = 2 ^ (8 * k) * 256 := by rw [Nat.mul_add, Nat.pow_add]
  rw [e, Nat.mod_mul, show ((2 : Int) ^ (8 * k)) = ((2 ^ (8 * k) : Nat) : Int) by simp]
  generalize 2 ^ (8 * k) = q
  rw [Int.natCast_add, Int.natCast_mul, Int.natCast_emod (n / q) 256, Int.natCast_ediv, Int.mul_comm]
  rfl
theorem leV_fit (n : Int) (k : Nat) (hn : 0 ≤ n) (h : n / 2 ^ (8 * k) = 0) : leV (le n k) = n := by
 obtain ⟨m, rfl⟩ := Int.eq_ofNat_of_zero_le hn
 rw [leV_le]
 have h2 : ((m / 2 ^ (8 * k) : Nat) : Int) = 0 := by rw [Int.natCast_ediv]; simpa using h
 have h3 : m / 2 ^ (8 * k) = 0 := by omega
 have hq : 0 < 2 ^ (8 * k) := Nat.pow_pos (by decide)
 rw [Nat.mod_eq_of_lt]
 exact (Nat.div_eq_zero_iff_lt hq).1 h3
end
section
section
variable {P : Program} {ops : Array Oper} {Q : Exit → Act → World → Prop} {md : Region.Mode} {S : World → Prop}
/-- The first so many operations in whatever order, the condition behind each of them; then what 'L' says. -/
def wpAnyHT (P : Program) (md : Region.Mode) (ops : Array Oper) (Q : Exit → Act → World → Prop) (S : World → Prop) (n : Nat) (L : Array Bool → Act → World → Prop) : Nat → Array Bool → Act → World → Prop
  | 0, listed, a, w => L listed a w
  | f + 1, listed, a, w =>
    Region.ready md ops listed ≠ [] ∧ ∀ i ∈ Region.ready md ops listed, i < n ∧ wpOp P ops Q i (fun a' w' => S w' ∧ wpAnyHT P md ops Q S n L f (listed.setIfInBounds i true) a' w') a w
theorem wpAny_of_headT {n g : Nat} {L : Array Bool → Act → World → Prop} (hL : ∀ listed a w, L listed a w → wpAny P md ops Q g listed a w) :
    ∀ (f : Nat) (listed : Array Bool) (a : Act) (w : World), wpAnyHT P md ops Q S n L f listed a w → wpAny P md ops Q (f + g) listed a w
  | 0, listed, a, w, h => by rw [Nat.zero_add]; exact hL _ _ _ h
  | f + 1, listed, a, w, h => by
    rw [show f + 1 + g = (f + g) + 1 by omega]
    exact ⟨fun h0 => absurd h0 h.1, fun i hi => wpOp_mono (fun a' w' h' => wpAny_of_headT hL f _ a' w' h'.2) (h.2 i hi).2⟩
theorem wpAnyHT_first {n i : Nat} {oi : Oper} {v : Value} {L : Array Bool → Act → World → Prop} (hi : ops[i]? = some oi) (hsel : ∀ (j : Nat) (o : Oper) cs b, ops[j]? = some o → o.op ≠ .select cs b)
    (hQ : ∀ c a w, Q (.panic c) (a.put oi.dst v) w → Q (.panic c) a w)
    (hs : Region.sinkB md ops n = true) (hc : Region.chainB md ops n = true) (hn : n < ops.size) (hin : i < n)
    (hdone : ∀ listed a w, L listed a w → ∀ j ∈ Region.ready md ops listed, n ≤ j) :
    ∀ (f : Nat) (listed : Array Bool) (a : Act) (w : World), HeadInv md ops n listed →
      (∀ j oj, ops[j]? = some oj → j ≠ i → listed.getD j true = false → (∀ e ∈ oj.after, Region.binds md e = true → e.on ≠ i) → oi.apart ops oj = true) →
      i ∈ Region.ready md ops listed → YieldsIf P ops S oi v a → S w →
      wpAnyHT P md ops Q S n L f (listed.setIfInBounds i true) (a.put oi.dst v) w → wpAnyHT P md ops Q S n L (f + 1) listed a w := by
  intro f
  induction f with
  | zero =>
    intro listed a w inv _ hr hy hS H
    have hun := (mem_ready.1 hr).1
    refine ⟨fun h => (by rw [h] at hr; cases hr), fun j hj => ?_⟩
    have hjn : j < n := by
      rcases Nat.lt_or_ge j n with h | h
      · exact h
      · exact absurd hj (tail_waits hs hc hn inv _ i rfl hin hun j h)
    refine ⟨hjn, ?_⟩
    by_cases hji : j = i
    · subst hji; exact hy.wpOp hi hS ⟨hS, H⟩
    · have := hdone _ _ _ H j (ready_mono hj hji)
      omega
  | succ f ih =>
    intro listed a w inv hfree hr hy hS H
    have hun := (mem_ready.1 hr).1
    refine ⟨fun h => (by rw [h] at hr; cases hr), fun j hj => ?_⟩
    have hjn : j < n := by
      rcases Nat.lt_or_ge j n with h | h
      · exact h
      · exact absurd hj (tail_waits hs hc hn inv _ i rfl hin hun j h)
    refine ⟨hjn, ?_⟩
    by_cases hji : j = i
    · subst hji; exact hy.wpOp hi hS ⟨hS, H⟩
    · have h1 := (H.2 j (ready_mono hj hji)).2
      obtain ⟨hjun, oj, hoj, hall⟩ := mem_ready.1 hj
      have hnot : ∀ e ∈ oj.after, Region.binds md e = true → e.on ≠ i := fun e he hb heq => by
        have h1 := hall e he hb
        rw [heq, getD_both hun] at h1
        cases h1
      have h2 := wpOp_putIf hoj (hfree j oj hoj hji hjun hnot) (fun cs b => hsel i oi cs b hi) (fun cs b => hsel j oj cs b hoj) hQ hy h1
      have hfree' : ∀ k ok, ops[k]? = some ok → k ≠ i → (listed.setIfInBounds j true).getD k true = false →
          (∀ e ∈ ok.after, Region.binds md e = true → e.on ≠ i) → oi.apart ops ok = true := fun k ok hk hki hun hno => by
        refine hfree k ok hk hki ?_ hno
        by_cases hjk : j = k
        · subst hjk; exact hjun
        · rw [getD_set_ne true hjk] at hun; exact hun
      refine wpOp_mono (fun a' w' h3 => ⟨h3.2.1, ih (listed.setIfInBounds j true) a' w' (inv.set hj hjn) hfree' (ready_mono hr (Ne.symm hji)) h3.1 h3.2.1 ?_⟩) h2
      rw [Array.setIfInBounds_comm _ _ hji]
      exact h3.2.2
/-- What 'HeadInv' asks, as a Bool. -/
def headInvB (md : Region.Mode) (ops : Array Oper) (n : Nat) (listed : Array Bool) : Bool :=
  decide (listed.size = ops.size) &&
  ((List.range ops.size).all fun j => !listed.getD j false || (match ops[j]? with | some oj => oj.after.all fun e => !Region.binds md e || listed.getD e.on false | none => true)) &&
  ((List.range ops.size).all fun t => decide (t < n) || !listed.getD t true)
theorem headInv_of {n : Nat} {listed : Array Bool} (h : headInvB md ops n listed = true) : HeadInv md ops n listed := by
  unfold headInvB at h
  simp only [Bool.and_eq_true, decide_eq_true_eq] at h
  obtain ⟨⟨h1, h2⟩, h3⟩ := h
  refine ⟨h1, fun j oj hj hl e he hb => ?_, fun t ht htl => ?_⟩
  · have hjlt : j < ops.size := (Array.getElem?_eq_some_iff.1 hj).1
    have h := List.all_eq_true.1 h2 j (List.mem_range.2 hjlt)
    rw [hl, hj] at h
    simp only [Bool.not_true, Bool.false_or] at h
    have h4 := Array.all_eq_true'.1 h e he
    rw [hb] at h4
    simpa using h4
  · have h := List.all_eq_true.1 h3 t (List.mem_range.2 htl)
    simp only [Bool.or_eq_true, decide_eq_true_eq] at h
    rcases h with h | h
    · omega
    · simpa using h
/-- What is asked of the region's form. -/
def tailB (md : Region.Mode) (ops : Array Oper) (n : Nat) : Bool := Region.noSelect ops && decide (n < ops.size) && Region.sinkB md ops n && Region.chainB md ops n
/-- Behind the head: the last ones in their order. -/
def TailL (P : Program) (ops : Array Oper) (Q : Exit → Act → World → Prop) (n : Nat) (l : List Oper) : Array Bool → Act → World → Prop :=
  fun listed a w => Region.seqB .any ops l.length n listed = true ∧ wpList P ops Q l a w
theorem wpAnyHT_take {n i : Nat} {l : List Oper} {oi : Oper} {v : Value} {fuel : Nat} {listed : Array Bool} {a : Act} {w : World} (hB : tailB .any ops n = true) (hi : ops[i]? = some oi) (hin : decide (i < n) = true)
    (hf : Region.free .any ops listed i = true) (hr : (Region.ready .any ops listed).contains i = true) (hI : headInvB .any ops n listed = true)
    (hQ : ∀ c a w, Q (.panic c) (a.put oi.dst v) w → Q (.panic c) a w) (hy : YieldsIf P ops S oi v a) (hS : S w)
    (h : wpAnyHT P .any ops Q S n (TailL P ops Q n l) fuel (listed.setIfInBounds i true) (a.put oi.dst v) w) : wpAnyHT P .any ops Q S n (TailL P ops Q n l) (fuel + 1) listed a w := by
  simp only [tailB, Bool.and_eq_true, decide_eq_true_eq] at hB hin
  obtain ⟨⟨⟨hsel, hn⟩, hs⟩, hc⟩ := hB
  exact wpAnyHT_first hi (Region.noSelect_spec hsel) hQ hs hc hn hin (fun listed a w hL => seqB_ready hL.1) fuel listed a w (headInv_of hI) (Region.free_spec hi hf) (by simpa using hr) hy hS h
/-- One alone may come up: it is carried out, and the condition is shown anew. -/
theorem wpAnyHT_one {n i : Nat} {L : Array Bool → Act → World → Prop} {o : Oper} {fuel : Nat} {listed : Array Bool} {a : Act} {w : World} (ho : ops[i]? = some o) (hr : Region.ready md ops listed = [i]) (hin : decide (i < n) = true)
    (h : ∀ K' : Act → World → Prop, (∀ a w, S w → wpAnyHT P md ops Q S n L fuel (listed.setIfInBounds i true) a w → K' a w) → if Region.wanted o (yielded ops a.tmps) = true then Oper.wp P o a w K' Q else K' (a.put o.dst undef) w) :
    wpAnyHT P md ops Q S n L (fuel + 1) listed a w := by
  refine ⟨by rw [hr]; simp, fun j hj => ?_⟩
  rw [hr, List.mem_singleton] at hj
  subst hj
  exact ⟨of_decide_eq_true hin, wpOp_step ho (fun K' hK => h K' (fun a w hS hW => hK a w ⟨hS, hW⟩))⟩
theorem wpAnyHT_end {n : Nat} {l : List Oper} {listed : Array Bool} {a : Act} {w : World} (hq : Region.seqB .any ops l.length n listed = true) (h : wpList P ops Q l a w) : wpAnyHT P .any ops Q S n (TailL P ops Q n l) 0 listed a w := ⟨hq, h⟩
/-- The beginning. -/
theorem wp_region_tail {id : Nat} {a : Act} {w : World} {l : List Oper} (n m : Nat) (hlen : l.length = m) (hm : P.follows .mixedOrders = true) (hn : decide (n ≤ l.length) = true)
    (h : wpAnyHT P .any l.toArray Q S n (TailL P l.toArray Q n (l.drop n)) n (Array.replicate m false) a w.drew) : (Code.region id l.toArray true).wp P Q a w := by
  have hn' : n ≤ l.length := of_decide_eq_true hn
  subst hlen
  refine wp_region_any hm ?_
  have := wpAny_of_headT (Q := Q) (g := (l.drop n).length) (fun listed a' w' hL => wpAny_of_seq (md := .any) (Q' := Q) (l.drop n) n listed a' w' (fun j => by simp [List.getElem?_drop]) hL.1 hL.2) _ _ _ _ h
  rw [List.length_drop, show n + (l.length - n) = l.length by omega] at this
  simpa using this
end
theorem lA {α : Type} {xs : List α} {i : Nat} (h : i < xs.toArray.size) : xs.toArray[i] = xs[i]'(by simpa using h) := List.getElem_toArray h
theorem lS {α : Type} {i : Nat} {a : α} {xs : List α} (h : i + 1 < (a :: xs).length) : (a :: xs)[i + 1] = xs[i]'(Nat.lt_of_succ_lt_succ h) := rfl
theorem lZ {α : Type} {a : α} {xs : List α} (h : 0 < (a :: xs).length) : (a :: xs)[0] = a := rfl
theorem lI {α : Type} {l : List α} {i : Nat} {a : α} : l.toArray.setIfInBounds i a = (l.set i a).toArray := by simp
theorem lW {α : Type} {x : α} {xs : List α} {a : α} : (x :: xs).set 0 a = a :: xs := List.set_cons_zero
theorem lX {α : Type} {x : α} {xs : List α} {n : Nat} {a : α} : (x :: xs).set (n + 1) a = x :: xs.set n a := List.set_cons_succ
section
variable {P : Program} {ops : Array Oper} {Q : Exit → Act → World → Prop} {S : World → Prop}
def htkB (ops : Array Oper) (n i : Nat) (listed : Array Bool) : Bool := tailB .any ops n && (decide (i < n) && (Region.free .any ops listed i && ((Region.ready .any ops listed).contains i && headInvB .any ops n listed)))
theorem htk {n i : Nat} {l : List Oper} {oi : Oper} {v : Value} {fuel : Nat} {listed : Array Bool} {a : Act} {w : World} (hB : htkB ops n i listed = true) (hi : ops[i]? = some oi)
    (hQ : ∀ c a w, Q (.panic c) (a.put oi.dst v) w → Q (.panic c) a w) (hy : YieldsIf P ops S oi v a) (hS : S w)
    (h : wpAnyHT P .any ops Q S n (TailL P ops Q n l) fuel (listed.setIfInBounds i true) (a.put oi.dst v) w) : wpAnyHT P .any ops Q S n (TailL P ops Q n l) (fuel + 1) listed a w := by
  unfold htkB at hB
  simp only [Bool.and_eq_true] at hB
  obtain ⟨h1, h2, h3, h4, h5⟩ := hB
  exact wpAnyHT_take h1 hi h2 h3 h4 h5 hQ hy hS h
end
section
variable {P : Program} {ops : Array Oper} {Q : Exit → Act → World → Prop} {S : World → Prop}
theorem hI {n i : Nat} {l : List Oper} {oi : Oper} {v : Value} {fuel : Nat} {listed : Array Bool} {a : Act} {w : World} (hi : ops[i]? = some oi) (hy : ∀ w, S w → (execOp a.eval oi).run P w = .ok (.value v) w) (hS : S w)
    (h : wpAnyHT P .any ops Q S n (TailL P ops Q n l) fuel (listed.setIfInBounds i true) (a.put oi.dst v) w) (hB : htkB ops n i listed = true := by kernel_rfl) (hw : Region.wanted oi (yielded ops a.tmps) = true := by rfl) (hQ : ∀ c a w, Q (.panic c) (a.put oi.dst v) w → Q (.panic c) a w := by exact fun _ _ _ h => h) : wpAnyHT P .any ops Q S n (TailL P ops Q n l) (fuel + 1) listed a w := htk hB hi hQ (Or.inl ⟨hw, hy⟩) hS h
theorem hU {n i : Nat} {l : List Oper} {oi : Oper} {fuel : Nat} {listed : Array Bool} {a : Act} {w : World} (hi : ops[i]? = some oi) (hS : S w)
    (h : wpAnyHT P .any ops Q S n (TailL P ops Q n l) fuel (listed.setIfInBounds i true) (a.put oi.dst undef) w) (hB : htkB ops n i listed = true := by kernel_rfl) (hw : Region.wanted oi (yielded ops a.tmps) = false := by rfl) (hQ : ∀ c a w, Q (.panic c) (a.put oi.dst undef) w → Q (.panic c) a w := by exact fun _ _ _ h => h) : wpAnyHT P .any ops Q S n (TailL P ops Q n l) (fuel + 1) listed a w := htk hB hi hQ (Or.inr ⟨hw, rfl⟩) hS h
end

end
section
open Go.RowKit Go.Lib
def rwC : Array Value := #[.func (.func 44) #[] #[], .func (.func 45) #[] #[], .func (.func 46) #[] #[], .func (.func 47) #[] #[]]
def rw1 : Array Value := #[.func (.func 48) #[] #[], .func (.func 49) #[] #[], .func (.func 50) #[] #[], .func (.func 51) #[] #[]]
def rw2 : Array Value := #[.func (.func 52) #[] #[], .func (.func 53) #[] #[], .func (.func 54) #[] #[], .func (.func 55) #[] #[]]
def rw3 : Array Value := #[.func (.func 56) #[] #[], .func (.func 57) #[] #[], .func (.func 58) #[] #[], .func (.func 59) #[] #[]]
def rw4 : Array Value := #[.func (.func 60) #[] #[], .func (.func 61) #[] #[], .func (.func 62) #[] #[], .func (.func 63) #[] #[]]
def rw5 : Array Value := #[.func (.func 64) #[] #[], .func (.func 65) #[] #[], .func (.func 66) #[] #[], .func (.func 67) #[] #[]]
def rowsT : Nat → Array MapEntry
 | 0 => #[]
 | 1 => #[⟨.int .i64 1, .agg rw1, 0⟩]
 | 2 => #[⟨.int .i64 1, .agg rw1, 0⟩, ⟨.int .i64 2, .agg rw2, 1⟩]
 | 3 => #[⟨.int .i64 1, .agg rw1, 0⟩, ⟨.int .i64 2, .agg rw2, 1⟩, ⟨.int .i64 3, .agg rw3, 2⟩]
 | 4 => #[⟨.int .i64 1, .agg rw1, 0⟩, ⟨.int .i64 2, .agg rw2, 1⟩, ⟨.int .i64 3, .agg rw3, 2⟩, ⟨.int .i64 4, .agg rw4, 3⟩]
 | 5 => #[⟨.int .i64 1, .agg rw1, 0⟩, ⟨.int .i64 2, .agg rw2, 1⟩, ⟨.int .i64 3, .agg rw3, 2⟩, ⟨.int .i64 4, .agg rw4, 3⟩, ⟨.int .i64 5, .agg rw5, 4⟩]
 | 6 => #[⟨.int .i64 1, .agg rw1, 0⟩, ⟨.int .i64 2, .agg rw2, 1⟩, ⟨.int .i64 3, .agg rw3, 2⟩, ⟨.int .i64 4, .agg rw4, 3⟩, ⟨.int .i64 5, .agg rw5, 4⟩, ⟨.int .i64 6, .agg rwC, 5⟩]
 | _ => #[⟨.int .i64 1, .agg rw1, 0⟩, ⟨.int .i64 2, .agg rw2, 1⟩, ⟨.int .i64 3, .agg rw3, 2⟩, ⟨.int .i64 4, .agg rw4, 3⟩, ⟨.int .i64 5, .agg rw5, 4⟩, ⟨.int .i64 6, .agg rwC, 5⟩, ⟨.int .i64 7, .agg rwC, 6⟩]
theorem rowsT_int (t : Nat) : IntK (rowsT t).toList := by
 intro e he
 unfold rowsT at he
 split at he <;> simp at he
 all_goals (rcases he with rfl | rfl | rfl | rfl | rfl | rfl | rfl <;> exact ⟨_, rfl⟩)
theorem put_row {w : World} {r : Nat} (t : Nat) (k : Int) (v : Array Value) (hb : w.heap[r]? = some (.map (rowsT t) t)) (hn : lkR k (rowsT t).toList = none) (hs : (rowsT t).push ⟨.int .i64 k, .agg v, t⟩ = rowsT (t + 1)) :
  ∃ w' : World, (Instr.mapUpdate 60 (.map (some r)) (.int .i64 k) (.agg v)).run Tryz.prog w = .ok () w' ∧ w'.heap[r]? = some (.map (rowsT (t + 1)) (t + 1)) ∧ Frm [r] w w' := by
 have h := run_putR (P := Tryz.prog) (w := w) 60 3 58 r t (rowsT t) k (.agg v) Tryz.underlying60 Tryz.underlying3 hb (rowsT_int t) hn
 rw [hs] at h
 have hlt := (Array.getElem?_eq_some_iff.1 hb).1
 refine ⟨_, h, by simp [hlt], ⟨rfl, rfl, rfl, by simp, fun k _ hn => ?_⟩⟩
 have hne : r ≠ k := fun e => hn (by rw [e]; simp)
 simp [hne]
theorem rows_any (w : World) : Calls Tryz.prog 23 #[] w fun e w' => ∃ b, e = .returned (.map (some b)) ∧ w.heap.size ≤ b ∧ w'.heap[b]? = some (.map (rowsT 7) 7) ∧ Frm [] w w' := by
 obtain ⟨PO, hPO⟩ : ∃ PO : Ending → World → Prop, (fun e w' => ∃ b, e = .returned (.map (some b)) ∧ w.heap.size ≤ b ∧ w'.heap[b]? = some (.map (rowsT 7) 7) ∧ Frm [] w w') = PO := ⟨_, rfl⟩
 rw [hPO]
 have HP : Hid (∀ b w', w.heap.size ≤ b → w'.heap[b]? = some (.map (rowsT 7) 7) → Frm [] w w' → PO (.returned (.map (some b))) w') := hid (fun b w' h1 h2 h3 => by rw [← hPO]; exact ⟨b, rfl, h1, h2, h3⟩)
 have hmm := @run_makeMap Tryz.prog
 have hb0 : ∀ V, (Instr.build 58 #[(0, .func (.func 48) #[] #[]), (1, .func (.func 49) #[] #[]), (2, .func (.func 50) #[] #[]), (3, .func (.func 51) #[] #[])]).run Tryz.prog V = .ok (.agg #[.func (.func 48) #[] #[], .func (.func 49) #[] #[], .func (.func 50) #[] #[], .func (.func 51) #[] #[]]) V := fun V => run_build V _ _ _ (by kernel_rfl)
 have hb1 : ∀ V, (Instr.build 58 #[(0, .func (.func 52) #[] #[]), (1, .func (.func 53) #[] #[]), (2, .func (.func 54) #[] #[]), (3, .func (.func 55) #[] #[])]).run Tryz.prog V = .ok (.agg #[.func (.func 52) #[] #[], .func (.func 53) #[] #[], .func (.func 54) #[] #[], .func (.func 55) #[] #[]]) V := fun V => run_build V _ _ _ (by kernel_rfl)
 have hb2 : ∀ V, (Instr.build 58 #[(0, .func (.func 56) #[] #[]), (1, .func (.func 57) #[] #[]), (2, .func (.func 58) #[] #[]), (3, .func (.func 59) #[] #[])]).run Tryz.prog V = .ok (.agg #[.func (.func 56) #[] #[], .func (.func 57) #[] #[], .func (.func 58) #[] #[], .func (.func 59) #[] #[]]) V := fun V => run_build V _ _ _ (by kernel_rfl)
 have hb3 : ∀ V, (Instr.build 58 #[(0, .func (.func 60) #[] #[]), (1, .func (.func 61) #[] #[]), (2, .func (.func 62) #[] #[]), (3, .func (.func 63) #[] #[])]).run Tryz.prog V = .ok (.agg #[.func (.func 60) #[] #[], .func (.func 61) #[] #[], .func (.func 62) #[] #[], .func (.func 63) #[] #[]]) V := fun V => run_build V _ _ _ (by kernel_rfl)
 have hb4 : ∀ V, (Instr.build 58 #[(0, .func (.func 64) #[] #[]), (1, .func (.func 65) #[] #[]), (2, .func (.func 66) #[] #[]), (3, .func (.func 67) #[] #[])]).run Tryz.prog V = .ok (.agg #[.func (.func 64) #[] #[], .func (.func 65) #[] #[], .func (.func 66) #[] #[], .func (.func 67) #[] #[]]) V := fun V => run_build V _ _ _ (by kernel_rfl)
 have hb5 : ∀ V, (Instr.build 58 #[(0, .func (.func 44) #[] #[]), (1, .func (.func 45) #[] #[]), (2, .func (.func 46) #[] #[]), (3, .func (.func 47) #[] #[])]).run Tryz.prog V = .ok (.agg #[.func (.func 44) #[] #[], .func (.func 45) #[] #[], .func (.func 46) #[] #[], .func (.func 47) #[] #[]]) V := fun V => run_build V _ _ _ (by kernel_rfl)
 obtain ⟨w1, hw1⟩ := eX (w.alloc (.cells #[.func (.func 44) #[] #[], .func (.func 45) #[] #[], .func (.func 46) #[] #[], .func (.func 47) #[] #[]] 58))
 have hrow := heap_alloc_new w (.cells #[.func (.func 44) #[] #[], .func (.func 45) #[] #[], .func (.func 46) #[] #[], .func (.func 47) #[] #[]] 58)
 have hf1 : Frm [] w w1 := by rw [← hw1]; exact (Frm.refl _ _).alloc _
 obtain ⟨cr, hcr⟩ := eX (w.heap.size)
 rw [hw1, hcr] at hrow
 have g0 := heap_alloc_new w1 (.map #[] 0)
 have hf2 : Frm [] w1 (w1.alloc (.map #[] 0)) := (Frm.refl _ _).alloc _
 have hlt := lt_of_heap hrow
 obtain ⟨w2, hw2⟩ := eX (w1.alloc (.map #[] 0))
 obtain ⟨mb, hmb⟩ := eX (w1.heap.size)
 rw [hmb] at g0 hlt
 rw [hw2] at g0 hf2
 obtain ⟨w3, e1, g1, k1⟩ := put_row (w := w2) 0 1 rw1 g0 rfl rfl
 obtain ⟨w4, e2, g2, k2⟩ := put_row (w := w3) 1 2 rw2 g1 rfl rfl
 obtain ⟨w5, e3, g3, k3⟩ := put_row (w := w4) 2 3 rw3 g2 rfl rfl
 obtain ⟨w6, e4, g4, k4⟩ := put_row (w := w5) 3 4 rw4 g3 rfl rfl
 obtain ⟨w7, e5, g5, k5⟩ := put_row (w := w6) 4 5 rw5 g4 rfl rfl
 obtain ⟨w8, e6, g6, k6⟩ := put_row (w := w7) 5 6 rwC g5 rfl rfl
 obtain ⟨w9, e7, g7, k7⟩ := put_row (w := w8) 6 7 rwC g6 rfl rfl
 unfold rw1 at e1
 unfold rw2 at e2
 unfold rw3 at e3
 unfold rw4 at e4
 unfold rw5 at e5
 unfold rwC at e6 e7
 have hall : Frm [mb] w2 w9 := ((((((k1.trans k2 (fun i hi _ => hi)).trans k3 (fun i hi _ => hi)).trans k4 (fun i hi _ => hi)).trans k5 (fun i hi _ => hi)).trans k6 (fun i hi _ => hi)).trans k7 (fun i hi _ => hi))
 have h7 : w7.heap[cr]? = some (.cells #[.func (.func 44) #[] #[], .func (.func 45) #[] #[], .func (.func 46) #[] #[], .func (.func 47) #[] #[]] 58 (0, 0)) := (((((k1.trans k2 (fun i hi _ => hi)).trans k3 (fun i hi _ => hi)).trans k4 (fun i hi _ => hi)).trans k5 (fun i hi _ => hi))).heap (hf2.heap hrow (by simp)) (by simp; omega)
 have h8 : w8.heap[cr]? = some (.cells #[.func (.func 44) #[] #[], .func (.func 45) #[] #[], .func (.func 46) #[] #[], .func (.func 47) #[] #[]] 58 (0, 0)) := k6.heap h7 (by simp; omega)
 have x0 := cR 0 (.func (.func 44) #[] #[]) h7
 have y0 := cR 0 (.func (.func 44) #[] #[]) h8
 have x1 := cR 1 (.func (.func 45) #[] #[]) h7
 have y1 := cR 1 (.func (.func 45) #[] #[]) h8
 have x2 := cR 2 (.func (.func 46) #[] #[]) h7
 have y2 := cR 2 (.func (.func 46) #[] #[]) h8
 have x3 := cR 3 (.func (.func 47) #[] #[]) h7
 have y3 := cR 3 (.func (.func 47) #[] #[]) h8
 have HX : Hid (w.heap.size ≤ mb ∧ w9.heap[mb]? = some (.map (rowsT 7) 7) ∧ Frm [] w w9) := hid ⟨by omega, g7, (hf1.trans hf2 (by simp)).trans hall (fun i hi hl => by rw [List.mem_singleton] at hi; omega)⟩
 have HW1 := hid hw1
 have HCR := hid hcr
 have HW2 := hid hw2
 have HMB := hid hmb
 clear hw1 hcr hw2 hmb hPO hrow hf1 g0 hf2 hlt g1 g2 g3 g4 g5 g6 g7 k1 k2 k3 k4 k5 k6 k7 hall h7 h8
 go_enter Tryz.func23, Tryz.ntmps23
 go_upto_region 2 with fail
 try rw [HCR.out]
 try rw [HW1.out]
 rw [← HW2.out] at e1
 rw [← HMB.out] at e1 e2 e3 e4 e5 e6 e7
 go_wp2_with fail
 try go_returns
 show PO (.returned (.map (some w1.heap.size))) w9
 rw [HMB.out]
 exact HP.out _ _ HX.out.1 HX.out.2.1 HX.out.2.2
end
section
open Go.RowKit
theorem rd_byte {w : World} {p : Option Addr} {zs : List Int} {i : Nat} (h : Rd w p zs) (hi : i < zs.length) : ∃ g o, p = some ⟨g, o, none⟩ ∧ w.cell? ⟨g, o + i, none⟩ = some (.int .u8 (zs.getD i 0)) := by
 rcases h with h | ⟨g, o, rfl, hc⟩
 ·subst h; simp at hi
 ·exact ⟨g, o, rfl, hc i hi⟩
def ror (x : Int) (k : Nat) : Int := bits .or .u32 (IntKind.u32.wrap (x * 2 ^ (32 - k))) (x / 2 ^ k)
theorem rotl_2 (x : Int) (w : World) :
  Calls Tryz.prog 132 #[.int .u32 x, .int .i64 (-2)] w fun e w' => e = .returned (.int .u32 (ror x 2)) ∧ w' = w := by
 have h1 : bits .and .u64 (IntKind.u64.wrap (-2)) 31 = 30 := by decide +kernel
 go_enter Tryz.func132, Tryz.ntmps132
 go_wp2_with fail
 go_returns
 exact ⟨rfl, rfl⟩
theorem right_2 (x : Int) (w : World) :
  Calls Tryz.prog 129 #[.int .u32 x, .int .i64 2] w fun e w' => e = .returned (.int .u32 (ror x 2)) ∧ w' = w := by
 go_enter Tryz.func129, Tryz.ntmps129
 go_wp2_with fail
 refine (rotl_2 x w).mono ?_
 rintro e w1 ⟨rfl, rfl⟩
 go_wp2_with fail
 go_returns
 exact ⟨rfl, rfl⟩
theorem rotl_6 (x : Int) (w : World) :
  Calls Tryz.prog 132 #[.int .u32 x, .int .i64 (-6)] w fun e w' => e = .returned (.int .u32 (ror x 6)) ∧ w' = w := by
 have h1 : bits .and .u64 (IntKind.u64.wrap (-6)) 31 = 26 := by decide +kernel
 go_enter Tryz.func132, Tryz.ntmps132
 go_wp2_with fail
 go_returns
 exact ⟨rfl, rfl⟩
theorem right_6 (x : Int) (w : World) :
  Calls Tryz.prog 129 #[.int .u32 x, .int .i64 6] w fun e w' => e = .returned (.int .u32 (ror x 6)) ∧ w' = w := by
 go_enter Tryz.func129, Tryz.ntmps129
 go_wp2_with fail
 refine (rotl_6 x w).mono ?_
 rintro e w1 ⟨rfl, rfl⟩
 go_wp2_with fail
 go_returns
 exact ⟨rfl, rfl⟩
theorem rotl_7 (x : Int) (w : World) :
  Calls Tryz.prog 132 #[.int .u32 x, .int .i64 (-7)] w fun e w' => e = .returned (.int .u32 (ror x 7)) ∧ w' = w := by
 have h1 : bits .and .u64 (IntKind.u64.wrap (-7)) 31 = 25 := by decide +kernel
 go_enter Tryz.func132, Tryz.ntmps132
 go_wp2_with fail
 go_returns
 exact ⟨rfl, rfl⟩
theorem right_7 (x : Int) (w : World) :
  Calls Tryz.prog 129 #[.int .u32 x, .int .i64 7] w fun e w' => e = .returned (.int .u32 (ror x 7)) ∧ w' = w := by
 go_enter Tryz.func129, Tryz.ntmps129
 go_wp2_with fail
 refine (rotl_7 x w).mono ?_
 rintro e w1 ⟨rfl, rfl⟩
 go_wp2_with fail
 go_returns
 exact ⟨rfl, rfl⟩
theorem rotl_11 (x : Int) (w : World) :
  Calls Tryz.prog 132 #[.int .u32 x, .int .i64 (-11)] w fun e w' => e = .returned (.int .u32 (ror x 11)) ∧ w' = w := by
 have h1 : bits .and .u64 (IntKind.u64.wrap (-11)) 31 = 21 := by decide +kernel
 go_enter Tryz.func132, Tryz.ntmps132
 go_wp2_with fail
 go_returns
 exact ⟨rfl, rfl⟩
theorem right_11 (x : Int) (w : World) :
  Calls Tryz.prog 129 #[.int .u32 x, .int .i64 11] w fun e w' => e = .returned (.int .u32 (ror x 11)) ∧ w' = w := by
 go_enter Tryz.func129, Tryz.ntmps129
 go_wp2_with fail
 refine (rotl_11 x w).mono ?_
 rintro e w1 ⟨rfl, rfl⟩
 go_wp2_with fail
 go_returns
 exact ⟨rfl, rfl⟩
theorem rotl_13 (x : Int) (w : World) :
  Calls Tryz.prog 132 #[.int .u32 x, .int .i64 (-13)] w fun e w' => e = .returned (.int .u32 (ror x 13)) ∧ w' = w := by
 have h1 : bits .and .u64 (IntKind.u64.wrap (-13)) 31 = 19 := by decide +kernel
 go_enter Tryz.func132, Tryz.ntmps132
 go_wp2_with fail
 go_returns
 exact ⟨rfl, rfl⟩
theorem right_13 (x : Int) (w : World) :
  Calls Tryz.prog 129 #[.int .u32 x, .int .i64 13] w fun e w' => e = .returned (.int .u32 (ror x 13)) ∧ w' = w := by
 go_enter Tryz.func129, Tryz.ntmps129
 go_wp2_with fail
 refine (rotl_13 x w).mono ?_
 rintro e w1 ⟨rfl, rfl⟩
 go_wp2_with fail
 go_returns
 exact ⟨rfl, rfl⟩
theorem rotl_17 (x : Int) (w : World) :
  Calls Tryz.prog 132 #[.int .u32 x, .int .i64 (-17)] w fun e w' => e = .returned (.int .u32 (ror x 17)) ∧ w' = w := by
 have h1 : bits .and .u64 (IntKind.u64.wrap (-17)) 31 = 15 := by decide +kernel
 go_enter Tryz.func132, Tryz.ntmps132
 go_wp2_with fail
 go_returns
 exact ⟨rfl, rfl⟩
theorem right_17 (x : Int) (w : World) :
  Calls Tryz.prog 129 #[.int .u32 x, .int .i64 17] w fun e w' => e = .returned (.int .u32 (ror x 17)) ∧ w' = w := by
 go_enter Tryz.func129, Tryz.ntmps129
 go_wp2_with fail
 refine (rotl_17 x w).mono ?_
 rintro e w1 ⟨rfl, rfl⟩
 go_wp2_with fail
 go_returns
 exact ⟨rfl, rfl⟩
theorem rotl_18 (x : Int) (w : World) :
  Calls Tryz.prog 132 #[.int .u32 x, .int .i64 (-18)] w fun e w' => e = .returned (.int .u32 (ror x 18)) ∧ w' = w := by
 have h1 : bits .and .u64 (IntKind.u64.wrap (-18)) 31 = 14 := by decide +kernel
 go_enter Tryz.func132, Tryz.ntmps132
 go_wp2_with fail
 go_returns
 exact ⟨rfl, rfl⟩
theorem right_18 (x : Int) (w : World) :
  Calls Tryz.prog 129 #[.int .u32 x, .int .i64 18] w fun e w' => e = .returned (.int .u32 (ror x 18)) ∧ w' = w := by
 go_enter Tryz.func129, Tryz.ntmps129
 go_wp2_with fail
 refine (rotl_18 x w).mono ?_
 rintro e w1 ⟨rfl, rfl⟩
 go_wp2_with fail
 go_returns
 exact ⟨rfl, rfl⟩
theorem rotl_19 (x : Int) (w : World) :
  Calls Tryz.prog 132 #[.int .u32 x, .int .i64 (-19)] w fun e w' => e = .returned (.int .u32 (ror x 19)) ∧ w' = w := by
 have h1 : bits .and .u64 (IntKind.u64.wrap (-19)) 31 = 13 := by decide +kernel
 go_enter Tryz.func132, Tryz.ntmps132
 go_wp2_with fail
 go_returns
 exact ⟨rfl, rfl⟩
theorem right_19 (x : Int) (w : World) :
  Calls Tryz.prog 129 #[.int .u32 x, .int .i64 19] w fun e w' => e = .returned (.int .u32 (ror x 19)) ∧ w' = w := by
 go_enter Tryz.func129, Tryz.ntmps129
 go_wp2_with fail
 refine (rotl_19 x w).mono ?_
 rintro e w1 ⟨rfl, rfl⟩
 go_wp2_with fail
 go_returns
 exact ⟨rfl, rfl⟩
theorem rotl_22 (x : Int) (w : World) :
  Calls Tryz.prog 132 #[.int .u32 x, .int .i64 (-22)] w fun e w' => e = .returned (.int .u32 (ror x 22)) ∧ w' = w := by
 have h1 : bits .and .u64 (IntKind.u64.wrap (-22)) 31 = 10 := by decide +kernel
 go_enter Tryz.func132, Tryz.ntmps132
 go_wp2_with fail
 go_returns
 exact ⟨rfl, rfl⟩
theorem right_22 (x : Int) (w : World) :
  Calls Tryz.prog 129 #[.int .u32 x, .int .i64 22] w fun e w' => e = .returned (.int .u32 (ror x 22)) ∧ w' = w := by
 go_enter Tryz.func129, Tryz.ntmps129
 go_wp2_with fail
 refine (rotl_22 x w).mono ?_
 rintro e w1 ⟨rfl, rfl⟩
 go_wp2_with fail
 go_returns
 exact ⟨rfl, rfl⟩
theorem rotl_25 (x : Int) (w : World) :
  Calls Tryz.prog 132 #[.int .u32 x, .int .i64 (-25)] w fun e w' => e = .returned (.int .u32 (ror x 25)) ∧ w' = w := by
 have h1 : bits .and .u64 (IntKind.u64.wrap (-25)) 31 = 7 := by decide +kernel
 go_enter Tryz.func132, Tryz.ntmps132
 go_wp2_with fail
 go_returns
 exact ⟨rfl, rfl⟩
theorem right_25 (x : Int) (w : World) :
  Calls Tryz.prog 129 #[.int .u32 x, .int .i64 25] w fun e w' => e = .returned (.int .u32 (ror x 25)) ∧ w' = w := by
 go_enter Tryz.func129, Tryz.ntmps129
 go_wp2_with fail
 refine (rotl_25 x w).mono ?_
 rintro e w1 ⟨rfl, rfl⟩
 go_wp2_with fail
 go_returns
 exact ⟨rfl, rfl⟩
def turnK (K : Int) : Bool := K == 2 || K == 6 || K == 7 || K == 11 || K == 13 || K == 17 || K == 18 || K == 19 || K == 22 || K == 25
def rorI (x K : Int) : Int := ror x K.toNat
theorem right_all (x K : Int) (hK : turnK K = true) (w : World) :
  Calls Tryz.prog 129 #[.int .u32 x, .int .i64 K] w fun e w' => e = .returned (.int .u32 (rorI x K)) ∧ w' = w := by
 simp only [turnK, Bool.or_eq_true, beq_iff_eq] at hK
 rcases hK with ((((((((rfl | rfl) | rfl) | rfl) | rfl) | rfl) | rfl) | rfl) | rfl) | rfl
 ·exact right_2 x w
 ·exact right_6 x w
 ·exact right_7 x w
 ·exact right_11 x w
 ·exact right_13 x w
 ·exact right_17 x w
 ·exact right_18 x w
 ·exact right_19 x w
 ·exact right_22 x w
 ·exact right_25 x w
def lowW (a b c d : Int) : Int := bits .or .u32 (bits .or .u32 (bits .or .u32 a (b * 256)) (c * 65536)) (d * 16777216)
theorem low_any (a b c d : Int) (w : World) (ha : 0 ≤ a ∧ a < 256) (hb : 0 ≤ b ∧ b < 256) (hc : 0 ≤ c ∧ c < 256) (hd : 0 ≤ d ∧ d < 256) :
  Calls Tryz.prog 121 #[.int .u8 a, .int .u8 b, .int .u8 c, .int .u8 d] w fun e w' => e = .returned (.int .u32 (lowW a b c d)) ∧ w' = w := by
 obtain ⟨a0, a1⟩ := ha
 obtain ⟨b0, b1⟩ := hb
 obtain ⟨c0, c1⟩ := hc
 obtain ⟨d0, d1⟩ := hd
 go_enter Tryz.func121, Tryz.ntmps121
 go_wp2_with fail
 go_returns
 exact ⟨rfl, rfl⟩
def pairW (h l : Int) : Int := bits .or .u64 (h * 4294967296) l
theorem pair_any (h l : Int) (w : World) (hh : 0 ≤ h ∧ h < 4294967296) (hl : 0 ≤ l ∧ l < 4294967296) :
  Calls Tryz.prog 123 #[.int .u32 h, .int .u32 l] w fun e w' => e = .returned (.int .u64 (pairW h l)) ∧ w' = w := by
 obtain ⟨a0, a1⟩ := hh
 obtain ⟨b0, b1⟩ := hl
 go_enter Tryz.func123, Tryz.ntmps123
 go_wp2_with fail
 go_returns
 exact ⟨rfl, rfl⟩
end
end Go.Proofs.YtajfjkfnmmfhmaaGreatDoor
