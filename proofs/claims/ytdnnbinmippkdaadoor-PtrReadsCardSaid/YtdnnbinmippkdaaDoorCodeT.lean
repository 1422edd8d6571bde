/- Contracts of package code's reader's methods: Bytes, Text, Pad, Left, Done. -/
import Derived.Test.YtdnnbinmippkdaaDoorCodeN
namespace Go.Proofs.YtdnnbinmippkdaaDoor
open Go.RowKit
set_option maxRecDepth 100000

/-- In a captured variable stands a row of bytes of its own, new since w. -/
def HoldsB (y : Nat) (zs : List Int) (m : Nat) (w1 : World) : Prop := ∃ p c, Holds y (.slice p zs.length c) w1 ∧ Own w1 5 (.slice p zs.length c) zs ∧ ∀ k ∈ blk p, m ≤ k
/-- Bytes' reading. -/
def bytesT (ls : List Int) (k : Int) : List Int × Nat × Int := if k < 0 then ([], 0, 1) else if ls.length < k then ([], 0, 10) else (ls.take k.toNat, k.toNat, 0)
theorem heap_alloc_at (w : World) (o : Obj) {k : Nat} (h : w.heap.size = k) : (w.alloc o).heap[k]? = some o := by subst h; exact heap_alloc_new _ _
theorem bytesT_len (ls : List Int) (k : Int) : (bytesT ls k).2.1 ≤ ls.length := by
  unfold bytesT
  split
  · simp
  · split
    · simp
    · simp; omega
theorem holdsB_nil {y m : Nat} {w : World} (h : Holds y (.slice none 0 0) w) : HoldsB y [] m w := ⟨none, 0, h, Own.nil _ _, by simp [blk]⟩
set_option maxHeartbeats 400000 in
theorem bytes1R_any (x y g o c : Nat) (k : Int) (ls : List Int) (w : World) (hrd : Rd w (some ⟨g, o, none⟩) ls) (hc : ls.length ≤ c) (hc2 : c ≤ 140737488355328) (hxy : x ≠ y) (hyg : y ≠ g)
    (hk : -9223372036854775808 ≤ k) (hk2 : k ≤ 9223372036854775807) (hx : w.cell? ⟨x, 0, none⟩ = some (.int .i64 k)) (hy : w.cell? ⟨y, 0, none⟩ = some (.slice none 0 0)) (hyf : w.frozen? ⟨y, 0, none⟩ = false) :
    Calls Tryd.prog 82 #[.slice (some ⟨g, o, none⟩) ls.length c, .pointer (some ⟨x, 0, none⟩), .pointer (some ⟨y, 0, none⟩)] w (GivesR (bytesT ls k).2.1 (bytesT ls k).2.2 [y] (HoldsB y (bytesT ls k).1 w.heap.size) w) := by
  have HY := hid (holdsB_nil (m := w.heap.size) hy)
  by_cases h1 : k < 0
  · rw [show bytesT ls k = ([], 0, 1) by unfold bytesT; rw [if_pos h1]]
    go_enter Tryd.func82, Tryd.ntmps82
    go_wp2_with fail
    go_returns
    exact ⟨rfl, HY.out, Frm.refl _ _⟩
  · obtain ⟨j, rfl⟩ : ∃ j : Nat, k = (j : Int) := ⟨k.toNat, by omega⟩
    by_cases h2 : ls.length < j
    · rw [show bytesT ls j = ([], 0, 10) by unfold bytesT; rw [if_neg h1, if_pos (by omega)]]
      go_enter Tryd.func82, Tryd.ntmps82
      go_wp2_with fail
      go_returns
      exact ⟨rfl, HY.out, Frm.refl _ _⟩
    · rw [show bytesT ls j = (ls.take j, j, 0) by unfold bytesT; rw [if_neg h1, if_neg (by omega)]; simp]
      by_cases h3 : j = 0
      · subst h3
        go_enter Tryd.func82, Tryd.ntmps82
        go_wp2_with fail
        go_returns
        exact ⟨rfl, HY.out, Frm.refl _ _⟩
      · have hj : 0 < j := by omega
        have hmk := run_make_row' (P := Tryd.prog) 28 5 (.int .u8 0) 1 Tryd.underlying28 infoE rfl .i64 .i64 j (by omega) (by omega)
        have hyl := World.block_lt_of_cell? w _ hy
        have hxl := World.block_lt_of_cell? w _ hx
        have HRD := hid hrd
        clear h1 h3 hrd
        have HG : Frm [y] w ((w.setCell ⟨y, 0, none⟩ (.slice (some ⟨w.heap.size, 0, none⟩) j j)).alloc (.cells (madeCells #[Value.int IntKind.u8 0] j) 5)) := ((Frm.refl _ _).setCell _ _ (by simp)).alloc _
        have hrd2 := HRD.out.kept HG (by intro k hk; simp [blk] at hk ⊢; omega)
        have hh := heap_alloc_at (w.setCell ⟨y, 0, none⟩ (.slice (some ⟨w.heap.size, 0, none⟩) j j)) (.cells (madeCells #[Value.int IntKind.u8 0] j) 5) (World.size_setCell _ _ _)
        have HS := holds_set hy (.slice (some ⟨w.heap.size, 0, none⟩) j j)
        have HH := hid hh
        have HR2 := hid hrd2
        clear hh hrd2
        go_enter Tryd.func82, Tryd.ntmps82
        go_wp2_with (refine wpList_copyB rfl _ _ 28 rfl 5 Tryd.underlying28 infoE w.heap.size j j (madeCells #[Value.int IntKind.u8 0] j) rfl HH.out (size_madeCells _ _) (some ⟨g, o, none⟩) ls.length c ls rfl rfl HR2.out (by omega) ?_)
        intro w' hb hf
        have HB := hid hb
        clear hb
        have k1 := (hf.cell (p := ⟨x, 0, none⟩) (by simpa [World.setCell] using Nat.lt_succ_of_lt hxl) (by simp; omega)).trans ((HG.cell (p := ⟨x, 0, none⟩) hxl (by simp; omega)).trans hx)
        go_wp2_with fail
        go_returns
        have HS2 : Holds y (.slice (some ⟨w.heap.size, 0, none⟩) j j) ((w.setCell ⟨y, 0, none⟩ (.slice (some ⟨w.heap.size, 0, none⟩) j j)).alloc (.cells (madeCells #[Value.int IntKind.u8 0] j) 5)) := HS.kept ((Frm.refl [] _).alloc _) (by simp)
        have e1 : (ls.take j).length = j := by simp; omega
        refine ⟨rfl, ⟨some ⟨w.heap.size, 0, none⟩, j, ?_, own_of_block' HB.out (by rw [e1]; unfold maxLen; omega) e1, by simp [blk]⟩, HG.trans hf (by simp)⟩
        rw [e1]
        exact HS2.kept hf (by simp; omega)
set_option maxHeartbeats 400000 in
theorem bytesR_any (b g pos : Nat) (bs : List Int) (err k : Int) (w : World) (hw : IsR w b g bs pos err) (hk : -9223372036854775808 ≤ k) (hk2 : k ≤ 9223372036854775807) :
    Calls Tryd.prog 68 #[.pointer (some ⟨b, 0, none⟩), .int .i64 k] w fun e w' => ∃ p n c, e = .returned (.slice p n c) ∧ n = (readS [] pos err (bytesT (bs.drop pos) k)).1.length ∧ Own w' 5 (.slice p n c) (readS [] pos err (bytesT (bs.drop pos) k)).1 ∧ (∀ k ∈ blk p, w.heap.size ≤ k) ∧
      IsR w' b g bs (readS [] pos err (bytesT (bs.drop pos) k)).2.1 (readS [] pos err (bytesT (bs.drop pos) k)).2.2 ∧ Frm [b] w w' := by
  obtain ⟨hlt, hlg, hbg, hpos, hlen, _⟩ := hw.cells
  have HW := hid hw
  obtain ⟨r, hr⟩ : ∃ r, bytesT (bs.drop pos) k = r := ⟨_, rfl⟩
  have HR := hid hr
  rw [hr]
  clear hw hr
  by_cases he : err = 0
  · subst he
    go_enter Tryd.func68, Tryd.ntmps68
    go_wp2_with fail
    have hF : Frm [] w ((w.alloc (Obj.cells #[Value.int IntKind.i64 k] 3)).alloc (Obj.cells #[Value.slice none 0 0] 28)) := ((Frm.refl _ _).alloc _).alloc _
    obtain ⟨W, hWd⟩ : ∃ W, W = ((w.alloc (Obj.cells #[Value.int IntKind.i64 k] 3)).alloc (Obj.cells #[Value.slice none 0 0] 28)) := ⟨_, rfl⟩
    have hx : W.cell? ⟨w.heap.size, 0, none⟩ = some (.int .i64 k) := by subst hWd; simp
    have hy : W.cell? ⟨w.heap.size + 1, 0, none⟩ = some (.slice none 0 0) := by subst hWd; simp
    have hyf : W.frozen? ⟨w.heap.size + 1, 0, none⟩ = false := by subst hWd; simp
    have hWs : w.heap.size ≤ W.heap.size := by subst hWd; simp; omega
    rw [← hWd] at hF ⊢
    have hW0 := HW.out.kept hF (by simp) (by simp)
    refine (take_both b g pos r.2.1 r.2.2 bs [w.heap.size + 1] (HoldsB (w.heap.size + 1) r.1 W.heap.size) 82 _ W hW0 (by simp; omega) (by simp; omega) (by have := bytesT_len (bs.drop pos) k; rw [HR.out] at this; simp at this; omega) (fun l w => callable Tryd.func82 (by kernel_rfl) (by kernel_rfl) _ _) ?_).mono ?_
    · intro o c hc hrd
      have := bytes1R_any w.heap.size (w.heap.size + 1) g o c k (bs.drop pos) W.drew hrd hc.1 hc.2 (by omega) (by omega) hk hk2 hx hy hyf
      rw [HR.out] at this
      exact this
    rintro e w' ⟨rfl, w1, ⟨p, c, h1, ho, hfr⟩, h2, h3, h4⟩
    have hv := h1.kept h3 (by simp; omega)
    have hbp : ∀ k ∈ blk p, k ∉ [b] := by intro k hk; simp; have := hfr k hk; have := hF.size; omega
    have HO := hid (ho.kept h3 (by rw [own_blk]; exact hbp))
    have HFR := hid hfr
    clear hfr ho
    go_wp2_with fail
    go_returns
    rw [readS_ok]
    exact ⟨p, r.1.length, c, rfl, rfl, HO.out, fun k hk => Nat.le_trans hWs (HFR.out k hk), h4, two_steps hF h2 h3 (by omega)⟩
  · have HE : Hid (err ≠ 0) := he
    clear he
    go_enter Tryd.func68, Tryd.ntmps68
    go_wp2_with fail
    have hF : Frm [] w ((w.alloc (Obj.cells #[Value.int IntKind.i64 k] 3)).alloc (Obj.cells #[Value.slice none 0 0] 28)) := ((Frm.refl _ _).alloc _).alloc _
    refine (take_stop b g pos err bs _ _ _ (HW.out.kept hF (by simp) (by simp)) HE.out).mono ?_
    rintro e w' ⟨rfl, rfl⟩
    go_wp2_with fail
    go_returns
    unfold readS
    rw [if_pos HE.out]
    exact ⟨none, 0, 0, rfl, rfl, Own.nil _ _, by simp [blk], HW.out.kept hF (by simp) (by simp), hF.mono (by simp)⟩
end Go.Proofs.YtdnnbinmippkdaaDoor
