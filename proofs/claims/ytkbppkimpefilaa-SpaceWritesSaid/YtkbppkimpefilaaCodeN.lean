/- Contracts of package code's reader's methods: Num, Bytes. -/
import Derived.Test.YtkbppkimpefilaaCodeV
namespace Go.Proofs.Ytkbppkimpefilaa
open Go.RowKit
set_option maxRecDepth 100000

/-- What stands in a captured variable. -/
def Holds (y : Nat) (v : Value) (w : World) : Prop := w.cell? ⟨y, 0, none⟩ = some v
theorem holds_set {w : World} {y : Nat} {u : Value} (h : w.cell? ⟨y, 0, none⟩ = some u) (v : Value) : Holds y v (w.setCell ⟨y, 0, none⟩ v) := by
  exact World.cell?_setCell_same _ _ _ h
theorem Holds.kept {w w' : World} {y : Nat} {v : Value} {S : List Nat} (h : Holds y v w) (hf : Frm S w w') (hn : y ∉ S) : w'.cell? ⟨y, 0, none⟩ = some v :=
  (hf.cell (p := ⟨y, 0, none⟩) (World.block_lt_of_cell? w _ h) hn).trans h
/-- A number's reading: the number, how many bytes, the error. -/
def numT (ls : List Int) (k : Int) : Int × Nat × Int := if k < 1 ∨ 8 < k then (0, 0, 1) else if ls.length < k then (0, 0, 10) else (leV (ls.take k.toNat), k.toNat, 0)
set_option maxHeartbeats 400000 in
theorem num1R_any (x y g o c : Nat) (k : Int) (ls : List Int) (hb : ∀ z ∈ ls, 0 ≤ z ∧ z < 256) (w : World) (hrd : Rd w (some ⟨g, o, none⟩) ls) (hc : ls.length ≤ c) (_hc2 : c ≤ 140737488355328) (hxy : x ≠ y)
    (hk : -9223372036854775808 ≤ k) (hk2 : k ≤ 9223372036854775807) (hx : w.cell? ⟨x, 0, none⟩ = some (.int .i64 k)) (hy : w.cell? ⟨y, 0, none⟩ = some (.int .u64 0)) (hyf : w.frozen? ⟨y, 0, none⟩ = false) :
    Calls Try.prog 96 #[.slice (some ⟨g, o, none⟩) ls.length c, .pointer (some ⟨x, 0, none⟩), .pointer (some ⟨y, 0, none⟩)] w (GivesR (numT ls k).2.1 (numT ls k).2.2 [y] (Holds y (.int .u64 (numT ls k).1)) w) := by
  by_cases h1 : k < 1 ∨ 8 < k
  · rw [show numT ls k = (0, 0, 1) by unfold numT; rw [if_pos h1]]
    have HY := hid hy
    by_cases h2 : k < 1
    · go_enter Try.func96, Try.ntmps96
      go_wp2_with fail
      go_returns
      exact ⟨rfl, HY.out, Frm.refl _ _⟩
    · go_enter Try.func96, Try.ntmps96
      go_wp2_with fail
      go_returns
      exact ⟨rfl, HY.out, Frm.refl _ _⟩
  · obtain ⟨j, rfl⟩ : ∃ j : Nat, k = (j : Int) := ⟨k.toNat, by omega⟩
    have hj1 : 1 ≤ j := by omega
    have hj8 : j ≤ 8 := by omega
    by_cases h2 : ls.length < j
    · rw [show numT ls j = (0, 0, 10) by unfold numT; rw [if_neg h1, if_pos (by omega)]]
      have HY := hid hy
      clear h1
      go_enter Try.func96, Try.ntmps96
      go_wp2_with fail
      go_returns
      exact ⟨rfl, HY.out, Frm.refl _ _⟩
    · rw [show numT ls j = (leV (ls.take j), j, 0) by unfold numT; rw [if_neg h1, if_neg (by omega)]; simp]
      have HV := hid (fun w' (h : Rd w' (some ⟨g, o, none⟩) ls) => value_any (some ⟨g, o, none⟩) c (ls.take j) (fun z hz => hb z (List.mem_of_mem_take hz)) (by simp; omega) w' (h.take j))
      rw [show (ls.take j).length = j by simp; omega] at HV
      have HB := hid hb
      have HRD := hid hrd
      have hyl := World.block_lt_of_cell? w _ hy
      have hxl := World.block_lt_of_cell? w _ hx
      clear h1 hb hrd
      go_enter Try.func96, Try.ntmps96
      go_wp2_with fail
      refine (HV.out w HRD.out).mono ?_
      rintro e w1 ⟨rfl, hf⟩
      have k1 := (hf.cell (p := ⟨x, 0, none⟩) hxl (by simp)).trans hx
      have k2 := (hf.cell (p := ⟨y, 0, none⟩) hyl (by simp)).trans hy
      have k3 := (hf.frozen (p := ⟨y, 0, none⟩) hyl (by simp)).trans hyf
      have HK := hid k2
      go_wp2_with fail
      go_returns
      refine ⟨rfl, ?_, (hf.mono (by simp)).trans ((Frm.refl _ _).setCell _ _ (by simp)) (fun i hi _ => hi)⟩
      exact holds_set HK.out _
/-- What a reading call makes of a reader: the answer, the place, the error. -/
def readS {α : Type} (z : α) (pos : Nat) (err : Int) (r : α × Nat × Int) : α × Nat × Int :=
  if err ≠ 0 then (z, pos, err) else if r.2.2 = 0 then (r.1, pos + r.2.1, 0) else (r.1, pos, r.2.2)
theorem readS_ok {α : Type} (z : α) (pos : Nat) (r : α × Nat × Int) : readS z pos 0 r = (r.1, (if r.2.2 = 0 then pos + r.2.1 else pos), r.2.2) := by
  unfold readS
  by_cases h : r.2.2 = 0
  · simp [h]
  · simp [h]
/-- Two steps one behind the other: a captured variable's block is a new one. -/
theorem two_steps {w W w1 w' : World} {b y : Nat} (hF : Frm [] w W) (h2 : Frm [y] W w1) (h3 : Frm [b] w1 w') (hy : w.heap.size ≤ y) : Frm [b] w w' :=
  ((hF.mono (T := [b]) (by simp)).trans h2 (by intro i hi hlt; simp at hi; omega)).trans h3 (fun i hi _ => hi)
theorem numT_len (ls : List Int) (k : Int) : (numT ls k).2.1 ≤ ls.length := by
  unfold numT
  split
  · simp
  · split
    · simp
    · simp; omega
/-- Where the closure reads the rest of the bytes from. -/
theorem rest_rd {w : World} {b g pos : Nat} {err : Int} {bs : List Int} (h : IsR w b g bs pos err) : Rd w (some ⟨g, pos, none⟩) (bs.drop pos) := by
  have := h.cells.2.2.2.2.2.2.2.2.2.2.drop pos
  simpa using this
set_option maxHeartbeats 400000 in
theorem numR_any (b g pos : Nat) (bs : List Int) (hb : ∀ z ∈ bs, 0 ≤ z ∧ z < 256) (err k : Int) (w : World) (hw : IsR w b g bs pos err) (hk : -9223372036854775808 ≤ k) (hk2 : k ≤ 9223372036854775807) :
    Calls Try.prog 58 #[.pointer (some ⟨b, 0, none⟩), .int .i64 k] w fun e w' => e = .returned (.int .u64 (readS 0 pos err (numT (bs.drop pos) k)).1) ∧
      IsR w' b g bs (readS 0 pos err (numT (bs.drop pos) k)).2.1 (readS 0 pos err (numT (bs.drop pos) k)).2.2 ∧ Frm [b] w w' := by
  obtain ⟨hlt, hlg, hbg, hpos, hlen, _⟩ := hw.cells
  have HW := hid hw
  have HB := hid hb
  obtain ⟨r, hr⟩ : ∃ r, numT (bs.drop pos) k = r := ⟨_, rfl⟩
  have HR := hid hr
  rw [hr]
  clear hw hb hr
  by_cases he : err = 0
  · subst he
    go_enter Try.func58, Try.ntmps58
    go_wp2_with fail
    have hF : Frm [] w ((w.alloc (Obj.cells #[Value.int IntKind.i64 k] 3)).alloc (Obj.cells #[Value.int IntKind.u64 0] 63)) := ((Frm.refl _ _).alloc _).alloc _
    obtain ⟨W, hWd⟩ : ∃ W, W = ((w.alloc (Obj.cells #[Value.int IntKind.i64 k] 3)).alloc (Obj.cells #[Value.int IntKind.u64 0] 63)) := ⟨_, rfl⟩
    have hx : W.cell? ⟨w.heap.size, 0, none⟩ = some (.int .i64 k) := by subst hWd; simp
    have hy : W.cell? ⟨w.heap.size + 1, 0, none⟩ = some (.int .u64 0) := by subst hWd; simp
    have hyf : W.frozen? ⟨w.heap.size + 1, 0, none⟩ = false := by subst hWd; simp
    rw [← hWd] at hF ⊢
    have hW0 := HW.out.kept hF (by simp) (by simp)
    refine (take_both b g pos r.2.1 r.2.2 bs [w.heap.size + 1] (Holds (w.heap.size + 1) (.int .u64 r.1)) 96 _ W hW0 (by simp; omega) (by simp; omega) (by have := numT_len (bs.drop pos) k; rw [HR.out] at this; simp at this; omega) (fun l w => callable Try.func96 (by kernel_rfl) (by kernel_rfl) _ _) ?_).mono ?_
    · intro o c hc hrd
      have := num1R_any w.heap.size (w.heap.size + 1) g o c k (bs.drop pos) (fun z hz => HB.out z (List.mem_of_mem_drop hz)) W.drew hrd hc.1 hc.2 (by omega) hk hk2 hx hy hyf
      rw [HR.out] at this
      exact this
    rintro e w' ⟨rfl, w1, h1, h2, h3, h4⟩
    have hv := h1.kept h3 (by simp; omega)
    go_wp2_with fail
    go_returns
    rw [readS_ok]
    exact ⟨rfl, h4, two_steps hF h2 h3 (by omega)⟩
  · have HE : Hid (err ≠ 0) := he
    clear he
    go_enter Try.func58, Try.ntmps58
    go_wp2_with fail
    have hF : Frm [] w ((w.alloc (Obj.cells #[Value.int IntKind.i64 k] 3)).alloc (Obj.cells #[Value.int IntKind.u64 0] 63)) := ((Frm.refl _ _).alloc _).alloc _
    refine (take_stop b g pos err bs _ _ _ (HW.out.kept hF (by simp) (by simp)) HE.out).mono ?_
    rintro e w' ⟨rfl, rfl⟩
    go_wp2_with fail
    go_returns
    unfold readS
    rw [if_pos HE.out]
    exact ⟨rfl, HW.out.kept hF (by simp) (by simp), hF.mono (by simp)⟩
end Go.Proofs.Ytkbppkimpefilaa
