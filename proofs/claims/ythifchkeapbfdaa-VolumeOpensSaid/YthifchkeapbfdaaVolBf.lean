/- Contracts of package volume: Open, of any cells. -/
import Derived.Test.YthifchkeapbfdaaVolBd
import Derived.Test.YthifchkeapbfdaaVolBe
import Derived.Test.YthifchkeapbfdaaVolG
namespace Go.Proofs.Ythifchkeapbfdaa
open Go.RowKit
set_option maxRecDepth 100000

def kz (x : GCell) : Int × List Int := (x.k, x.zs)
/-- Cells are those of a volume with these bytes. -/
def Opens (xs : List GCell) (bs : List Int) : Prop :=
  256 ≤ bs.length ∧ bs.length ≤ 16384 ∧ bs.length % 256 = 0 ∧ (∀ x ∈ xs, x.a = 1) ∧ xs.map kz = cellsL bs
theorem leV_inj4 {a b : Nat} (h : le a 4 = le b 4) (ha : a < 4294967296) (hb : b < 4294967296) : a = b := by
  simp only [le, List.range_succ, List.range_zero, List.nil_append, List.cons_append, List.map_cons, List.map_nil, Nat.mul_zero, Nat.mul_one] at h
  have p1 : (2 : Int) ^ (0 : Nat) = 1 := by decide
  have p2 : (2 : Int) ^ (8 : Nat) = 256 := by decide
  have p3 : (2 : Int) ^ (8 * 2 : Nat) = 65536 := by decide
  have p4 : (2 : Int) ^ (8 * 3 : Nat) = 16777216 := by decide
  rw [p1, p2, p3, p4] at h
  simp only [List.cons.injEq, and_true] at h
  omega
theorem leV_four {zs : List Int} (hl : zs.length = 4) (hb : ∀ z ∈ zs, 0 ≤ z ∧ z < 256) : ∃ N : Nat, N < 4294967296 ∧ le N 4 = zs := by
  match zs, hl with
  | [a, b, c, d], _ =>
    have ha := hb a (by simp)
    have hb' := hb b (by simp)
    have hc := hb c (by simp)
    have hd := hb d (by simp)
    refine ⟨(a + 256 * b + 65536 * c + 16777216 * d).toNat, by omega, ?_⟩
    rw [Int.toNat_of_nonneg (by omega)]
    simp only [le, List.range_succ, List.range_zero, List.nil_append, List.cons_append, List.map_cons, List.map_nil, Nat.mul_zero, Nat.mul_one]
    have p1 : (2 : Int) ^ (0 : Nat) = 1 := by decide
    have p2 : (2 : Int) ^ (8 : Nat) = 256 := by decide
    have p3 : (2 : Int) ^ (8 * 2 : Nat) = 65536 := by decide
    have p4 : (2 : Int) ^ (8 * 3 : Nat) = 16777216 := by decide
    rw [p1, p2, p3, p4]
    simp only [List.cons.injEq, and_true]
    omega
theorem opens_parts {x0 : GCell} {xr : List GCell} {bs : List Int} (h : Opens (x0 :: xr) bs) : x0.a = 1 ∧ x0.k = -1 ∧ x0.zs = le bs.length 4 ∧ xr.map kz = chunksL bs (bs.length / 256) ∧ (∀ x ∈ xr, x.a = 1) ∧ RowsOk (bs.length / 256) (xr.map kz) := by
  obtain ⟨h1, h2, h3, h4, h5⟩ := h
  simp only [List.map_cons, cellsL, List.cons.injEq, kz, Prod.mk.injEq] at h5
  obtain ⟨⟨h6, h7⟩, h8⟩ := h5
  have h9 : xr.map kz = chunksL bs (bs.length / 256) := h8
  exact ⟨h4 x0 (by simp), h6, h7, h9, fun x hx => h4 x (List.mem_cons_of_mem _ hx), by rw [h9]; exact rowsOk_chunks (by omega)⟩
theorem opens_one {xs : List GCell} {a b : List Int} (ha : Opens xs a) (hb : Opens xs b) : a = b := by
  cases xs with
  | nil => have := ha.2.2.2.2; simp [cellsL] at this
  | cons x0 xr =>
    obtain ⟨_, _, e1, e2, _, _⟩ := opens_parts ha
    obtain ⟨_, _, f1, f2, _, _⟩ := opens_parts hb
    have hl : a.length = b.length := leV_inj4 (e1.symm.trans f1) (by have := ha.2.1; omega) (by have := hb.2.1; omega)
    have g1 := apply_all (bs := a) (N := a.length / 256) (by have := ha.2.2.1; omega)
    have g2 := apply_all (bs := b) (N := b.length / 256) (by have := hb.2.2.1; omega)
    rw [← g1, ← g2, ← e2, ← f2, hl]
/-- What an Open answers. -/
def PostOp (I : World → Nat → Nat → List Int → Prop) (xs : List GCell) (w : World) (e : Ending) (w' : World) : Prop :=
  Frm [] w w' ∧ ((e = .returned (.tuple #[.pointer none, .int .i64 190]) ∧ ∀ bs, ¬ Opens xs bs) ∨ ∃ (bs : List Int) (b g : Nat), Opens xs bs ∧ e = .returned (.tuple #[.pointer (some ⟨b, 0, none⟩), .int .i64 0]) ∧ I w' b g bs ∧ w.heap.size ≤ b ∧ w.heap.size ≤ g)
set_option maxHeartbeats 400000 in
theorem openG_nil (pp : Option Addr) (pc : Nat) (w : World) :
    Calls Try.prog 10 #[.slice pp 0 pc] w (PostOp IsVol [] w) := by
  have HP : Hid (PostOp IsVol [] w (.returned (.tuple #[.pointer none, .int .i64 190])) w) := hid ⟨Frm.refl _ _, Or.inl ⟨rfl, fun bs h => by have := h.2.2.2.2; simp [cellsL] at this⟩⟩
  go_enter Try.func10, Try.ntmps10
  go_wp2_with fail
  go_returns
  exact HP.out
set_option maxHeartbeats 800000 in
theorem openG_head (hb pc n : Nat) (x0 : GCell) (xr : List GCell) (w : World) (hn : xr.length = n) (hg : GAt w hb 0 x0) (hbad : x0.a ≠ 1 ∨ x0.k ≠ -1 ∨ x0.zs.length ≠ 4) (hnb : n ≤ 2932031007317) :
    Calls Try.prog 10 #[.slice (some ⟨hb, 0, none⟩) (n + 1) pc] w (PostOp IsVol (x0 :: xr) w) := by
  have HP : Hid (PostOp IsVol (x0 :: xr) w (.returned (.tuple #[.pointer none, .int .i64 190])) w) := hid ⟨Frm.refl _ _, Or.inl ⟨rfl, fun bs h => by
    obtain ⟨h1, h2, h3, _⟩ := opens_parts h
    rcases hbad with h | h | h
    · exact h h1
    · exact h h2
    · exact h (by rw [h3, le_length])⟩⟩
  obtain ⟨k0, k1, k2, k3⟩ := hg
  rw [Nat.zero_add] at k1 k3
  have hlb : ((n : Int) + 1 == 0) = false := by simp; omega
  have hlb2 : ¬ (n : Int) + 1 = 0 := by omega
  obtain ⟨nz, hnz⟩ : ∃ nz, x0.zs.length = nz := ⟨_, rfl⟩
  rw [hnz] at k3 hbad
  clear hn hnz k2
  by_cases h1 : x0.a = 1
  · have b1 : (x0.a != 1) = false := by simp [h1]
    rw [h1] at k0
    by_cases h2 : x0.k = -1
    · rw [h2] at k1
      have b3 : ((nz : Int) != 4) = true := by
        rcases hbad with h | h | h
        · exact absurd h1 h
        · exact absurd h2 h
        · simp; omega
      clear hbad h1 h2 b1
      go_enter Try.func10, Try.ntmps10
      go_wp2_with fail
      go_returns
      exact HP.out
    · have b2 : (x0.k != -1) = true := by simpa using h2
      clear hbad h1 h2 b1
      go_enter Try.func10, Try.ntmps10
      go_wp2_with fail
      go_returns
      exact HP.out
  · have b1 : (x0.a != 1) = true := by simpa using h1
    clear hbad h1
    go_enter Try.func10, Try.ntmps10
    go_wp2_with fail
    go_returns
    exact HP.out
end Go.Proofs.Ythifchkeapbfdaa
