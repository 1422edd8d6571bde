/- Contracts of package ilog: record, the answers that come before its pieces are read. -/
import Derived.Test.YtiefgfbeemlnjaaIlogJ
namespace Go.Proofs.Ytiefgfbeemlnjaa
open Go.RowKit
set_option maxRecDepth 100000

/-- No record begins a region. -/
def NoRec (base next : Nat) (zs : List Int) : Prop := ∀ body : List Int, body.length ≤ 4096 → ¬ recB base next body <+: zs
theorem le_inj4 {a b : Nat} (h : le a 4 = le b 4) (ha : a < 4294967296) (hb : b < 4294967296) : a = b := by
  simp only [le, List.range_succ, List.range_zero, List.nil_append, List.cons_append, List.map_cons, List.map_nil, Nat.mul_zero, Nat.mul_one] at h
  have p1 : (2 : Int) ^ (0 : Nat) = 1 := by decide
  have p2 : (2 : Int) ^ (8 : Nat) = 256 := by decide
  have p3 : (2 : Int) ^ (8 * 2 : Nat) = 65536 := by decide
  have p4 : (2 : Int) ^ (8 * 3 : Nat) = 16777216 := by decide
  rw [p1, p2, p3, p4] at h
  simp only [List.cons.injEq, and_true] at h
  omega
theorem noRec_short {base next : Nat} {zs : List Int} (h : zs.length < 88) : NoRec base next zs := by
  intro body _ hp
  have h1 := hp.length_le
  rw [recB_length] at h1
  have := pcs_pos body.length
  omega
/-- A region that begins with a record tells its length. -/
theorem rec_many {base next N : Nat} {zs body : List Int} (hN : (zs.drop 16).take 4 = le N 4) (hN2 : N < 4294967296) (hb : body.length ≤ 4096) (hp : recB base next body <+: zs) : body.length = N := by
  have h1 := pre_many hp
  rw [hN] at h1
  exact (le_inj4 h1 hN2 (by omega)).symm
theorem noRec_long {base next N : Nat} {zs : List Int} (hN : (zs.drop 16).take 4 = le N 4) (hN2 : N < 4294967296) (h : 4096 < N) : NoRec base next zs := by
  intro body hb hp
  have := rec_many hN hN2 hb hp
  omega
theorem noRec_cut {base next N : Nat} {zs : List Int} (hN : (zs.drop 16).take 4 = le N 4) (hN2 : N < 4294967296) (h : zs.length < pcs N * 88) : NoRec base next zs := by
  intro body hb hp
  have h1 := rec_many hN hN2 hb hp
  have h2 := hp.length_le
  rw [recB_length, h1] at h2
  omega
theorem noRec_piece {base next N i : Nat} {zs : List Int} (hN : (zs.drop 16).take 4 = le N 4) (hN2 : N < 4294967296) (hi : i < pcs N) (h : (zs.drop (i * 88)).take 88 ≠ pieceB base next i (pcs N) (bodyT zs N (pcs N))) : NoRec base next zs := by
  intro body hb hp
  have h1 := rec_many hN hN2 hb hp
  have h2 := pre_body hp
  rw [h1] at h2
  rw [h2, ← h1] at h
  rw [← h1] at hi
  exact h (pre_piece hp i hi)
set_option maxHeartbeats 400000 in
theorem record_short (b : Nat) (p : Option Addr) (n c : Nat) (h : n < 88) (w : World) :
    Calls Try.prog 74 #[.pointer (some ⟨b, 0, none⟩), .slice p n c] w fun e w' => e = .returned (.tuple #[.slice none 0 0, .bool false]) ∧ Frm [] w w' := by
  have h' : (n : Int) < 88 := by omega
  go_enter Try.func74, Try.ntmps74
  go_wp2_with fail
  go_returns
  exact ⟨rfl, Frm.refl _ _⟩
set_option maxHeartbeats 800000 in
theorem record_many (b : Nat) (g o : Nat) (zs : List Int) (n c N : Nat) (h88 : 88 ≤ n) (hc : n ≤ c) (hN : (zs.drop 16).take 4 = le N 4) (hN2 : N < 4294967296) (hbad : 4096 < N ∨ n < pcs N * 88) (w : World) (hrd : Rd w (some ⟨g, o, none⟩) zs) :
    Calls Try.prog 74 #[.pointer (some ⟨b, 0, none⟩), .slice (some ⟨g, o, none⟩) n c] w fun e w' => e = .returned (.tuple #[.slice none 0 0, .bool false]) ∧ Frm [] w w' := by
  have h1 : ¬ (n : Int) < 88 := by omega
  have h2 : (20 : Int) ≤ (c : Int) := by omega
  have h3 : (20 : Int) ≤ (n : Int) := by omega
  have hr4 : Rd w (some ⟨g, o + 16, none⟩) (le N 4) := by rw [← hN]; exact (hrd.drop 16).take 4
  have HR4 := hid hr4
  have hm : N % 2 ^ (8 * 4) = N := Nat.mod_eq_of_lt (by omega)
  have HM := hid hm
  clear hr4 hm hN hrd
  by_cases hl : 4096 < N
  · have hl' : (4096 : Int) < (N : Int) := by omega
    clear hbad hl
    go_enter Try.func74, Try.ntmps74
    go_wp2_with fail
    refine (value16_any N 4 (Nat.le_refl _) _ _ _ HR4.out).mono ?_
    rintro e w1 ⟨rfl, rfl⟩
    rw [HM.out]
    go_wp2_with fail
    go_returns
    exact ⟨rfl, Frm.refl _ _⟩
  · have hl' : ¬ (4096 : Int) < (N : Int) := by omega
    have hq : (n : Int) < (pcs N : Int) * 88 := by omega
    obtain ⟨m, hm⟩ : ∃ m, pcs N = m := ⟨_, rfl⟩
    have HPQ := hid (pieces_any N (by omega))
    have hmb := pcs_le N (by omega)
    rw [hm] at hq HPQ hmb
    clear hbad hl hm
    go_enter Try.func74, Try.ntmps74
    go_wp2_with fail
    refine (value16_any N 4 (Nat.le_refl _) _ _ _ HR4.out).mono ?_
    rintro e w1 ⟨rfl, rfl⟩
    rw [HM.out]
    go_wp2_with fail
    refine (HPQ.out _).mono ?_
    rintro e w1 ⟨rfl, rfl⟩
    go_wp2_with fail
    go_returns
    exact ⟨rfl, Frm.refl _ _⟩
end Go.Proofs.Ytiefgfbeemlnjaa
