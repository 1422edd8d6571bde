/- Contracts of package volume: Open, of cells with a right head. -/
import Derived.Test.YthifchkeapbfdaaVolBf
namespace Go.Proofs.Ythifchkeapbfdaa
open Go.RowKit
set_option maxRecDepth 100000

/-- How far the cells behind the head are right: the last one's place. -/
structure Sofar (N t : Nat) (L : Int) (xr : List GCell) (cur : List Int) : Prop where
  rows : RowsOk N ((xr.take t).map kz)
  ones : ∀ x ∈ xr.take t, x.a = 1
  atm : ∀ x ∈ xr.take t, x.k ≤ L
  low : -1 ≤ L
  last : L = -1 ∨ ∃ j, j < t ∧ ∃ h : j < xr.length, xr[j].k = L
  laid : applyL (List.replicate (256 * N) 0) ((xr.take t).map kz) = cur
  lng : cur.length = 256 * N
theorem Sofar.start (N : Nat) (xr : List GCell) : Sofar N 0 (-1) xr (List.replicate (256 * N) 0) :=
  ⟨⟨by simp, by simp⟩, by simp, by simp, by omega, Or.inl rfl, by simp [applyL], by simp⟩
theorem Sofar.step {N t : Nat} {L : Int} {xr : List GCell} {cur : List Int} (h : Sofar N t L xr cur) (ht : t < xr.length) (ha : xr[t].a = 1) (hL : L < xr[t].k) (hN : xr[t].k < N) (hz : xr[t].zs.length = 256) (hb : xr[t].zs.all (· == 0) = false) : Sofar N (t + 1) xr[t].k xr (splice cur (256 * xr[t].k.toNat) xr[t].zs) := by
  have hlow := h.low
  have e : xr.take (t + 1) = xr.take t ++ [xr[t]] := List.take_succ_eq_append_getElem ht
  refine ⟨⟨?_, ?_⟩, ?_, ?_, by omega, Or.inr ⟨t, by omega, ht, rfl⟩, ?_, ?_⟩
  · rw [e, List.map_append, List.pairwise_append]
    refine ⟨h.rows.rise, by simp, fun x hx y hy => ?_⟩
    obtain ⟨x', hx', rfl⟩ := List.mem_map.1 hx
    simp only [List.map_cons, List.map_nil, List.mem_singleton] at hy
    subst hy
    have := h.atm x' hx'
    simp only [kz]
    omega
  · rw [e, List.map_append]
    intro x hx
    rcases List.mem_append.1 hx with hx | hx
    · exact h.rows.each x hx
    · simp only [List.map_cons, List.map_nil, List.mem_singleton] at hx
      subst hx
      exact ⟨by simp only [kz]; omega, hN, hz, hb⟩
  · rw [e]
    intro x hx
    rcases List.mem_append.1 hx with hx | hx
    · exact h.ones x hx
    · simp only [List.mem_singleton] at hx
      subst hx; exact ha
  · rw [e]
    intro x hx
    rcases List.mem_append.1 hx with hx | hx
    · have := h.atm x hx; omega
    · simp only [List.mem_singleton] at hx
      subst hx; omega
  · rw [e, List.map_append, List.map_cons, List.map_nil, applyL_snoc, h.laid]
    rfl
  · rw [splice_length (by rw [hz, h.lng]; omega), h.lng]
theorem Sofar.done {N t : Nat} {L : Int} {x0 : GCell} {xr : List GCell} {cur : List Int} (h : Sofar N t L xr cur) (ht : t = xr.length) (h1 : 1 ≤ N) (h2 : N ≤ 64) (ha : x0.a = 1) (hk : x0.k = -1) (hz : x0.zs = le ((256 * N : Nat) : Int) 4) : Opens (x0 :: xr) cur := by
  have e : xr.take t = xr := List.take_of_length_le (by omega)
  have hr := h.rows
  have ho := h.ones
  have hc := h.laid
  rw [e] at hr ho hc
  have hl := h.lng
  refine ⟨by omega, by omega, by omega, ?_, ?_⟩
  · intro x hx
    rcases List.mem_cons.1 hx with rfl | hx
    · exact ha
    · exact ho x hx
  · have h3 := chunks_apply hr
    rw [hc] at h3
    have hq : cur.length / 256 = N := by omega
    simp only [List.map_cons, cellsL]
    rw [hq, h3, hl]
    simp only [kz, hk, hz]
theorem Sofar.bad {N t : Nat} {L : Int} {x0 : GCell} {xr : List GCell} {cur bs : List Int} (h : Sofar N t L xr cur) (ht : t < xr.length) (hz : x0.zs = le ((256 * N : Nat) : Int) 4) (hN : N ≤ 64) (hb : xr[t].a ≠ 1 ∨ xr[t].k ≤ L ∨ (N : Int) ≤ xr[t].k ∨ xr[t].zs.length ≠ 256 ∨ xr[t].zs.all (· == 0) = true) : ¬ Opens (x0 :: xr) bs := by
  intro ho
  obtain ⟨_, _, e1, e2, e3, e4⟩ := opens_parts ho
  have hl : 256 * N = bs.length := leV_inj4 (by rw [← hz, e1]) (by omega) (by have := ho.2.1; omega)
  have hq : bs.length / 256 = N := by omega
  rw [hq] at e4
  have hm : kz xr[t] ∈ xr.map kz := List.mem_map.2 ⟨xr[t], List.getElem_mem ht, rfl⟩
  obtain ⟨q1, q2, q3, q4⟩ := e4.each _ hm
  simp only [kz] at q1 q2 q3 q4
  rcases hb with hb | hb | hb | hb | hb
  · exact hb (e3 _ (List.getElem_mem ht))
  · rcases h.last with hl | ⟨j, hj, hjl, hl⟩
    · omega
    · have hp := e4.rise
      rw [List.pairwise_map] at hp
      have := List.pairwise_iff_getElem.1 hp j t hjl ht hj
      simp only [kz] at this
      omega
  · omega
  · exact hb q3
  · rw [hb] at q4; cases q4
set_option maxHeartbeats 800000 in
theorem openG_size (hb pc n : Nat) (x0 : GCell) (xr : List GCell) (w : World) (hn : xr.length = n) (hg : GAt w hb 0 x0) (hrd : Rd w x0.p x0.zs) (h1 : x0.a = 1) (h2 : x0.k = -1) (S : Nat) (hS : le S 4 = x0.zs) (hS2 : S < 4294967296) (hbad : S < 256 ∨ 16384 < S ∨ S % 256 ≠ 0) (hnb : n ≤ 2932031007317) :
    Calls Try.prog 10 #[.slice (some ⟨hb, 0, none⟩) (n + 1) pc] w (PostOp IsVol (x0 :: xr) w) := by
  have HP : Hid (∀ w', Frm [] w w' → PostOp IsVol (x0 :: xr) w (.returned (.tuple #[.pointer none, .int .i64 190])) w') := hid (fun w' hf => ⟨hf, Or.inl ⟨rfl, fun bs h => by
    obtain ⟨_, _, h3, _⟩ := opens_parts h
    have hl : S = bs.length := leV_inj4 (by rw [hS, h3]) hS2 (by have := h.2.1; omega)
    have := h.1
    have := h.2.1
    have := h.2.2.1
    omega⟩⟩)
  have HB : Hid ((S : Int) < 256 ∨ (16384 : Int) < (S : Int) ∨ (S : Int) % 256 ≠ 0) := hid (by omega)
  obtain ⟨k0, k1, k2, k3⟩ := hg
  rw [Nat.zero_add] at k1 k3
  have hl4 : x0.zs.length = 4 := by rw [← hS, le_length]
  have HR0 : Hid (∀ j, j < 4 → ∃ g o, x0.p = some ⟨g, o, none⟩ ∧ w.cell? ⟨g, o + j, none⟩ = some (.int .u8 ((S : Int) / 2 ^ (8 * j) % 256))) := hid (by
    intro j hj
    rcases hrd with h | ⟨g, o, e1, e2⟩
    · rw [h] at hl4; simp at hl4
    · refine ⟨g, o, e1, ?_⟩
      rw [e2 j (by rw [hl4]; omega), ← hS]
      simp [le, List.getD, hj])
  rw [h1] at k0
  rw [h2] at k1
  rw [hl4] at k3
  have hlb : ((n : Int) + 1 == 0) = false := by simp; omega
  clear hn hrd h1 h2 hS hbad hl4 k2
  go_enter Try.func10, Try.ntmps10
  go_wp2_with fail
  go_loop [4, 42] (fun v i => ∃ j : Nat, j ≤ 4 ∧ i = .int .i64 j ∧ v = .int .i64 ((S % 2 ^ (8 * j) : Nat) : Int)) (fun _ i => 4 - (intOf i).toNat)
  case atStart => exact ⟨0, Nat.zero_le _, rfl, by simp [Nat.mod_one]⟩
  case round =>
    obtain ⟨j, hj, rfl, rfl⟩ := hrel
    by_cases hlt : j < 4
    · obtain ⟨g, o, hp, hc⟩ := HR0.out j hlt
      have hol := or_le S j hlt
      obtain ⟨A, hA⟩ : ∃ A, S % 2 ^ (8 * j) = A := ⟨_, rfl⟩
      obtain ⟨x, hx⟩ : ∃ x, (S : Int) / 2 ^ (8 * j) % 256 = x := ⟨_, rfl⟩
      have hxb : 0 ≤ x ∧ x < 256 := by rw [← hx]; omega
      rw [hA, hx, IntWalk.i64_left] at hol
      rw [hx] at hc
      rw [hA]
      have HOL := hid hol
      clear hol hA hx
      rw [hp] at k3 ⊢
      obtain ⟨x0', x1'⟩ := hxb
      go_wp2_with fail
      go_round
      case rel => exact ⟨j + 1, by omega, by go_num, congrArg (Value.int .i64) HOL.out⟩
      case measure => simp [intOf]; omega
    · obtain rfl : j = 4 := by omega
      have hmod : S % 2 ^ (8 * 4) = S := Nat.mod_eq_of_lt (by omega)
      rw [hmod]
      clear hmod hlt
      go_wp2_with fail
      refine (volNew_bad S HB.out _).mono ?_
      rintro e w2 ⟨rfl, rfl⟩
      go_wp2_with fail
      go_returns
      exact HP.out _ (Frm.refl _ _)
end Go.Proofs.Ythifchkeapbfdaa
