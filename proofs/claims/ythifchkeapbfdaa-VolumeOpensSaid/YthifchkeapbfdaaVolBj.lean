/- Contracts of package volume: Open, the document's helper Content. -/
import Derived.Test.YthifchkeapbfdaaVolBi
namespace Go.Proofs.Ythifchkeapbfdaa
open Go.RowKit
set_option maxRecDepth 100000

set_option maxHeartbeats 6400000 in
theorem content_any (W0 w : World) (pp : Option Addr) (n pc : Nat) (xs : List GCell) (hc : CameG W0 pp n pc xs) (hW : Frm [] W0 w) :
    Calls Try.prog 22 #[.slice pp n pc] w (PostCt xs w) := by
  obtain ⟨hxl, hnc, hcb, hnb, hat, hok⟩ := hc
  have HXL := hid hxl
  have HAT := hid hat
  have HW := hid hW
  have HF0 : Hid (∀ w', Frm [] w w' → (∀ bs, ¬ Opens xs bs) → PostCt xs w (.returned (.bool false)) w') := hid (fun w' h1 h2 => ⟨h1, Or.inr ⟨rfl, h2⟩⟩)
  clear hxl hat hok hW
  by_cases hbig : 240 < n
  · have hb : (240 : Int) < (n : Int) := by omega
    have HP := hid (HF0.out w (Frm.refl _ _) (fun bs h => by have := (opens_content h).1; rw [HXL.out] at this; omega))
    clear hbig
    go_enter Try.func22, Try.ntmps22
    go_wp2_with fail
    go_returns
    exact HP.out
  have hb : ¬ (240 : Int) < (n : Int) := by omega
  go_enter Try.func22, Try.ntmps22
  go_wp2_with fail
  go_loopw [3] (fun i wr => ∃ t : Nat, t ≤ n ∧ i = .int .i64 t ∧ Hid (∀ x ∈ xs.take t, -1 ≤ x.k ∧ x.k ≤ 255 ∧ x.zs.length ≤ 256) ∧ Hid (Frm [] w wr)) (fun i _ => n - (intOf i).toNat)
  case atStart => exact ⟨0, Nat.zero_le _, rfl, hid (by simp), hid (Frm.refl _ _)⟩
  case round =>
    obtain ⟨t, ht, rfl, hso, hf⟩ := hrel
    by_cases hlt : t < n
    · obtain ⟨g, o, rfl, hall⟩ : ∃ g o, pp = some ⟨g, o, none⟩ ∧ ∀ i (h : i < xs.length), GAt W0 g (o + i * 4) xs[i] := by
        rcases HAT.out with h | h
        · omega
        · exact h
      have hxt : t < xs.length := by rw [HXL.out]; exact hlt
      have hat := (hall t hxt).kept (HW.out.trans hf.out (by simp))
      have HREJ : Hid (∀ w', Frm [] w w' → (xs[t].a < 1 ∨ 1048576 < xs[t].a ∨ xs[t].k < -1 ∨ 255 < xs[t].k ∨ xs[t].zs.length < 1 ∨ 256 < xs[t].zs.length) → PostCt xs w (.returned (.bool false)) w') := hid (fun w' h1 h2 => HF0.out w' h1 (fun bs h => by
        have := (opens_content h).2.1 xs[t] (List.getElem_mem hxt)
        omega))
      have HRE2 : Hid (∀ (h0 : 0 < t) w', Frm [] w w' → (xs[t].a < (xs[t - 1]'(by omega)).a ∨ xs[t].k ≤ (xs[t - 1]'(by omega)).k) → PostCt xs w (.returned (.bool false)) w') := hid (fun h0 w' h1 h2 => HF0.out w' h1 (fun bs h => by
        have q1 := (opens_content h).2.1 xs[t] (List.getElem_mem hxt)
        have q2 := (opens_content h).2.1 (xs[t - 1]'(by omega)) (List.getElem_mem _)
        have q3 := List.pairwise_iff_getElem.1 (opens_content h).2.2 (t - 1) t (by omega) hxt (by omega)
        omega))
      have HSTEP : Hid ((-1 ≤ xs[t].k ∧ xs[t].k ≤ 255 ∧ xs[t].zs.length ≤ 256) → ∀ x ∈ xs.take (t + 1), -1 ≤ x.k ∧ x.k ≤ 255 ∧ x.zs.length ≤ 256) := hid (fun h x hx => by
        rw [List.take_succ_eq_append_getElem hxt] at hx
        rcases List.mem_append.1 hx with hx | hx
        · exact hso.out x hx
        · simp only [List.mem_singleton] at hx
          subst hx; exact h)
      have hprev : ∀ (h0 : 0 < t) w', Frm [] w w' → GAt w' g (o + (t - 1) * 4) (xs[t - 1]'(by omega)) := fun h0 w' hw' => (hall (t - 1) (by omega)).kept (HW.out.trans hw' (by simp))
      have HPREV := hid hprev
      generalize hx : xs[t] = x at hat HREJ HRE2 HSTEP
      obtain ⟨k0, k1, k2, k3⟩ := hat
      obtain ⟨nz, hnz⟩ : ∃ nz, x.zs.length = nz := ⟨_, rfl⟩
      rw [hnz] at k3 HREJ HSTEP
      have t0 : (0 : Int) ≤ (t : Int) := by omega
      have t1 : (t : Int) < (n : Int) := by omega
      have hfa : Frm [] w (wr.alloc (.cells #[.int .i64 x.a, .int .i64 x.k, .int .i64 x.b, .slice x.p nz x.c] 57)) := hf.out.alloc _
      have HFA := hid hfa
      clear hall hprev hx hnz hfa hb
      by_cases hbad : x.a < 1 ∨ 1048576 < x.a ∨ x.k < -1 ∨ 255 < x.k ∨ nz < 1 ∨ 256 < nz
      · have HP := hid (HREJ.out _ HFA.out hbad)
        clear HREJ HRE2 HSTEP HPREV
        by_cases c1 : x.a < 1
        · clear hbad
          go_wp2_with fail
          go_returns
          exact HP.out
        · by_cases c2 : 1048576 < x.a
          · clear hbad
            go_wp2_with fail
            go_returns
            exact HP.out
          · by_cases c3 : x.k < -1
            · clear hbad
              go_wp2_with fail
              go_returns
              exact HP.out
            · by_cases c4 : 255 < x.k
              · clear hbad
                go_wp2_with fail
                go_returns
                exact HP.out
              · by_cases c5 : nz < 1
                · have c5' : (nz : Int) < 1 := by omega
                  clear hbad c5
                  go_wp2_with fail
                  go_returns
                  exact HP.out
                · have c5' : ¬ (nz : Int) < 1 := by omega
                  have c6' : (256 : Int) < (nz : Int) := by omega
                  clear hbad c5
                  go_wp2_with fail
                  go_returns
                  exact HP.out
      · have c1 : ¬ x.a < 1 := by omega
        have c2 : ¬ 1048576 < x.a := by omega
        have c3 : ¬ x.k < -1 := by omega
        have c4 : ¬ 255 < x.k := by omega
        have c5 : ¬ (nz : Int) < 1 := by omega
        have c6 : ¬ (256 : Int) < (nz : Int) := by omega
        have HS2 := hid (HSTEP.out ⟨by omega, by omega, by omega⟩)
        clear hbad HREJ HSTEP
        by_cases h0 : t = 0
        · subst h0
          clear HRE2 HPREV
          simp only [Nat.zero_mul, Nat.add_zero] at k0 k1 k2 k3
          have hg0 : decide ((0 : Int) < 0) = false := by decide
          go_wp2_with fail
          go_quiet (fail)
          go_wp2_with fail
          go_roundw
          case rel => exact ⟨0 + 1, by omega, by go_num, HS2, hid (HFA.out.drewN _)⟩
          case measure => simp [intOf]; omega
        · have h0' : 0 < t := by omega
          have hp := HPREV.out h0' _ HFA.out
          have HRE3 := hid (HRE2.out h0')
          clear HRE2 HPREV
          generalize xs[t - 1]'(by omega) = y at hp HRE3
          obtain ⟨p0, p1, p2, p3⟩ := hp
          have g0 : (0 : Int) < (t : Int) := by omega
          have hg0 : decide ((0 : Int) < (t : Int)) = true := by simpa using h0'
          have i0 : (0 : Int) ≤ (t : Int) - 1 := by omega
          have i1 : (t : Int) - 1 < (n : Int) := by omega
          have i2 : ((t : Int) - 1).toNat = t - 1 := by omega
          have i3 : IntKind.i64.wrap ((t : Int) - 1) = (t : Int) - 1 := IntWalk.i64_in _ (by omega)
          by_cases d1 : x.a < y.a
          · have HP := hid (fun w' h => HRE3.out w' h (Or.inl d1))
            have q1 : decide (x.a < y.a) = true := decide_eq_true d1
            clear HRE3 HS2
            go_wp2_with fail
            go_quiet (fail)
            go_wp2_with fail
            go_returns
            exact HP.out _ (HFA.out.drewN _)
          · by_cases d2 : y.a = x.a
            · by_cases d3 : x.k ≤ y.k
              · have HP := hid (fun w' h => HRE3.out w' h (Or.inr d3))
                have q1 : decide (x.a < y.a) = false := decide_eq_false d1
                have q2 : decide (y.a = x.a) = true := decide_eq_true d2
                have q2' : (y.a == x.a) = true := by simpa using d2
                have q3 : decide (x.k ≤ y.k) = true := decide_eq_true d3
                clear HRE3 HS2
                go_wp2_with fail
                go_quiet (fail)
                go_wp2_with fail
                go_returns
                exact HP.out _ (HFA.out.drewN _)
              · have q1 : decide (x.a < y.a) = false := decide_eq_false d1
                have q2 : decide (y.a = x.a) = true := decide_eq_true d2
                have q2' : (y.a == x.a) = true := by simpa using d2
                have q3 : decide (x.k ≤ y.k) = false := decide_eq_false d3
                clear HRE3
                go_wp2_with fail
                go_quiet (fail)
                go_wp2_with fail
                go_roundw
                case rel => exact ⟨t + 1, by omega, by go_num, HS2, hid (HFA.out.drewN _)⟩
                case measure => simp [intOf]; omega
            · have q1 : decide (x.a < y.a) = false := decide_eq_false d1
              have q2 : decide (y.a = x.a) = false := decide_eq_false d2
              have q2' : (y.a == x.a) = false := by simpa using d2
              clear HRE3
              go_wp2_with fail
              go_quiet (fail)
              go_wp2_with fail
              go_roundw
              case rel => exact ⟨t + 1, by omega, by go_num, HS2, hid (HFA.out.drewN _)⟩
              case measure => simp [intOf]; omega
    · obtain rfl : t = n := by omega
      have HP : Hid (PostCt xs w (.returned (.bool true)) wr) := hid ⟨hf.out, Or.inl ⟨rfl, by rw [HXL.out]; omega, by have h := hso.out; rwa [List.take_of_length_le (by rw [HXL.out]; omega)] at h⟩⟩
      clear hlt
      go_wp2_with fail
      go_returns
      exact HP.out
end Go.Proofs.Ythifchkeapbfdaa
