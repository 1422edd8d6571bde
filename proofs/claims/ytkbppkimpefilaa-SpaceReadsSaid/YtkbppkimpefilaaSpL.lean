/- The document's space maps: Decode. -/
import Derived.Test.YtkbppkimpefilaaSpJ
import Derived.Test.YtkbppkimpefilaaSpD
import Derived.Test.YtkbppkimpefilaaRefS
namespace Go.Proofs.Ytkbppkimpefilaa
open Go.RowKit Go.Lib
set_option maxRecDepth 100000

theorem qnum10 (b c pos : Nat) (p : Option Addr) (bs : List Int) (hb : ∀ z ∈ bs, 0 ≤ z ∧ z < 256) (err : Int) (k : Nat) (w : World) (hw : IsQ w b p c bs pos err) (hk1 : 1 ≤ k) (hk8 : k ≤ 8) :
    Calls Try.prog 62 #[.pointer (some ⟨b, 0, none⟩), .int .i64 (k : Int)] w fun e w' => ∃ v pos' err', e = .returned (.int .u64 v) ∧ (0 ≤ v ∧ v < 2 ^ (8 * k)) ∧ IsQ w' b p c bs pos' err' ∧ Frm [b] w w' ∧
      (err = 0 ∧ pos + k ≤ bs.length → v = numAt bs pos k ∧ pos' = pos + k ∧ err' = 0) ∧ (¬ (err = 0 ∧ pos + k ≤ bs.length) → err' ≠ 0) := by
  refine (qnum_any b c pos p bs hb err k w hw (by omega) (by omega)).mono ?_
  rintro e w' ⟨rfl, h1, h2⟩
  refine ⟨_, _, _, rfl, ?_, h1, h2, ?_, ?_⟩
  · have h0 : (0 : Int) < 2 ^ (8 * k) := Int.pow_pos (by decide)
    have hn := numAt_bd hb pos k
    by_cases he : err = 0
    · subst he
      rw [readS_ok]
      unfold numT
      rw [if_neg (by omega)]
      by_cases hl : pos + k ≤ bs.length
      · rw [if_neg (by rw [List.length_drop]; omega)]
        simpa [numAt] using hn
      · rw [if_pos (by rw [List.length_drop]; omega)]
        exact ⟨Int.le_refl _, h0⟩
    · unfold readS
      rw [if_pos he]
      exact ⟨Int.le_refl _, h0⟩
  · rintro ⟨rfl, hl⟩
    rw [readS_ok]
    unfold numT
    rw [if_neg (by omega), if_neg (by rw [List.length_drop]; omega)]
    simp [numAt]
  · intro hn
    by_cases he : err = 0
    · subst he
      have hl : ¬ (pos + k ≤ bs.length) := fun h => hn ⟨rfl, h⟩
      rw [readS_ok]
      unfold numT
      rw [if_neg (by omega), if_pos (by rw [List.length_drop]; omega)]
      simp
    · unfold readS
      rw [if_pos he]
      exact he
/-- Where the document's Decode stands. -/
structure QS (w0 w : World) (b : Nat) (pb : Option Addr) (cb : Nat) (bs : List Int) (pos : Nat) (err : Int) (pk : Option Addr) (t ck : Nat) (ls : List Sq) : Prop where
  q : IsQ w b pb cb bs pos err
  o : OwnE w pk t ck ls
  i : InE ls
  f : Frm [] w0 w
  nb : w0.heap.size ≤ b
  np : ∀ k ∈ blk pb, w0.heap.size ≤ k
  nk : ∀ k ∈ blk pk, w0.heap.size ≤ k ∧ k ≠ b ∧ k ∉ blk pb
section
variable {w0 w w' : World} {b : Nat} {pb : Option Addr} {cb : Nat} {bs : List Int} {pos pos' : Nat} {err err' : Int} {pk : Option Addr} {t ck : Nat} {ls : List Sq}
theorem QS.k0 (h : QS w0 w b pb cb bs pos err pk t ck ls) (hf : Frm [] w w') : QS w0 w' b pb cb bs pos err pk t ck ls :=
  ⟨h.q.kept hf (by simp) (by simp), h.o.kept hf (by simp), h.i, h.f.trans hf (by simp), h.nb, h.np, h.nk⟩
theorem QS.read (h : QS w0 w b pb cb bs pos err pk t ck ls) (h1 : IsQ w' b pb cb bs pos' err') (hf : Frm [b] w w') : QS w0 w' b pb cb bs pos' err' pk t ck ls :=
  ⟨h1, h.o.kept hf (fun k hk hm => by simp at hm; exact (h.nk k hk).2.1 hm), h.i, h.f.trans hf (fun k hk hkl => by simp at hk; have := h.nb; omega), h.nb, h.np, h.nk⟩
theorem QS.app {ls' : List Sq} {p2 : Option Addr} {c2 : Nat} (h : QS w0 w b pb cb bs pos err pk t ck ls) (ho : OwnE w' p2 (t + 1) c2 ls') (hi : InE ls') (hf : Frm (blk pk) w w') (hb : ∀ k ∈ blk p2, k ∈ blk pk ∨ w.heap.size ≤ k) : QS w0 w' b pb cb bs pos err p2 (t + 1) c2 ls' := by
  have hbl := lt_of_heap h.q.1
  have hpl := h.q.2.1.low
  have hz := h.f.size
  refine ⟨h.q.kept hf (fun hm => (h.nk b hm).2.1 rfl) (fun k hk hm => (h.nk k hm).2.2 hk), ho, hi, h.f.trans hf (fun k hk hkl => by have := (h.nk k hk).1; omega), h.nb, h.np, fun k hk => ?_⟩
  rcases hb k hk with h1 | h1
  · exact h.nk k h1
  · exact ⟨by omega, by omega, fun hm => by have := hpl k hm; omega⟩
end
set_option maxHeartbeats 12800000 in
theorem refDecE_any (p : Option Addr) (c : Nat) (bs : List Int) (hb : ∀ z ∈ bs, 0 ≤ z ∧ z < 256) (w : World) (hrd : Rd w p bs) (hpc : bs = [] → p = none → c = 0) (hl : bs.length ≤ 140737488351232) :
    Calls Try.prog 24 #[.slice p bs.length c] w (DecA w bs) := by
  obtain ⟨PO, hPO⟩ : ∃ PO : Ending → World → Prop, DecA w bs = PO := ⟨_, rfl⟩
  rw [hPO]
  have HP1 : Hid (∀ w', ¬ DecOk bs → Frm [] w w' → PO (.returned (.tuple #[.slice none 0 0, .int .i64 100])) w') := hid (fun w' h1 h2 => by
    rw [← hPO]
    exact Or.inl ⟨h1, rfl, h2⟩)
  have HP2 : Hid (∀ p c n w', n = many10 bs → DecOk bs → OwnE w' p n c (entsV bs n) → Frm [] w w' → (∀ k ∈ blk p, w.heap.size ≤ k) → PO (.returned (.tuple #[.slice p n c, .int .i64 0])) w') := hid (fun p c n w' h0 h1 h2 h3 h4 => by
    rw [← hPO]
    subst h0
    exact Or.inr ⟨h1, p, c, rfl, h2, h3, h4⟩)
  have HB := hid hb
  have HNR := hid (open_any p c bs w hrd hpc hl)
  obtain ⟨L, hL⟩ : ∃ q, bs.length = q := ⟨_, rfl⟩
  rw [hL] at HNR hl ⊢
  have HL := hid hL
  clear hb hrd hpc hPO hL
  go_enter Try.func24, Try.ntmps24
  go_wp2_with fail
  refine HNR.out.mono ?_
  rintro e w1 ⟨b, pb, cb, rfl, hq1, hf1, hb1, hp1⟩
  have HQ1 : Hid (QS w w1 b pb cb bs 0 0 none 0 0 []) := hid ⟨hq1, ⟨⟨rfl, Or.inl ⟨rfl, rfl⟩⟩, rfl⟩, fun y hy => by simp at hy, hf1, hb1, hp1, by simp [blk]⟩
  clear hq1 hf1 hb1 hp1 HNR
  go_wp2_with fail
  refine (qnum10 b cb 0 pb bs HB.out 0 2 w1 HQ1.out.q (by omega) (by omega)).mono ?_
  rintro e w2 ⟨v, pos2, err2, rfl, ⟨v1, v2⟩, hq2, hf2, ha, hz⟩
  rw [HL.out] at ha hz
  obtain ⟨N, rfl⟩ : ∃ N : Nat, v = N := ⟨v.toNat, by omega⟩
  have hN6 : N < 65536 := by omega
  have hwN : IntKind.i64.wrap (N : Int) = (N : Int) := IntWalk.i64_in _ ⟨by omega, by omega⟩
  have HQ2 := hid (HQ1.out.read hq2 hf2)
  have HST : Hid ((err2 = 0 ∧ pos2 = 2 + 13 * 0 ∧ ([] : List Sq) = entsV bs 0 ∧ (∀ i, i < 0 → numAt bs (2 + 13 * i) 1 ≤ 1) ∧ N = many10 bs ∧ 2 ≤ L) ∨ (err2 ≠ 0 ∧ ¬ DecOk bs)) := hid (by
    by_cases h2 : 2 ≤ L
    · obtain ⟨h3, h4, h5⟩ := ha ⟨rfl, by omega⟩
      exact Or.inl ⟨h5, by omega, rfl, fun i hi => by omega, by unfold many10; omega, h2⟩
    · exact Or.inr ⟨hz (fun h => h2 (by omega)), fun h => by have := h.1; rw [HL.out] at this; omega⟩)
  clear v1 v2 hq2 hf2 ha hz HQ1
  go_wp2_with fail
  go_loopw [7, 6] (fun i s6 wr => ∃ (t : Nat) (pk : Option Addr) (ck pos : Nat) (err : Int) (ls : List Sq), t ≤ N ∧ i = .int .i64 (t : Int) ∧ s6 = .slice pk t ck ∧ Hid (QS w wr b pb cb bs pos err pk t ck ls) ∧ Hid ((err = 0 ∧ pos = 2 + 13 * t ∧ ls = entsV bs t ∧ (∀ i, i < t → numAt bs (2 + 13 * i) 1 ≤ 1) ∧ N = many10 bs ∧ 2 ≤ L) ∨ (err ≠ 0 ∧ ¬ DecOk bs))) (fun i _ _ => N - (intOf i).toNat)
  case atStart => exact ⟨0, none, 0, pos2, err2, [], Nat.zero_le _, rfl, rfl, HQ2, HST⟩
  case round =>
    clear HQ2 HST
    obtain ⟨t, pk, ck, pos, err, ls, ht, rfl, rfl, hq, hst⟩ := hrel
    obtain ⟨_, _, _, _, k0, k1, k2, _⟩ := hq.out.q.cells
    by_cases hgo : t < N ∧ err = 0
    · obtain ⟨hlt, he0⟩ := hgo
      subst he0
      have t1 : (t : Int) < (N : Int) := by omega
      have HG : Hid (pos = 2 + 13 * t ∧ ls = entsV bs t ∧ (∀ i, i < t → numAt bs (2 + 13 * i) 1 ≤ 1) ∧ N = many10 bs ∧ 2 ≤ L) := hid (by
        rcases hst.out with h | h
        · exact h.2
        · exact absurd rfl h.1)
      have HQ := hid hq.out
      clear hq hst k0 k1
      go_wp2_with fail
      refine (qnum10 b cb pos pb bs HB.out 0 1 wr HQ.out.q (by omega) (by omega)).mono ?_
      rintro e w3 ⟨v0, p0, e0, rfl, hv0, hq3, hf3, ha0, hz0⟩
      have HQ3 := hid (HQ.out.read hq3 hf3)
      have HV0 := hid hv0
      have HA0 := hid (And.intro ha0 hz0)
      clear hv0 hq3 hf3 ha0 hz0 HQ k2
      go_wp2_with fail
      refine (qnum10 b cb p0 pb bs HB.out e0 6 w3 HQ3.out.q (by omega) (by omega)).mono ?_
      rintro e w4 ⟨v1, p1, e1, rfl, hv1, hq3, hf3, ha0, hz0⟩
      have HQ4 := hid (HQ3.out.read hq3 hf3)
      have HV1 := hid hv1
      have HA1 := hid (And.intro ha0 hz0)
      clear hv1 hq3 hf3 ha0 hz0 HQ3
      go_wp2_with fail
      refine (qnum10 b cb p1 pb bs HB.out e1 6 w4 HQ4.out.q (by omega) (by omega)).mono ?_
      rintro e w5 ⟨v2, p2, e2, rfl, hv2, hq3, hf3, ha0, hz0⟩
      have HQ5 := hid (HQ4.out.read hq3 hf3)
      have HV2 := hid hv2
      have HA2 := hid (And.intro ha0 hz0)
      clear hv2 hq3 hf3 ha0 hz0 HQ4
      have HFULL : Hid ((2 + 13 * (t + 1) ≤ L ∧ v0 = numAt bs (2 + 13 * t) 1 ∧ v1 = numAt bs (2 + 13 * t + 1) 6 ∧ v2 = numAt bs (2 + 13 * t + 7) 6 ∧ p2 = 2 + 13 * (t + 1) ∧ e2 = 0) ∨ (e2 ≠ 0 ∧ ¬ DecOk bs)) := hid (by
        obtain ⟨g1, g2, g3, g4, g5⟩ := HG.out
        have a0 := HA0.out
        have a1 := HA1.out
        have a2 := HA2.out
        rw [HL.out] at a0 a1 a2
        by_cases hfull : 2 + 13 * (t + 1) ≤ L
        · obtain ⟨q1, q2, q3⟩ := a0.1 ⟨by first | trivial | rfl, by omega⟩
          subst q2; subst q3
          obtain ⟨q4, q5, q6⟩ := a1.1 ⟨by first | trivial | rfl, by omega⟩
          subst q5; subst q6
          obtain ⟨q7, q8, q9⟩ := a2.1 ⟨by first | trivial | rfl, by omega⟩
          subst g1
          exact Or.inl ⟨hfull, q1, q4, q7, by omega, q9⟩
        · refine Or.inr ⟨a2.2 (fun h2 => ?_), fun hd => hfull (by have := hd.2.1; rw [HL.out, ← g4] at this; omega)⟩
          by_cases h0 : pos + 1 ≤ L
          · obtain ⟨_, q2, q3⟩ := a0.1 ⟨by first | trivial | rfl, h0⟩
            by_cases h1 : e0 = 0 ∧ p0 + 6 ≤ L
            · obtain ⟨_, q5, q6⟩ := a1.1 h1
              omega
            · exact a1.2 h1 h2.1
          · exact a1.2 (fun h => a0.2 (fun h => h0 h.2) h.1) h2.1)
      obtain ⟨b1, b2⟩ := HV1.out
      obtain ⟨b3, b4⟩ := HV2.out
      have hw1 : IntKind.i64.wrap v1 = v1 := IntWalk.i64_in _ ⟨by omega, by omega⟩
      have hw2 : IntKind.i64.wrap v2 = v2 := IntWalk.i64_in _ ⟨by omega, by omega⟩
      clear b1 b2 b3 b4 HA0 HA1 HA2
      by_cases hgt : 1 < v0
      · have HND : Hid (¬ DecOk bs) := hid (by
          rcases HFULL.out with h | h
          · intro hd
            have h1 := hd.2.2.1 t (by rw [← HG.out.2.2.2.1]; exact hlt)
            rw [← h.2.1] at h1
            omega
          · exact h.2)
        go_wp2_with fail
        first | go_returns | skip
        exact HP1.out w5 HND.out HQ5.out.f
      · obtain ⟨fb, hfb⟩ : ∃ q, decide (v0 = 1) = q := ⟨_, rfl⟩
        have hfb2 : (v0 == 1) = fb := by rw [← hfb]; rfl
        have HFB := hid hfb
        have h9 : Frm [] w5 (w5.alloc (.cells #[.bool fb, .int .i64 v1, .int .i64 v2] 41)) := (Frm.refl _ _).alloc _
        have HQ9 := hid (HQ5.out.k0 h9)
        have HOW := hid HQ9.out.o.1
        have HRV := hid (rv_block (heap_alloc_new w5 (.cells #[.bool fb, .int .i64 v1, .int .i64 v2] 41)))
        have HIN2 : Hid (InE (ls ++ [⟨fb, ⟨v1, v2⟩⟩])) := hid (fun y hy => by
          rcases List.mem_append.1 hy with h | h
          · exact HQ9.out.i y h
          · simp at h
            subst h
            have := HV1.out
            have := HV2.out
            unfold Sp.In
            simp only
            omega)
        have HST2 : Hid ((e2 = 0 ∧ p2 = 2 + 13 * (t + 1) ∧ ls ++ [⟨fb, ⟨v1, v2⟩⟩] = entsV bs (t + 1) ∧ (∀ i, i < t + 1 → numAt bs (2 + 13 * i) 1 ≤ 1) ∧ N = many10 bs ∧ 2 ≤ L) ∨ (e2 ≠ 0 ∧ ¬ DecOk bs)) := hid (by
          obtain ⟨g1, g2, g3, g4, g5⟩ := HG.out
          rcases HFULL.out with ⟨_, q1, q2, q3, q4, q5⟩ | h
          · refine Or.inl ⟨q5, q4, ?_, fun i hi => ?_, g4, g5⟩
            · rw [entsV_succ, g2]
              unfold entV
              rw [← q1, ← q2, ← q3, HFB.out]
            · by_cases h : i < t
              · exact g3 i h
              · obtain rfl : i = t := by omega
                rw [← q1]; omega
          · exact Or.inr h)
        clear h9 hfb HQ5
        go_wp2_with (at_builtin; refine wpList_appV rfl _ _ 22 rfl 41 3 24 _ Try.underlying22 infoSq rfl (by decide) pk t ck (rowE ls) rfl HOW.out (some ⟨w5.heap.size, 0, none⟩) 1 1 [.bool fb, .int .i64 v1, .int .i64 v2] rfl rfl (by simp) HRV.out (by intro u hu; simp at hu; rcases hu with rfl | rfl | rfl <;> rfl) (by unfold maxLen; omega) (by omega) ?_)
        intro p6 c6 w9 ho9 hf9 hb9
        have HQ10 := hid (HQ9.out.app (ls' := ls ++ [⟨fb, ⟨v1, v2⟩⟩]) ⟨by rw [rowE_app]; exact ho9.out, by rw [List.length_append, HQ9.out.o.2]; rfl⟩ HIN2.out hf9.out (fun k hk => by have := hb9.out k hk; simpa using this))
        clear ho9 hf9 hb9 HOW HRV HQ9
        go_wp2_with fail
        go_roundw
        case rel => exact ⟨t + 1, p6, c6, p2, e2, _, by omega, by go_num, by go_num, HQ10, HST2⟩
        case measure => simp [intOf]; omega
    · go_upto_region 5 with fail
      go_cut [27] from 18 to 28 (fun s wx => s = .bool false ∧ wx = wr)
      case first =>
        by_cases hlt : t < N
        · have t1 : (t : Int) < (N : Int) := by omega
          have he : ¬ err = 0 := fun h => hgo ⟨hlt, h⟩
          have hb : (err == 0) = false := by simpa using he
          go_wp2_with fail
          go_meet
          case rel => exact ⟨rfl, rfl⟩
        · have t1 : ¬ ((t : Int) < (N : Int)) := by omega
          go_wp2_with fail
          go_meet
          case rel => exact ⟨rfl, rfl⟩
      obtain ⟨rfl, hwc⟩ := hcut
      have hwr9 := hwc.symm
      clear hwc k0 k1 k2
      subst hwr9
      have HDN := hid (qdone_any b cb pos pb bs err _ hq.out.q)
      obtain ⟨D, hD⟩ : ∃ q, doneS bs.length pos err = q := ⟨_, rfl⟩
      rw [hD] at HDN
      obtain ⟨C, hC⟩ : ∃ q, chkE ls = q := ⟨_, rfl⟩
      have HFIN : Hid ((D = 0 ∧ C = 0 → DecOk bs ∧ ls = entsV bs t ∧ t = many10 bs) ∧ (¬ (D = 0 ∧ C = 0) → ¬ DecOk bs)) := hid (by
        rw [← hD, ← hC]
        unfold doneS
        rw [HL.out]
        rcases hst.out with ⟨rfl, rfl, rfl, g3, g4, g5⟩ | ⟨h1, h2⟩
        · have htN : t = N := by
            by_cases h : t < N
            · exact absurd ⟨h, rfl⟩ hgo
            · omega
          by_cases hp : 2 + 13 * t < L
          · rw [if_pos ⟨rfl, hp⟩]
            exact ⟨fun h => by omega, fun _ hd => by have := hd.2.1; rw [HL.out, ← g4] at this; omega⟩
          · have hpos := hq.out.q.2.2.2.1
            rw [HL.out] at hpos
            rw [if_neg (fun h => hp h.2)]
            refine ⟨fun h => ⟨⟨by rw [HL.out]; exact g5, by rw [HL.out, ← g4]; omega, fun i hi => g3 i (by omega), by rw [← g4, ← htN]; exact h.2⟩, rfl, by omega⟩, fun h hd => h ⟨rfl, ?_⟩⟩
            have := hd.2.2.2
            rw [← g4, ← htN] at this
            exact this
        · rw [if_neg (fun h => h1 h.1)]
          exact ⟨fun h => absurd h.1 h1, fun _ => h2⟩)
      clear hD hgo hst
      go_wp2_with fail
      refine HDN.out.mono ?_
      rintro e w5 ⟨rfl, n5, hw5⟩
      have HQ5 := hid (hq.out.k0 (show Frm [] _ w5 by rw [hw5]; exact (Frm.refl [] _).drewN n5))
      have HCK := hid (refChkE_any pk t ck ls w5 HQ5.out.o.rv HQ5.out.o.2 HQ5.out.i (by omega))
      rw [hC] at HCK
      clear hw5 hC HDN hq
      go_wp2_with fail
      refine HCK.out.mono ?_
      rintro e w6 ⟨rfl, hf6⟩
      have HQ6 := hid (HQ5.out.k0 hf6)
      clear hf6 HCK HQ5
      by_cases hD0 : D = 0
      · subst hD0
        by_cases hC0 : C = 0
        · subst hC0
          obtain ⟨z1, z2, z3⟩ := HFIN.out.1 ⟨rfl, rfl⟩
          have HZ := hid (And.intro z1 z3)
          subst z2
          clear z1 z3
          go_wp2_with fail
          first | go_returns | skip
          exact HP2.out pk ck t w6 HZ.out.2 HZ.out.1 HQ6.out.o HQ6.out.f (fun k hk => (HQ6.out.nk k hk).1)
        · have hbC : (C != 0) = true := by simpa using hC0
          have HND : Hid (¬ DecOk bs) := hid (HFIN.out.2 (fun h => hC0 h.2))
          go_wp2_with fail
          first | go_returns | skip
          exact HP1.out w6 HND.out HQ6.out.f
      · have hbD : (D != 0) = true := by simpa using hD0
        have HND : Hid (¬ DecOk bs) := hid (HFIN.out.2 (fun h => hD0 h.1))
        go_wp2_with fail
        first | go_returns | skip
        exact HP1.out w6 HND.out HQ6.out.f
end Go.Proofs.Ytkbppkimpefilaa
