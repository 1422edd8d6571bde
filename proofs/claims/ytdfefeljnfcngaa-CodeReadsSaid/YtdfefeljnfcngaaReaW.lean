/- The statement CodeReads: the walk. -/
import Derived.Test.YtdfefeljnfcngaaReaL
namespace Go.Proofs.Ytdfefeljnfcngaa
open Go.RowKit
set_option maxRecDepth 100000

theorem TwoR.apart {w0 w w' : World} {rb rg qb qc pos : Nat} {qp : Option Addr} {bs : List Int} {err : Int} {S : List Nat} (h : TwoR w0 rb rg qb qp qc bs pos err w) (hx : ∀ k ∈ S, k ∉ rb :: rg :: qb :: blk qp) (hf : Frm S w w') (hS : ∀ k ∈ S, w0.heap.size ≤ k) : TwoR w0 rb rg qb qp qc bs pos err w' := by
  refine ⟨h.r.kept hf (fun hk => hx _ hk (by simp)) (fun hk => hx _ hk (by simp)), h.q.kept hf (fun hk => hx _ hk (by simp)) (fun k hk hk2 => hx _ hk2 (by simp [hk])), h.f.trans hf (fun i hi hlt => ?_), h.n1, h.n2, h.n3, h.n4, h.a1, h.a2, h.a3⟩
  have := hS _ hi; omega
set_option maxHeartbeats 3200000 in
theorem reads_any (p : Option Addr) (c : Nat) (bs : List Int) (hb : ∀ z ∈ bs, 0 ≤ z ∧ z < 256) (hl : bs.length ≤ 140737488351232) (q : Option Addr) (m c2 : Nat) (w : World) (hrd : Rd w p bs) (hpc : bs = [] → p = none → c = 0) (hcl : CameL w q m c2) :
    Calls Try.prog 3 #[.slice p bs.length c, .slice q m c2] w fun e w' => e = .returned (.bool true) ∧ Frm [] w w' := by
  have HRD := hid hrd
  have HCL := hid hcl
  have HB := hid hb
  have HPC := hid hpc
  have hm : m ≤ 9223372036854775807 := by have := hcl.1; have := hcl.2.1; omega
  clear hrd hcl hb hpc
  go_enter Try.func3, Try.ntmps3
  go_wp2_with fail
  refine (awake_any _).mono ?_
  rintro e w0 ⟨rfl, hf0⟩
  have HF0 := hid hf0
  have HRD0 := hid (HRD.out.kept hf0 (by simp))
  clear hf0
  go_wp2_with (at_builtin; refine wpList_appB rfl _ _ 22 rfl 5 Try.underlying22 infoE none 0 0 [] rfl rfl (Own.nil _ _) p bs.length c bs rfl rfl HPC.out HRD0.out (by simp; omega) ?_)
  intro xs p1 c1 w1 hxs ho1 hf1 hfr1
  have hx : xs = bs := hxs.out
  subst xs
  have hf1' : Frm [] w0 w1 := hf1.out
  have hnew : ∀ k ∈ blk p1, w0.heap.size ≤ k := fun k hk => (hfr1.out k hk).elim (fun h => by simp [blk] at h) id
  have HNEW := hid hnew
  have HRD1 := hid (HRD0.out.kept hf1' (by simp))
  have HF1 := hid (HF0.out.trans hf1' (by simp))
  clear hf1' hnew hf1 hfr1
  go_wp2_with fail
  refine (newReader_any p1 c1 bs _ ho1.out.rd (by omega)).mono ?_
  rintro e w2 ⟨rb, rg, rfl, hr2, hf2, hrb, hrg⟩
  have HR2 := hid hr2
  have HF2 := hid hf2
  have HO2 := hid (ho1.out.kept hf2 (by simp))
  have HRD2 := hid (HRD1.out.kept hf2 (by simp))
  clear hr2 hf2
  go_wp2_with fail
  refine (open_any p c bs _ HRD2.out HPC.out hl).mono ?_
  rintro e w3 ⟨qb, qp, qc, rfl, hq3, hf3, hqb, hqp⟩
  have hs0 := HF0.out.size
  have hs1 := HF1.out.size
  have hs2 := HF2.out.size
  have hl1 := ho1.out.low
  have hl2 := HR2.out.cells
  have T3 : Hid (TwoR w rb rg qb qp qc bs 0 0 w3) := by
    refine ⟨HR2.out.kept hf3 (by simp) (by simp), hq3, (HF1.out.trans HF2.out (by simp)).trans hf3 (by simp), by omega, by omega, by omega, fun k hk => by have := hqp k hk; omega, by omega, by omega, fun hk => by have := hqp _ hk; omega⟩
  have HAP : Hid (∀ k ∈ blk p1, k ∉ rb :: rg :: qb :: blk qp) := by
    intro k hk hk2
    have h1 := hl1 k hk
    simp only [List.mem_cons] at hk2
    rcases hk2 with rfl | rfl | rfl | hk2
    · omega
    · omega
    · omega
    · have := hqp k hk2; omega
  have HO3 := hid (HO2.out.kept hf3 (by simp))
  have HRD3 := hid (HRD2.out.kept hf3 (by simp))
  have hz1 := conv_any (P := Try.prog) (w := w3) 22 5 9 Try.underlying22 Try.underlying5 Try.underlying9 HO3.out.rd c1 rfl
  have hz2 := conv_any (P := Try.prog) (w := w3) 22 5 9 Try.underlying22 Try.underlying5 Try.underlying9 HRD3.out c rfl
  generalize strOfNums bs = S at hz1 hz2
  clear hq3 hf3 hqb hqp hs1 hs2 hl1 hl2 hrb hrg
  go_wp2_with fail
  clear hz1 hz2
  go_loopw [9] (fun i wr => ∃ (j : Nat) (ys : List Int), j ≤ bs.length ∧ i = .int .i64 j ∧ Hid (ys.length = bs.length) ∧ Hid (Own wr 5 (.slice p1 bs.length c1) ys) ∧ Hid (TwoR w rb rg qb qp qc bs 0 0 wr)) (fun i _ => bs.length - (intOf i).toNat)
  case atStart => exact ⟨0, bs, Nat.zero_le _, rfl, hid rfl, HO3, T3⟩
  case round =>
    obtain ⟨j, ys, hj, rfl, hyl, hq1, hq2⟩ := hrel
    by_cases hlt : j < bs.length
    · obtain ⟨g, rfl, hgl, hc, hfz, hset⟩ := hq1.out.at hyl.out hlt
      have HSET := hid hset
      have hng := HNEW.out g (by simp [blk])
      clear hset
      go_wp2_with fail
      go_roundw
      case rel =>
        refine ⟨j + 1, _, by omega, by go_num, ?_, HSET.out ((ys.getD j 0 + 1) % 256), hq2.out.apart (S := [g]) (fun k hk => ?_) ((Frm.refl [g] _).setCell _ _ (by simp)) (fun k hk => ?_)⟩
        · show _ = _
          rw [List.length_set]
          exact hyl.out
        · simp at hk
          subst hk
          exact HAP.out _ (by simp [blk])
        · simp at hk
          omega
      case measure => simp [intOf]; omega
    · obtain rfl : j = bs.length := by omega
      clear hlt hq1 hyl
      go_wp2_with fail
      go_loopw [10] (fun i wr => ∃ (t pos : Nat) (err : Int), t ≤ m ∧ i = .int .i64 t ∧ Hid (TwoR w rb rg qb qp qc bs pos err wr)) (fun i _ => m - (intOf i).toNat)
      case atStart => exact ⟨0, 0, 0, Nat.zero_le _, rfl, hq2⟩
      case round =>
        obtain ⟨t, pos, err, ht, rfl, hinv⟩ := hrel
        by_cases hlt : t < m
        · obtain ⟨g, o, rfl, d, hat, hok⟩ : ∃ g o, q = some ⟨g, o, none⟩ ∧ ∃ d, CallAt wr g (o + t * 5) d ∧ CallOk w d := by
            rcases HCL.out.2.2 with h | ⟨g, o, rfl, h⟩
            · omega
            · obtain ⟨d, h1, h2⟩ := h t hlt
              exact ⟨g, o, rfl, d, h1.kept hinv.out.f, h2⟩
          obtain ⟨k0, k1, k2, k3, k4⟩ := hat
          have HL := hid (takes_any w wr rb rg qb qc pos qp bs HB.out err d hok.2.2.1 hinv.out)
          clear hok
          go_wp2_with fail
          refine HL.out.mono ?_
          rintro e w3 ⟨rfl, pos', err', ht3⟩
          have H3 := hid ht3
          clear ht3 k0 k1 k2 k3 k4 HL
          go_wp2_with fail
          refine (left_any _ _ _ _ _ _ H3.out.r).mono ?_
          rintro e w4 ⟨rfl, x1, rfl⟩
          have H4 := hid (H3.out.same (S := []) ((Frm.refl [] _).drewN x1) (by simp))
          go_wp2_with fail
          refine (qleft_any _ _ _ _ _ _ _ H4.out.q).mono ?_
          rintro e w5 ⟨rfl, x2, rfl⟩
          have H5 := hid (H3.out.same (S := []) ((Frm.refl [] _).drewN (x1 + x2)) (by simp))
          go_wp2_with fail
          refine (doneR_any _ _ _ _ _ _ H5.out.r).mono ?_
          rintro e w6 ⟨rfl, x3, rfl⟩
          have H6 := hid (H3.out.same (S := []) ((Frm.refl [] _).drewN (x1 + x2 + x3)) (by simp))
          go_wp2_with fail
          refine (qdone_any _ _ _ _ _ _ _ H6.out.q).mono ?_
          rintro e w7 ⟨rfl, x4, rfl⟩
          have H7 := hid (H3.out.same (S := []) ((Frm.refl [] _).drewN (x1 + x2 + x3 + x4)) (by simp))
          go_wp2_with fail
          go_roundw
          case rel => exact ⟨t + 1, pos', err', by omega, by go_num, H7⟩
          case measure => simp [intOf]; omega
        · obtain rfl : t = m := by omega
          clear hlt
          go_wp2_with fail
          refine (left_any _ _ _ _ _ _ hinv.out.r).mono ?_
          rintro e w4 ⟨rfl, x1, rfl⟩
          have H4 := hid (hinv.out.same (S := []) ((Frm.refl [] _).drewN x1) (by simp))
          go_wp2_with fail
          refine (qleft_any _ _ _ _ _ _ _ H4.out.q).mono ?_
          rintro e w5 ⟨rfl, x2, rfl⟩
          have H5 := hid (hinv.out.same (S := []) ((Frm.refl [] _).drewN (x1 + x2)) (by simp))
          go_wp2_with fail
          refine (doneR_any _ _ _ _ _ _ H5.out.r).mono ?_
          rintro e w6 ⟨rfl, x3, rfl⟩
          have H6 := hid (hinv.out.same (S := []) ((Frm.refl [] _).drewN (x1 + x2 + x3)) (by simp))
          go_wp2_with fail
          refine (qdone_any _ _ _ _ _ _ _ H6.out.q).mono ?_
          rintro e w7 ⟨rfl, x4, rfl⟩
          have H7 := hid (hinv.out.same (S := []) ((Frm.refl [] _).drewN (x1 + x2 + x3 + x4)) (by simp))
          go_wp2_with fail
          go_returns
          exact ⟨rfl, H7.out.f⟩
end Go.Proofs.Ytdfefeljnfcngaa
