/- VolumeOpens, walked. -/
import Derived.Test.YthifchkeapbfdaaVolBq
import Derived.Test.YthifchkeapbfdaaVolAd
namespace Go.Proofs.Ythifchkeapbfdaa
open Go.RowKit
set_option maxRecDepth 100000

theorem opens_gsay {xs ys : List GCell} {bs : List Int} (he : ys.map gsay = xs.map gsay) (h : Opens ys bs) : Opens xs bs := by
  obtain ⟨h1, h2, h3, h4, h5⟩ := h
  have e1 : ys.map (·.a) = xs.map (·.a) := by
    have := congrArg (List.map (fun x : Int × Int × Int × List Int => x.1)) he
    simpa [gsay, Function.comp_def] using this
  have e2 : ys.map kz = xs.map kz := by
    have := congrArg (List.map (fun x : Int × Int × Int × List Int => (x.2.1, x.2.2.2))) he
    rw [List.map_map, List.map_map] at this
    exact this
  refine ⟨h1, h2, h3, fun x hx => ?_, by rw [← e2]; exact h5⟩
  have h6 : x.a ∈ ys.map (·.a) := by rw [e1]; exact List.mem_map.2 ⟨x, hx, rfl⟩
  obtain ⟨y, hy, hy2⟩ := List.mem_map.1 h6
  rw [← hy2]
  exact h4 y hy
theorem zs_gsay {xs ys : List GCell} (he : ys.map gsay = xs.map gsay) {P : List Int → Prop} (h : ∀ x ∈ xs, P x.zs) : ∀ y ∈ ys, P y.zs := fun y hy => by
  have h6 : gsay y ∈ xs.map gsay := by rw [← he]; exact List.mem_map.2 ⟨y, hy, rfl⟩
  obtain ⟨x, hx, hx2⟩ := List.mem_map.1 h6
  simp only [gsay, Prod.mk.injEq] at hx2
  rw [← hx2.2.2.2]
  exact h x hx
set_option maxHeartbeats 3200000 in
theorem volopens_any (pp : Option Addr) (n pc : Nat) (xs : List GCell) (q : Option Addr) (m c2 : Nat) (w : World) (hg : CameG w pp n pc xs) (hcl : CameO w q m c2) (hbig : BigO w q m) :
    Calls Try.prog 4 #[.slice pp n pc, .slice q m c2] w fun e w' => e = .returned (.bool true) ∧ Frm [] w w' := by
  have HCL := hid hcl
  have HBIG := hid hbig
  have HG := hid hg
  have hn0 : ∀ x : Nat, x ∉ ([] : List Nat) := fun _ => List.not_mem_nil
  clear hcl hbig hg
  go_enter Try.func4, Try.ntmps4
  go_wp2_with fail
  refine (awakeV_any _).mono ?_
  rintro e w1 ⟨rfl, hf1⟩
  have HF1 := hid hf1
  clear hf1
  go_wp2_with fail
  refine (copied_any w w1 pp n pc xs HG.out HF1.out).mono ?_
  rintro e w2 ⟨qq, m2, qc, ys, rfl, hm2, hys, ho2, hf2⟩
  obtain rfl := hm2.out
  have hln : ys.length = n := by
    have h1 := congrArg List.length hys
    rw [List.length_map, List.length_map] at h1
    rw [h1]; exact HG.out.1
  have HLN := hid hln
  have HYS := hid hys
  have HO2 := hid ho2
  have HF2 := hid (HF1.out.trans hf2 (by simp))
  have hs1 := HF1.out.size
  have HOPEN := hid (openG_any w1.heap.size qc ys.length qq ys w2 rfl (by rw [hln]; exact HG.out.2.2.2.1) ho2 (zs_gsay hys (P := fun z => z.length ≤ 140737488351232) (fun x hx => (HG.out.2.2.2.2.2 x hx).2.2.2.2.2.2)) (zs_gsay hys (P := fun zs => ∀ z ∈ zs, 0 ≤ z ∧ z < 256) (fun x hx => (HG.out.2.2.2.2.2 x hx).2.2.2.2.1)))
  clear hys ho2 hf2 hln hm2
  go_wp2_with fail
  refine HOPEN.out.mono ?_
  rintro e w3 ⟨hf3, h3⟩
  obtain ⟨xv, xe, rfl, h3'⟩ : ∃ xv xe, e = .returned (.tuple #[.pointer xv, .int .i64 xe]) ∧ ((xv = none ∧ xe = 190 ∧ ∀ bs, ¬ Opens ys bs) ∨ ∃ (bs : List Int) (b g : Nat), Opens ys bs ∧ xv = some ⟨b, 0, none⟩ ∧ xe = 0 ∧ IsVol w3 b g bs ∧ w2.heap.size ≤ b ∧ w2.heap.size ≤ g) := by
    rcases h3 with ⟨rfl, h⟩ | ⟨bs, b, g, h, rfl, hv, hb, hgg⟩
    · exact ⟨none, 190, rfl, Or.inl ⟨rfl, rfl, h⟩⟩
    · exact ⟨_, 0, rfl, Or.inr ⟨bs, b, g, h, rfl, rfl, hv, hb, hgg⟩⟩
  have H3 := hid h3'
  have HO3 := hid (HO2.out.kept hf3 (by simp))
  have HF3 := hid (HF2.out.trans hf3 (by simp))
  have hs3 := hf3.size
  have HSAME := hid (sameG_any qq pp qc pc n ys xs w3 HLN.out HO3.out.rd (HG.out.rd HF3.out) HYS.out (by have := HG.out.2.2.2.1; omega))
  rw [HLN.out]
  clear h3 h3' hf3 HOPEN
  go_wp2_with fail
  refine HSAME.out.mono ?_
  rintro e w4 ⟨rfl, hf4⟩
  have HO4 := hid (HO3.out.kept hf4 (by simp))
  have HF4 := hid (HF3.out.trans hf4 (by simp))
  have HFA := hid hf4
  have hSP := spoilG_any w4 qq qc ys HO4.out.row HO4.out.dat (by rw [HLN.out]; exact HG.out.2.2.2.1)
  rw [HLN.out] at hSP
  have HSP := hid hSP
  have HSS : Hid (∀ k ∈ blk qq ++ ys.flatMap fun x => blk x.p, w1.heap.size ≤ k ∧ k < w2.heap.size) := hid (fun k hk => by
    rcases List.mem_append.1 hk with hk | hk
    · exact ⟨HO2.out.lop k hk, ownsRow_low HO2.out.row k hk⟩
    · obtain ⟨y, hy, hk⟩ := List.mem_flatMap.1 hk
      exact ⟨HO2.out.lox y hy k hk, (HO2.out.dat y hy).lows k hk⟩)
  clear hf4 HSAME hSP
  go_wp2_with fail
  refine HSP.out.mono ?_
  rintro e w5 ⟨rfl, hf5⟩
  have HF5 := hid (HF4.out.trans hf5 (fun k hk hlt => by have := HSS.out k hk; omega))
  have HFB := hid hf5
  clear hf5 HSP
  go_wp2_with fail
  refine (refOpen_any w w5 pp n pc xs HG.out HF5.out).mono ?_
  rintro e w6 ⟨hf6, h6⟩
  have HF6 := hid (HF5.out.trans hf6 (by simp))
  have HFC := hid hf6
  rcases h6 with ⟨rb, rg, bs2, rfl, hr6, hop2, hrb, hrg⟩ | ⟨rfl, hno2⟩
  · rcases H3.out with ⟨_, _, hno⟩ | ⟨bs, vb, vg, hop, rfl, rfl, hv3, hvb, hvg⟩
    · exact absurd (opens_gsay HYS.out.symm hop2) (hno bs2)
    · obtain rfl := opens_one (opens_gsay HYS.out hop) hop2
      have hS5 := HFA.out.size
      have hS6 := HFB.out.size
      have hv6 : IsVol w6 vb vg bs := ((hv3.kept HFA.out (by simp) (by simp)).kept HFB.out (fun h => by have := HSS.out _ h; omega) (fun h => by have := HSS.out _ h; omega)).kept hf6 (by simp) (by simp)
      have hvc := hv3.cells
      obtain ⟨y1, y2, _, _⟩ := hvc
      have hrc := hr6.cells
      obtain ⟨y3, y4, _, _⟩ := hrc
      have hw2 := HF2.out.size
      have hs6 := hf6.size
      have hfa : Frm [] w6 (w6.alloc (.cells #[.pointer (some ⟨vb, 0, none⟩), .pointer (some ⟨rb, 0, none⟩)] 33)) := (Frm.refl _ _).alloc _
      have HI : Hid (PairI w w6.heap.size rb rg vb vg bs bs (w6.alloc (.cells #[.pointer (some ⟨vb, 0, none⟩), .pointer (some ⟨rb, 0, none⟩)] 33))) := hid ⟨heap_alloc_new _ _, hv6.kept hfa (by simp) (by simp), hr6.kept hfa (by simp) (by simp), rfl, by omega, by omega, by omega, by omega, by omega, by omega, by omega, by omega, by omega, by omega, HF6.out.trans hfa (by simp)⟩
      have HP := hid (plays_any w w6.heap.size rb rg vb vg bs q m c2 HCL.out HBIG.out _ HI.out)
      clear hr6 hf6 hfa hop2 hop hv3 hv6 hvb hvg
      go_wp2_with fail
      refine HP.out.mono ?_
      rintro e w7 ⟨rfl, vb2, vg2, bs3, hi7⟩
      have HI7 := hid hi7
      clear hi7
      go_wp2_with fail
      go_returns
      exact ⟨rfl, HI7.out.f⟩
  · rcases H3.out with ⟨rfl, rfl, hno⟩ | ⟨bs, vb, vg, hop, _, _, _, _, _⟩
    · clear hf6 hno hno2
      go_wp2_with fail
      go_returns
      exact ⟨rfl, HF6.out⟩
    · exact absurd (opens_gsay HYS.out hop) (hno2 bs)
end Go.Proofs.Ythifchkeapbfdaa
