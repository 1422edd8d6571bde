/- The document's disks: Write, done. -/
import Derived.Test.YtfclamndjnoopaaRfH
namespace Go.Proofs.Ytfclamndjnoopaa
open Go.RowKit Go.Lib
set_option maxRecDepth 100000

theorem rd_same {w w' : World} {g o : Nat} {bs : List Int} (h : Rd w (some ⟨g, o, none⟩) bs) (hb : w'.heap[g]? = w.heap[g]?) : Rd w' (some ⟨g, o, none⟩) bs := by
  rcases h with h0 | ⟨g', o', he, hc⟩
  · exact Or.inl h0
  · simp only [Option.some.injEq, Addr.mk.injEq, and_true] at he
    obtain ⟨rfl, rfl⟩ := he
    exact Or.inr ⟨g, o, rfl, fun i hi => by rw [World.cell?_of_block hb]; exact hc i hi⟩
theorem own_some {w : World} {p : Option Addr} {n c : Nat} {zs : List Int} (h : Own w 5 (.slice p n c) zs) (hn : zs ≠ []) : ∃ g, p = some ⟨g, 0, none⟩ ∧ Rd w (some ⟨g, 0, none⟩) zs ∧ zs.length ≤ c ∧ g < w.heap.size := by
  obtain ⟨p', c', he, hc, hp, hq, _⟩ := h.shape
  have hr := h.rd
  simp only [Value.slice.injEq] at he
  obtain ⟨rfl, _, rfl⟩ := he
  rcases hr with h0 | ⟨g, o, rfl, hcell⟩
  · exact absurd h0 hn
  · obtain ⟨h1, _, h3⟩ := hq _ rfl
    simp only at h1
    subst h1
    exact ⟨g, rfl, Or.inr ⟨g, 0, rfl, hcell⟩, hc, h3⟩
set_option maxHeartbeats 12800000 in
theorem refWriteGood_any (φ : Nat → Rl) (H : RHp) (i : Nat) (d : RDk) (a M : Nat) (p : Option Addr) (cc : Nat) (bs : List Int) (w : World) (h : IsRf w φ H) (hi : H.ds[i]? = some d) (hdn : downR H d = 0) (hl : bs.length = M * 128) (ham : a + M ≤ d.ss.length)
    (hrd : Rd w p bs) (hbz : ∀ z ∈ bs, 0 ≤ z ∧ z < 256) (hap : bs ≠ [] → ∀ k ∈ blk p, ∃ n, φ k = .oth n) (hcc : M * 128 ≤ cc) (hleft : -1 ≤ H.left) (hwr : H.written + H.ws.length + 32768 < 500000000000) :
    Calls Try.prog 47 #[.pointer (some ⟨H.rb, 0, none⟩), .int .i64 (i : Int), .int .i64 (a : Int), .slice p (M * 128) cc] w fun e w' => ∃ j, j = jR H.left M ∧ ((j = M ∧ e = .returned (.int .i64 0) ∧ InV w φ H i a bs j w') ∨ (j < M ∧ e = .returned (.int .i64 5) ∧ ∃ (H' : RHp) (φ' : Nat → Rl) (xs : List RWt), xs.length = j ∧ (∀ (t : Nat) (x : RWt), xs[t]? = some x → x.d = i ∧ x.at_ = a + t ∧ x.s.bs = sec bs t) ∧ H' = { H with wp := H'.wp, wc := H'.wc, left := -1, off := true, written := H.written + j, ws := H.ws ++ xs } ∧ RStp w φ H H' φ' w')) := by
  have HDW := hid (refDown_any φ H i d w h hi)
  rw [hdn] at HDW
  have HH := hid h
  have HI := hid hi
  have HRD := hid hrd
  have HBZ := hid hbz
  have HAP := hid hap
  have HBL := hid hl
  have HAM := hid ham
  have HWR := hid hwr
  have HLF := hid hleft
  have HCC := hid hcc
  obtain ⟨c0, c1, c2, c3, c4⟩ := h.cells
  obtain ⟨gd, hgd, d0, d1, d2⟩ := h.at hi
  have hil : (i : Int) < (H.ds.length : Int) := by have := (List.getElem?_eq_some_iff.1 hi).1; omega
  have hdl := h.dl
  have hnb := h.nb i d hi
  obtain ⟨l, hll⟩ : ∃ l, d.ss.length = l := ⟨_, rfl⟩
  rw [hll] at hnb d1 ham
  rw [hgd] at c0
  have hM8 : M ≤ 8192 := by omega
  have ha8 : a ≤ 8192 := by omega
  have hq1 : ((M : Int) * 128).tdiv 128 = (M : Int) := by rw [Int.tdiv_eq_ediv_of_nonneg (by omega)]; omega
  have hq2 : ((M : Int) * 128).tmod 128 = 0 := by rw [Int.tmod_eq_emod_of_nonneg (by omega)]; omega
  obtain ⟨PO, hPO⟩ : ∃ PO : Ending → World → Prop, (fun e w' => ∃ j, j = jR H.left M ∧ ((j = M ∧ e = .returned (.int .i64 0) ∧ InV w φ H i a bs j w') ∨ (j < M ∧ e = .returned (.int .i64 5) ∧ ∃ (H' : RHp) (φ' : Nat → Rl) (xs : List RWt), xs.length = j ∧ (∀ (t : Nat) (x : RWt), xs[t]? = some x → x.d = i ∧ x.at_ = a + t ∧ x.s.bs = sec bs t) ∧ H' = { H with wp := H'.wp, wc := H'.wc, left := -1, off := true, written := H.written + j, ws := H.ws ++ xs } ∧ RStp w φ H H' φ' w'))) = PO := ⟨_, rfl⟩
  rw [hPO]
  have HPO := hid hPO
  have HST : Hid (InV w φ H i a bs 0 w) := hid ⟨H, φ, [], rfl, by simp, by
    have e : lfR H.left 0 = H.left := by unfold lfR; split <;> simp
    rw [e]
    simp, h.stp0⟩
  have g1 : ¬ (a : Int) < 0 := by omega
  have g2 : ¬ (l : Int) < (a : Int) := by omega
  have g3 : ¬ (l : Int) - (a : Int) < (M : Int) := by omega
  clear h hi hdn hl hrd hbz hap hleft hwr hll hgd c1 c2 c3 c4 d2 hPO ham hcc
  go_enter Try.func47, Try.ntmps47
  go_wp2_with fail
  refine HDW.out.mono ?_
  rintro e w1 ⟨rfl, rfl⟩
  go_upto_region 5 with fail
  go_cut [51] from 30 to 51 (fun s wx => s = .bool false ∧ wx = w1)
  case first =>
    have b1 : decide ((a : Int) < 0) = false := decide_eq_false (by omega)
    have b3 : decide ((l : Int) < (a : Int)) = false := decide_eq_false (by omega)
    have b4 : decide ((l : Int) - (a : Int) < (M : Int)) = false := decide_eq_false (by omega)
    go_wp2_with fail
    go_meet
    case rel => exact ⟨by first | rfl | (simp; omega), rfl⟩
  obtain ⟨rfl, hwc⟩ := hcut
  have hw6 := hwc.symm
  clear hwc
  subst hw6
  clear g1 g2 g3 c0 d0 d1 HDW
  go_wp2_with fail
  go_loopw [11, 12] (fun t s12 wr => ∃ j : Nat, j ≤ M ∧ t = .int .i64 (j : Int) ∧ Hid (0 ≤ H.left → (j : Int) ≤ H.left) ∧ Hid (InV w1 φ H i a bs j wr)) (fun t _ _ => M - (intOf t).toNat)
  case atStart => exact ⟨0, by omega, rfl, hid (fun h => by simpa using h), HST⟩
  case round =>
    clear HST
    obtain ⟨j, hj, rfl, hjl, hin⟩ := hrel
    obtain ⟨H2, φ2, xs, hxl, hxs, he2, hr2⟩ := hin.out
    by_cases hlt : j < M
    · have t1 : (j : Int) < (M : Int) := by omega
      obtain ⟨_, c1, c2, _, c4⟩ := hr2.r.cells
      have z1 := hr2.r.froz 1
      have z2 := hr2.r.froz 2
      have z3 := hr2.r.froz 3
      have z4 := hr2.r.froz 4
      have hb2 : H2.rb = H.rb := hr2.b
      have hl2 : H2.left = lfR H.left j := by rw [he2]
      have hw2 : H2.written = H.written + j := by rw [he2]
      have hn2 : H2.ws.length = H.ws.length + j := by rw [he2]; show (H.ws ++ xs).length = _; rw [List.length_append, hxl]
      have hds2 : H2.ds = H.ds := by rw [he2]
      obtain ⟨c3a, c3b⟩ : ∃ v, wr.cell? ⟨H2.rb, 3, none⟩ = some v := ⟨_, hr2.r.cells.2.2.2.1⟩
      rw [hb2] at c1 c2 c4 z1 z2 z3 z4 c3b
      obtain ⟨NW, hNW⟩ : ∃ n, H2.ws.length = n := ⟨_, rfl⟩
      obtain ⟨LF, hLF⟩ : ∃ x, H2.left = x := ⟨_, rfl⟩
      obtain ⟨WR, hWR⟩ : ∃ x, H2.written = x := ⟨_, rfl⟩
      rw [hNW] at c1
      rw [hLF] at c2
      rw [hWR] at c4
      have hLFe : LF = lfR H.left j := by rw [← hLF, hl2]
      have hLFb : -1 ≤ LF ∧ LF ≤ 9223372036854775807 := by
        have h1 := hr2.r.lb
        rw [hLF] at h1
        refine ⟨?_, h1.2⟩
        rw [hLFe]
        unfold lfR
        have := HLF.out
        split
        · have := hjl.out (by assumption); omega
        · exact this
      have hWRb : 0 ≤ WR ∧ WR ≤ 500000000000 := by have := hr2.r.wb; rw [hWR] at this; omega
      have HF2 : Hid (H2.rb = H.rb ∧ H2.left = LF ∧ H2.written = WR ∧ WR = H.written + j ∧ H2.ws.length = NW ∧ NW = H.ws.length + j ∧ H2.ds = H.ds ∧ LF = lfR H.left j) := hid ⟨hb2, hLF, hWR, by rw [← hWR, hw2], hNW, by rw [← hNW, hn2], hds2, hLFe⟩
      have HXS : Hid (xs.length = j ∧ (∀ (t : Nat) (x : RWt), xs[t]? = some x → x.d = i ∧ x.at_ = a + t ∧ x.s.bs = sec bs t)) := hid ⟨hxl, hxs⟩
      have HE2 := hid he2
      have HR2 := hid hr2
      clear hxl hxs he2 hr2 hb2 hl2 hw2 hn2 hds2 hNW hLF hWR hLFe hin
      by_cases hL0 : LF = 0
      · have hb : (LF == 0) = true := by simpa using hL0
        have HL0 := hid hL0
        clear hL0 c1 c4 hWRb
        go_wp2_with fail
        rw [← HPO.out]
        obtain ⟨s1, s2⟩ := sets_row H.rb 79 [(3, .bool true), (2, .int .i64 (-1))] wr _ (by have := HR2.out.r.row; rwa [HF2.out.1] at this)
        have hr3 := HR2.out.r.setPow (-1) true H2.written (by omega) HR2.out.r.wb (w' := sets wr H.rb [(3, .bool true), (2, .int .i64 (-1))]) (by rw [HF2.out.1, s1]; rfl) (by rw [HF2.out.1]; exact s2)
        obtain ⟨f1, f2, f3, f4, f5, f6, f7, f8⟩ := HF2.out
        have hjr : j = jR H.left M := by
          have := HL0.out
          rw [f8] at this
          unfold lfR at this
          have h3 := HLF.out
          unfold jR
          split at this
          · rw [if_neg (by omega)]; omega
          · omega
        refine ⟨j, hjr, Or.inr ⟨hlt, rfl, _, φ2, xs, HXS.out.1, HXS.out.2, ?_, HR2.out.trans ⟨hr3, rfl, fun _ _ => rfl, FrR.one (by rw [f1] at *; exact s2) HR2.out.r.rP⟩⟩⟩
        have e := HE2.out
        rw [e]
      · obtain ⟨g, o, rfl, hrd2⟩ : ∃ g o, p = some ⟨g, o, none⟩ ∧ Rd wr (some ⟨g, o, none⟩) bs := by
          have hne : bs ≠ [] := fun e => by have := HBL.out; rw [e] at this; simp at this; omega
          rcases HRD.out with e | ⟨g, o, rfl, hc⟩
          · exact absurd e hne
          · refine ⟨g, o, rfl, rd_same (Or.inr ⟨g, o, rfl, hc⟩) ?_⟩
            obtain ⟨n, hn⟩ := HAP.out hne g (by simp [blk])
            have h0 : 0 < bs.length := List.length_pos_iff.2 hne
            exact HR2.out.f.block g (World.block_lt_of_cell? w1 _ (hc 0 h0)) (by rw [hn]; exact fun h => h)
        have HGO : Hid (φ2 g ≠ .pow) := hid (by
          have hne : bs ≠ [] := fun e => by have := HBL.out; rw [e] at this; simp at this; omega
          obtain ⟨n, hn⟩ := HAP.out hne g (by simp [blk])
          have hlt1 : g < w1.heap.size := by
            rcases HRD.out with e | ⟨g', o', he, hc⟩
            · exact absurd e hne
            · simp only [Option.some.injEq, Addr.mk.injEq, and_true] at he
              obtain ⟨rfl, rfl⟩ := he
              have h0 : 0 < bs.length := List.length_pos_iff.2 hne
              exact World.block_lt_of_cell? w1 _ (hc 0 h0)
          rw [HR2.out.x g hlt1, hn]
          intro e; cases e)
        have hcc' := HCC.out
        have hsl : ∀ W : World, (Instr.slice 22 (.slice (some ⟨g, o, none⟩) (M * 128) cc) (some (.int .i64 ((j * 128 : Nat) : Int))) (some (.int .i64 (((j + 1) * 128 : Nat) : Int))) none).run Try.prog W = .ok (.slice (some ⟨g, o + j * 128, none⟩) 128 (cc - j * 128)) W := fun W => by
          rw [run_slice_lh W 22 _ _ _ (by simp [Program.elem, Try.underlying22] : Try.prog.underlying 22 = some (.slice (Try.prog.elem 22))) .i64 .i64 _ _ (by omega) (by omega) (by omega), show Try.prog.elem 22 = 5 by simp [Program.elem, Try.underlying22]]
          obtain ⟨i, hi', hz, h1, h2⟩ := info_parts (infoB)
          have hs : (sizeOf 5).run Try.prog W = .ok 1 W := by simp [sizeOf, typeInfo, hi', h1, Result.andThen]
          rw [hs]
          have hne : ¬ cc = j * 128 := by omega
          have e1 : ((j : Int) * 128).toNat = j * 128 := by omega
          have e2 : (((j : Int) + 1) * 128).toNat = (j + 1) * 128 := by omega
          simp [Result.andThen, sliced]
          rw [e1, e2, if_neg hne]
          refine ⟨?_, by omega, rfl⟩
          by_cases h0 : j * 128 = 0 <;> simp [Addr.add, h0]
        have hsw : ∀ W : World, (Instr.slice 22 (.slice (some ⟨g, o, none⟩) (M * 128) cc) (some (.int .i64 ((j : Int) * 128))) (some (.int .i64 (((j : Int) + 1) * 128))) none).run Try.prog W = .ok (.slice (some ⟨g, o + j * 128, none⟩) 128 (cc - j * 128)) W := fun W => by
          have h := hsl W
          rwa [show ((j * 128 : Nat) : Int) = (j : Int) * 128 by omega, show (((j + 1) * 128 : Nat) : Int) = ((j : Int) + 1) * 128 by omega] at h
        have HSL : Hid ((sec bs j).length = 128) := hid (by unfold sec; rw [List.length_take, List.length_drop, HBL.out]; omega)
        have fin : ∀ (wA : World), (∃ l : List (Nat × Value), wA = sets wr H.rb l ∧ (sets wr H.rb l).heap[H.rb]? = some (.cells ({ H2 with left := lfR H.left (j + 1), written := WR + 1 } : RHp).powRow 79 (0, 0)) ∧ Frm [H.rb] wr (sets wr H.rb l)) → Hid (∃ H3 : RHp, H3 = { H2 with left := lfR H.left (j + 1), written := WR + 1 } ∧ IsRf wA φ2 H3 ∧ FrR φ2 wr wA ∧ Rd wA (some ⟨g, o + j * 128, none⟩) (sec bs j)) := by
          rintro wA ⟨l, rfl, e1, e2⟩
          obtain ⟨f1, f2, f3, f4, f5, f6, f7, f8⟩ := HF2.out
          have hlb : -9223372036854775808 ≤ lfR H.left (j + 1) ∧ lfR H.left (j + 1) ≤ 9223372036854775807 := by
            have h1 := HR2.out.r.lb
            rw [f2, f8] at h1
            have h2 := HLF.out
            have h3 := HH.out.lb
            unfold lfR
            split <;> omega
          refine hid ⟨_, rfl, ?_, FrR.one (by rw [f1]; exact e2) HR2.out.r.rP, ?_⟩
          · have := HR2.out.r.setPow (lfR H.left (j + 1)) H2.off (WR + 1) hlb (by have := HWR.out; rw [f5]; omega) (w' := sets wr H.rb l) (by rw [f1]; exact e1) (by rw [f1]; exact e2)
            exact this
          · have hk := rd_same hrd2 (e2.block g (by
              rcases hrd2 with h0 | ⟨g', o', he, hc⟩
              · have := HBL.out; rw [h0] at this; simp at this; omega
              · simp only [Option.some.injEq, Addr.mk.injEq, and_true] at he
                obtain ⟨rfl, rfl⟩ := he
                have h0 : 0 < bs.length := by have := HBL.out; omega
                exact World.block_lt_of_cell? wr _ (hc 0 h0)) (fun hm => by
                  simp at hm
                  subst hm
                  have := HR2.out.r.rP
                  rw [f1] at this
                  exact HGO.out this))
            exact (Rd.drop hk (j * 128)).take 128
        clear hsl hrd2
        by_cases hL1 : 0 < LF
        · have HL1 := hid hL1
          have HFA := fin (sets wr H.rb [(2, .int .i64 (LF - 1)), (4, .int .i64 (WR + 1))]) ⟨_, rfl, by
            obtain ⟨f1, f2, f3, f4, f5, f6, f7, f8⟩ := HF2.out
            have hl1 : lfR H.left (j + 1) = LF - 1 := by
              have := HL1.out
              rw [f8] at this ⊢
              unfold lfR at this ⊢
              split
              · omega
              · rename_i hh; rw [if_neg hh] at this; omega
            obtain ⟨s1, s2⟩ := sets_row H.rb 79 [(2, .int .i64 (LF - 1)), (4, .int .i64 (WR + 1))] wr _ (by have := HR2.out.r.row; rwa [f1] at this)
            refine ⟨by rw [s1, hl1]; rfl, s2⟩⟩
          clear fin
          simp only [sets, List.foldl_cons, List.foldl_nil] at HFA
          obtain ⟨H3, he3, hr3, hf3, hrd3⟩ := HFA.out
          have HRD3 := hid hrd3
          have HR3 := hid hr3
          have HF3 := hid hf3
          have HE3 := hid he3
          have hne : sec bs j ≠ [] := fun e => by have := HSL.out; rw [e] at this; simp at this
          have HNE := hid hne
          clear he3 hr3 hf3 hrd3 HFA hne
          go_wp2_with (at_builtin; refine wpList_appB rfl _ _ 22 rfl 5 Try.underlying22 infoB none 0 0 [] rfl rfl (Own.nil _ _) (some ⟨g, o + j * 128, none⟩) 128 (cc - j * 128) (sec bs j) rfl HSL.out.symm (by simp) HRD3.out (by have := HSL.out; simp; omega) ?_)
          intro ys p5 c5 w5 hys ho5 hf5 hb5
          have hye : ys = sec bs j := by simpa using hys.out
          have ho5' := ho5.out
          rw [hye] at ho5'
          have hyl : ys.length = 128 := by rw [hye]; exact HSL.out
          rw [hyl]
          rw [HSL.out] at ho5'
          obtain ⟨g5, rfl, hr5, hc5, hlt5⟩ := own_some ho5' HNE.out
          have hge5 := (hb5.out g5 (by simp [blk])).resolve_left (by simp [blk])
          have hf5' := hf5.out
          rw [blk_none] at hf5'
          rw [HSL.out] at hc5
          obtain ⟨n1, n2⟩ := HR3.out.newSec hf5' hr5 HSL.out hc5 (fun z hz => HBZ.out z (List.mem_of_mem_drop (List.mem_of_mem_take hz))) (by simpa using hge5) hlt5
          obtain ⟨φ3, hφ3⟩ : ∃ φ3, secφ φ2 ((wr.setCell ⟨H.rb, 2, none⟩ (.int .i64 (LF - 1))).setCell ⟨H.rb, 4, none⟩ (.int .i64 (WR + 1))).heap.size g5 = φ3 := ⟨_, rfl⟩
          have hx3 : ∀ k, k < ((wr.setCell ⟨H.rb, 2, none⟩ (.int .i64 (LF - 1))).setCell ⟨H.rb, 4, none⟩ (.int .i64 (WR + 1))).heap.size → φ3 k = φ2 k := fun k hk => by rw [← hφ3]; exact secφ_old (by simpa using hge5) hk
          rw [hφ3] at n1 n2
          have HN1 := hid n1
          have HN2 := hid n2
          have HX3 := hid hx3
          have HF5 : Hid (FrR φ2 wr w5) := hid (HF3.out.trans (FrR.of hf5' (by simp)) (fun _ _ => rfl))
          obtain ⟨f1, f2, f3, f4, f5, f6, f7, f8⟩ := HF2.out
          have he3 := HE3.out
          have h3w : H3.ws = H2.ws := by rw [he3]
          have h3r : H3.rb = H.rb := by rw [he3]; exact f1
          have h3n : H3.ws.length = NW := by rw [h3w, f5]
          obtain ⟨_, k1, _, _, _⟩ := n1.cells
          have y1 := n1.froz 1
          rw [h3r, h3n] at k1
          rw [h3r] at y1
          have HK3 : Hid (H3.ws = H2.ws ∧ H3.rb = H.rb ∧ H3.ws.length = NW ∧ NW ≤ 500000000000) := hid ⟨h3w, h3r, h3n, by have := HWR.out; have := HH.out.wb; omega⟩
          have hown := n1.wts
          rw [h3n] at hown
          obtain ⟨AA, hAA⟩ : ∃ A, A = (Obj.cells #[.int .i64 (i : Int), .int .i64 ((a : Int) + (j : Int)), .slice (some ⟨g5, 0, none⟩) 128 c5] 86 (0, 0)) := ⟨_, rfl⟩
          have hfa : Frm [] w5 (w5.alloc AA) := (Frm.refl _ _).alloc _
          have HFA := hid hfa
          have HOW := hid (ownsRow_kept hown hfa (by simp))
          have HRV : Hid (Rv (w5.alloc AA) (some ⟨w5.heap.size, 0, none⟩) [.int .i64 (i : Int), .int .i64 ((a : Int) + (j : Int)), .slice (some ⟨g5, 0, none⟩) 128 c5]) := hid (by rw [hAA]; exact rv_block (heap_alloc_new w5 _))
          have HAA := hid hAA
          rw [hAA] at HFA HOW HRV
          have HON : Hid (∀ u ∈ ([.int .i64 (i : Int), .int .i64 ((a : Int) + (j : Int)), .slice (some ⟨g5, 0, none⟩) 128 c5] : List Value), u.oneCell' = true) := hid (fun u hu => by
            simp only [List.mem_cons, List.not_mem_nil, or_false] at hu
            rcases hu with rfl | rfl | rfl <;> rfl)
          clear hys ho5 hf5 hb5 hye ho5' hyl hr5 hc5 hlt5 hge5 hf5' n1 n2 hφ3 hx3 f1 f2 f3 f4 f5 f6 f7 f8 he3 h3w h3r h3n hown hAA hfa HRD3 c1 c2 c4 c3b z1 z2 z3 z4
          go_wp2_with (at_builtin; refine wpList_appV rfl _ _ 77 rfl 86 3 40 _ Try.underlying77 infoWr rfl (by decide) H3.wp NW H3.wc (rowsR H3.ws) rfl HOW.out (some ⟨w5.heap.size, 0, none⟩) 1 1 [.int .i64 (i : Int), .int .i64 ((a : Int) + (j : Int)), .slice (some ⟨g5, 0, none⟩) 128 c5] rfl rfl (by simp) HRV.out HON.out (by have := HK3.out.2.2.2; unfold maxLen; omega) (by have := HK3.out.2.2.2; omega) ?_)
          intro p7 c7 w7 ho7 hf7 hb7
          have hrbn : H.rb ∉ blk H3.wp := fun hm => by
            have h1 := HN1.out.rW _ hm
            have h2 := HN1.out.rP
            rw [HK3.out.2.1, h1] at h2
            cases h2
          have hrlt : H.rb < w5.heap.size := by have := lt_of_heap HN1.out.row; rwa [HK3.out.2.1] at this
          have hf57 := (HFA.out.mono (T := blk H3.wp) (by simp)).trans hf7.out (fun k hk _ => hk)
          have q1 := (hf57.cell (p := ⟨H.rb, 1, none⟩) hrlt hrbn).trans k1
          have qz := (hf57.frozen (p := ⟨H.rb, 1, none⟩) hrlt hrbn).trans y1
          have HIN : Hid (InV w1 φ H i a bs (j + 1) (w7.setCell ⟨H.rb, 1, none⟩ (.slice p7 (NW + 1) c7))) := hid (by
            obtain ⟨f1, f2, f3, f4, f5, f6, f7, f8⟩ := HF2.out
            have h6 := HN1.out.new HFA.out
            have h6c := h6.cut
            have hsz6 := HFA.out.size
            have hs5 := HN2.out.far HFA.out (by simp)
            have hs5c : SecOk _ (cutφ φ3 _) ⟨g5, c5, sec bs j⟩ := hs5.kept (Nat.le_refl _) rfl (cutφ_old hs5.lt)
            have hd3 : H3.ds = H.ds := by rw [HE3.out]; exact f7
            have hlen : (H3.ws ++ [(⟨i, a + j, ⟨g5, c5, sec bs j⟩⟩ : RWt)]).length = NW + 1 := by rw [List.length_append, HK3.out.2.2.1]; rfl
            have hlow := ownsRow_low HOW.out
            have hw3 : H3.written = WR + 1 := by rw [HE3.out]
            obtain ⟨r1, r2⟩ := h6c.appWs (lp := p7) (lc := c7) (ws := H3.ws ++ [⟨i, a + j, ⟨g5, c5, sec bs j⟩⟩]) hf7.out (by
              rw [hlen, rowsR_app]
              have e : rowsR [(⟨i, a + j, ⟨g5, c5, sec bs j⟩⟩ : RWt)] = [.int .i64 (i : Int), .int .i64 ((a : Int) + (j : Int)), .slice (some ⟨g5, 0, none⟩) 128 c5] := by simp [rowsR, RWt.row, SecR.v]
              rw [e]
              exact ho7.out) (fun k hk => by
              rcases hb7.out k hk with h | h
              · exact Or.inl (h6c.rW k h)
              · exact Or.inr ⟨9, cutφ_new (by simpa using h)⟩) (fun x hx => by
              rcases List.mem_append.1 hx with h | h
              · exact ⟨h6c.secW x h, h6c.wd x h⟩
              · obtain rfl := List.mem_singleton.1 h
                exact ⟨hs5c, d, by rw [hd3]; exact HI.out, by show a + j < d.ss.length; have := HAM.out; omega⟩) (by rw [hlen, hw3]; have := HWR.out; have := HH.out.wb; omega)
            rw [hlen, HK3.out.2.1] at r1 r2
            have hfr := HR2.out.f.trans HF5.out HR2.out.x
            have hφw : ∀ k, k < w1.heap.size → k ∈ blk H3.wp → φ k = .wts := fun k hk hm => by
              have e1 := HN1.out.rW k hm
              have hk2 := Nat.lt_of_lt_of_le hk HR2.out.f.size
              rw [HX3.out k (Nat.lt_of_lt_of_le hk2 HF3.out.size), HR2.out.x k hk] at e1
              exact e1
            refine ⟨_, _, xs ++ [⟨i, a + j, ⟨g5, c5, sec bs j⟩⟩], by rw [List.length_append, HXS.out.1]; rfl, fun t x ht => ?_, ?_, ⟨r1, rfl, fun k hk => ?_, ?_⟩⟩
            · by_cases htj : t < j
              · rw [List.getElem?_append_left (by rw [HXS.out.1]; exact htj)] at ht
                exact HXS.out.2 t x ht
              · rw [List.getElem?_append_right (by rw [HXS.out.1]; omega), HXS.out.1] at ht
                by_cases h0 : t - j = 0
                · rw [h0] at ht
                  simp at ht
                  obtain rfl : t = j := by omega
                  rw [← ht]
                  exact ⟨rfl, rfl, rfl⟩
                · obtain ⟨m, hm⟩ : ∃ m, t - j = m + 1 := ⟨t - j - 1, by omega⟩
                  rw [hm] at ht
                  simp at ht
            · have e3 := HE3.out
              have e2 := HE2.out
              rw [e3, e2, f4]
              simp only [RHp.mk.injEq, true_and, and_true, List.append_assoc]
              omega
            · show (if k ∈ blk p7 then Rl.wts else cutφ φ3 _ k) = φ k
              have hk2 := Nat.lt_of_lt_of_le hk HR2.out.f.size
              have hk3 := Nat.lt_of_lt_of_le hk2 HF3.out.size
              have hk5 := Nat.lt_of_lt_of_le hk hfr.size
              have hk6 := Nat.lt_of_lt_of_le hk5 hsz6
              by_cases hm : k ∈ blk p7
              · rw [if_pos hm]
                rcases hb7.out k hm with h | h
                · exact (hφw k hk h).symm
                · exfalso; simp at h hk6; omega
              · rw [if_neg hm, cutφ_old hk6, HX3.out k hk3, HR2.out.x k hk]
            · refine ⟨(r2.os.trans HFA.out.os).trans hfr.os, (r2.tape.trans HFA.out.tape).trans hfr.tape, (r2.output.trans HFA.out.output).trans hfr.output, Nat.le_trans hfr.size (Nat.le_trans hsz6 r2.size), fun k hk hm => ?_⟩
              have hk5 := Nat.lt_of_lt_of_le hk hfr.size
              rw [r2.block k (Nat.lt_of_lt_of_le hk5 hsz6) (fun hmm => ?_), HFA.out.block k hk5 (by simp), hfr.block k hk hm]
              rcases List.mem_cons.1 hmm with e | e
              · have h1 := HH.out.rP
                rw [e, h1] at hm
                exact hm trivial
              · rw [hφw k hk e] at hm
                exact hm trivial)
          clear ho7 hf7 hb7 hrbn hrlt hf57 k1 y1 HN1 HN2 HX3 HF5 HOW HRV HON HAA
          go_wp2_with fail
          go_roundw
          case rel => exact ⟨j + 1, by omega, by go_num, hid (fun h => by have := HL1.out; have h8 := HF2.out.2.2.2.2.2.2.2; rw [h8] at this; unfold lfR at this; rw [if_pos h] at this; omega), HIN⟩
          case measure => first | (simp [intOf]; done) | (simp [intOf]; omega)
        · have HL0 := hid hL0
          have HL1 : Hid (¬ 0 < LF) := hid hL1
          have HFA := fin (sets wr H.rb [(4, .int .i64 (WR + 1))]) ⟨_, rfl, by
            obtain ⟨f1, f2, f3, f4, f5, f6, f7, f8⟩ := HF2.out
            have hl1 : lfR H.left (j + 1) = LF := by
              have := HL1.out
              rw [f8] at this hL0 ⊢
              unfold lfR at this hL0 ⊢
              split
              · rename_i hh; rw [if_pos hh] at this hL0; have := hjl.out hh; omega
              · first | rfl | (rename_i hh; rw [if_neg hh])
            obtain ⟨s1, s2⟩ := sets_row H.rb 79 [(4, .int .i64 (WR + 1))] wr _ (by have := HR2.out.r.row; rwa [f1] at this)
            refine ⟨by rw [s1, hl1, ← f2]; rfl, s2⟩⟩
          clear fin
          simp only [sets, List.foldl_cons, List.foldl_nil] at HFA
          obtain ⟨H3, he3, hr3, hf3, hrd3⟩ := HFA.out
          have HRD3 := hid hrd3
          have HR3 := hid hr3
          have HF3 := hid hf3
          have HE3 := hid he3
          have hne : sec bs j ≠ [] := fun e => by have := HSL.out; rw [e] at this; simp at this
          have HNE := hid hne
          clear he3 hr3 hf3 hrd3 HFA hne
          go_wp2_with (at_builtin; refine wpList_appB rfl _ _ 22 rfl 5 Try.underlying22 infoB none 0 0 [] rfl rfl (Own.nil _ _) (some ⟨g, o + j * 128, none⟩) 128 (cc - j * 128) (sec bs j) rfl HSL.out.symm (by simp) HRD3.out (by have := HSL.out; simp; omega) ?_)
          intro ys p5 c5 w5 hys ho5 hf5 hb5
          have hye : ys = sec bs j := by simpa using hys.out
          have ho5' := ho5.out
          rw [hye] at ho5'
          have hyl : ys.length = 128 := by rw [hye]; exact HSL.out
          rw [hyl]
          rw [HSL.out] at ho5'
          obtain ⟨g5, rfl, hr5, hc5, hlt5⟩ := own_some ho5' HNE.out
          have hge5 := (hb5.out g5 (by simp [blk])).resolve_left (by simp [blk])
          have hf5' := hf5.out
          rw [blk_none] at hf5'
          rw [HSL.out] at hc5
          obtain ⟨n1, n2⟩ := HR3.out.newSec hf5' hr5 HSL.out hc5 (fun z hz => HBZ.out z (List.mem_of_mem_drop (List.mem_of_mem_take hz))) (by simpa using hge5) hlt5
          obtain ⟨φ3, hφ3⟩ : ∃ φ3, secφ φ2 (wr.setCell ⟨H.rb, 4, none⟩ (.int .i64 (WR + 1))).heap.size g5 = φ3 := ⟨_, rfl⟩
          have hx3 : ∀ k, k < (wr.setCell ⟨H.rb, 4, none⟩ (.int .i64 (WR + 1))).heap.size → φ3 k = φ2 k := fun k hk => by rw [← hφ3]; exact secφ_old (by simpa using hge5) hk
          rw [hφ3] at n1 n2
          have HN1 := hid n1
          have HN2 := hid n2
          have HX3 := hid hx3
          have HF5 : Hid (FrR φ2 wr w5) := hid (HF3.out.trans (FrR.of hf5' (by simp)) (fun _ _ => rfl))
          obtain ⟨f1, f2, f3, f4, f5, f6, f7, f8⟩ := HF2.out
          have he3 := HE3.out
          have h3w : H3.ws = H2.ws := by rw [he3]
          have h3r : H3.rb = H.rb := by rw [he3]; exact f1
          have h3n : H3.ws.length = NW := by rw [h3w, f5]
          obtain ⟨_, k1, _, _, _⟩ := n1.cells
          have y1 := n1.froz 1
          rw [h3r, h3n] at k1
          rw [h3r] at y1
          have HK3 : Hid (H3.ws = H2.ws ∧ H3.rb = H.rb ∧ H3.ws.length = NW ∧ NW ≤ 500000000000) := hid ⟨h3w, h3r, h3n, by have := HWR.out; have := HH.out.wb; omega⟩
          have hown := n1.wts
          rw [h3n] at hown
          obtain ⟨AA, hAA⟩ : ∃ A, A = (Obj.cells #[.int .i64 (i : Int), .int .i64 ((a : Int) + (j : Int)), .slice (some ⟨g5, 0, none⟩) 128 c5] 86 (0, 0)) := ⟨_, rfl⟩
          have hfa : Frm [] w5 (w5.alloc AA) := (Frm.refl _ _).alloc _
          have HFA := hid hfa
          have HOW := hid (ownsRow_kept hown hfa (by simp))
          have HRV : Hid (Rv (w5.alloc AA) (some ⟨w5.heap.size, 0, none⟩) [.int .i64 (i : Int), .int .i64 ((a : Int) + (j : Int)), .slice (some ⟨g5, 0, none⟩) 128 c5]) := hid (by rw [hAA]; exact rv_block (heap_alloc_new w5 _))
          have HAA := hid hAA
          rw [hAA] at HFA HOW HRV
          have HON : Hid (∀ u ∈ ([.int .i64 (i : Int), .int .i64 ((a : Int) + (j : Int)), .slice (some ⟨g5, 0, none⟩) 128 c5] : List Value), u.oneCell' = true) := hid (fun u hu => by
            simp only [List.mem_cons, List.not_mem_nil, or_false] at hu
            rcases hu with rfl | rfl | rfl <;> rfl)
          clear hys ho5 hf5 hb5 hye ho5' hyl hr5 hc5 hlt5 hge5 hf5' n1 n2 hφ3 hx3 f1 f2 f3 f4 f5 f6 f7 f8 he3 h3w h3r h3n hown hAA hfa HRD3 c1 c2 c4 c3b z1 z2 z3 z4
          go_wp2_with (at_builtin; refine wpList_appV rfl _ _ 77 rfl 86 3 40 _ Try.underlying77 infoWr rfl (by decide) H3.wp NW H3.wc (rowsR H3.ws) rfl HOW.out (some ⟨w5.heap.size, 0, none⟩) 1 1 [.int .i64 (i : Int), .int .i64 ((a : Int) + (j : Int)), .slice (some ⟨g5, 0, none⟩) 128 c5] rfl rfl (by simp) HRV.out HON.out (by have := HK3.out.2.2.2; unfold maxLen; omega) (by have := HK3.out.2.2.2; omega) ?_)
          intro p7 c7 w7 ho7 hf7 hb7
          have hrbn : H.rb ∉ blk H3.wp := fun hm => by
            have h1 := HN1.out.rW _ hm
            have h2 := HN1.out.rP
            rw [HK3.out.2.1, h1] at h2
            cases h2
          have hrlt : H.rb < w5.heap.size := by have := lt_of_heap HN1.out.row; rwa [HK3.out.2.1] at this
          have hf57 := (HFA.out.mono (T := blk H3.wp) (by simp)).trans hf7.out (fun k hk _ => hk)
          have q1 := (hf57.cell (p := ⟨H.rb, 1, none⟩) hrlt hrbn).trans k1
          have qz := (hf57.frozen (p := ⟨H.rb, 1, none⟩) hrlt hrbn).trans y1
          have HIN : Hid (InV w1 φ H i a bs (j + 1) (w7.setCell ⟨H.rb, 1, none⟩ (.slice p7 (NW + 1) c7))) := hid (by
            obtain ⟨f1, f2, f3, f4, f5, f6, f7, f8⟩ := HF2.out
            have h6 := HN1.out.new HFA.out
            have h6c := h6.cut
            have hsz6 := HFA.out.size
            have hs5 := HN2.out.far HFA.out (by simp)
            have hs5c : SecOk _ (cutφ φ3 _) ⟨g5, c5, sec bs j⟩ := hs5.kept (Nat.le_refl _) rfl (cutφ_old hs5.lt)
            have hd3 : H3.ds = H.ds := by rw [HE3.out]; exact f7
            have hlen : (H3.ws ++ [(⟨i, a + j, ⟨g5, c5, sec bs j⟩⟩ : RWt)]).length = NW + 1 := by rw [List.length_append, HK3.out.2.2.1]; rfl
            have hlow := ownsRow_low HOW.out
            have hw3 : H3.written = WR + 1 := by rw [HE3.out]
            obtain ⟨r1, r2⟩ := h6c.appWs (lp := p7) (lc := c7) (ws := H3.ws ++ [⟨i, a + j, ⟨g5, c5, sec bs j⟩⟩]) hf7.out (by
              rw [hlen, rowsR_app]
              have e : rowsR [(⟨i, a + j, ⟨g5, c5, sec bs j⟩⟩ : RWt)] = [.int .i64 (i : Int), .int .i64 ((a : Int) + (j : Int)), .slice (some ⟨g5, 0, none⟩) 128 c5] := by simp [rowsR, RWt.row, SecR.v]
              rw [e]
              exact ho7.out) (fun k hk => by
              rcases hb7.out k hk with h | h
              · exact Or.inl (h6c.rW k h)
              · exact Or.inr ⟨9, cutφ_new (by simpa using h)⟩) (fun x hx => by
              rcases List.mem_append.1 hx with h | h
              · exact ⟨h6c.secW x h, h6c.wd x h⟩
              · obtain rfl := List.mem_singleton.1 h
                exact ⟨hs5c, d, by rw [hd3]; exact HI.out, by show a + j < d.ss.length; have := HAM.out; omega⟩) (by rw [hlen, hw3]; have := HWR.out; have := HH.out.wb; omega)
            rw [hlen, HK3.out.2.1] at r1 r2
            have hfr := HR2.out.f.trans HF5.out HR2.out.x
            have hφw : ∀ k, k < w1.heap.size → k ∈ blk H3.wp → φ k = .wts := fun k hk hm => by
              have e1 := HN1.out.rW k hm
              have hk2 := Nat.lt_of_lt_of_le hk HR2.out.f.size
              rw [HX3.out k (Nat.lt_of_lt_of_le hk2 HF3.out.size), HR2.out.x k hk] at e1
              exact e1
            refine ⟨_, _, xs ++ [⟨i, a + j, ⟨g5, c5, sec bs j⟩⟩], by rw [List.length_append, HXS.out.1]; rfl, fun t x ht => ?_, ?_, ⟨r1, rfl, fun k hk => ?_, ?_⟩⟩
            · by_cases htj : t < j
              · rw [List.getElem?_append_left (by rw [HXS.out.1]; exact htj)] at ht
                exact HXS.out.2 t x ht
              · rw [List.getElem?_append_right (by rw [HXS.out.1]; omega), HXS.out.1] at ht
                by_cases h0 : t - j = 0
                · rw [h0] at ht
                  simp at ht
                  obtain rfl : t = j := by omega
                  rw [← ht]
                  exact ⟨rfl, rfl, rfl⟩
                · obtain ⟨m, hm⟩ : ∃ m, t - j = m + 1 := ⟨t - j - 1, by omega⟩
                  rw [hm] at ht
                  simp at ht
            · have e3 := HE3.out
              have e2 := HE2.out
              rw [e3, e2, f4]
              simp only [RHp.mk.injEq, true_and, and_true, List.append_assoc]
              omega
            · show (if k ∈ blk p7 then Rl.wts else cutφ φ3 _ k) = φ k
              have hk2 := Nat.lt_of_lt_of_le hk HR2.out.f.size
              have hk3 := Nat.lt_of_lt_of_le hk2 HF3.out.size
              have hk5 := Nat.lt_of_lt_of_le hk hfr.size
              have hk6 := Nat.lt_of_lt_of_le hk5 hsz6
              by_cases hm : k ∈ blk p7
              · rw [if_pos hm]
                rcases hb7.out k hm with h | h
                · exact (hφw k hk h).symm
                · exfalso; simp at h hk6; omega
              · rw [if_neg hm, cutφ_old hk6, HX3.out k hk3, HR2.out.x k hk]
            · refine ⟨(r2.os.trans HFA.out.os).trans hfr.os, (r2.tape.trans HFA.out.tape).trans hfr.tape, (r2.output.trans HFA.out.output).trans hfr.output, Nat.le_trans hfr.size (Nat.le_trans hsz6 r2.size), fun k hk hm => ?_⟩
              have hk5 := Nat.lt_of_lt_of_le hk hfr.size
              rw [r2.block k (Nat.lt_of_lt_of_le hk5 hsz6) (fun hmm => ?_), HFA.out.block k hk5 (by simp), hfr.block k hk hm]
              rcases List.mem_cons.1 hmm with e | e
              · have h1 := HH.out.rP
                rw [e, h1] at hm
                exact hm trivial
              · rw [hφw k hk e] at hm
                exact hm trivial)
          clear ho7 hf7 hb7 hrbn hrlt hf57 k1 y1 HN1 HN2 HX3 HF5 HOW HRV HON HAA
          go_wp2_with fail
          go_roundw
          case rel => exact ⟨j + 1, by omega, by go_num, hid (fun h => by exfalso; have := HL1.out; have h8 := HF2.out.2.2.2.2.2.2.2; rw [h8] at this; unfold lfR at this; rw [if_pos h] at this; have h9 := hjl.out h; have h0 := HL0.out; rw [h8] at h0; unfold lfR at h0; rw [if_pos h] at h0; omega), HIN⟩
          case measure => first | (simp [intOf]; done) | (simp [intOf]; omega)
    · obtain rfl : j = M := by omega
      go_wp2_with fail
      rw [← HPO.out]
      refine ⟨j, ?_, Or.inl ⟨rfl, rfl, hin.out⟩⟩
      unfold jR
      split
      · rfl
      · have := hjl.out (by omega); omega
end Go.Proofs.Ytfclamndjnoopaa
