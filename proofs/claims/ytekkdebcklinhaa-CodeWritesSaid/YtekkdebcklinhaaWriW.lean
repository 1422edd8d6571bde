/- The statement CodeWrites: the walk. -/
import Derived.Test.YtekkdebcklinhaaWriL
namespace Go.Proofs.Ytekkdebcklinhaa
open Go.RowKit
set_option maxRecDepth 100000

theorem Two.done1_ok {w0 w : World} {b1 b2 : Nat} {R : Int} {zs : List Int} {s2 : List Int × Int} {A : List Nat} (h : Two w0 b1 b2 R (zs, 0) s2 A w) (hr1 : R ≤ 2147483647) (hz : (zs.length : Int) ≤ R) :
    Calls Try.prog 14 #[.pointer (some ⟨b1, 0, none⟩)] w fun e w' => ∃ g, e = .returned (.tuple #[.slice (some ⟨g, 0, none⟩) zs.length zs.length, .int .i64 0]) ∧ w'.heap[g]? = some (.cells (bv zs).toArray 5 (0, 0)) ∧ Two w0 b1 b2 R (zs, 0) s2 (g :: A) w' ∧ Frm [] w w' ∧ w0.heap.size ≤ g ∧ w.heap.size ≤ g := by
  have h' := h
  obtain ⟨f1, f2, h1, h2, h3, h4, h5, h6, h7⟩ := h'
  refine (doneW_ok b1 f1 R zs w h1 hr1 hz).mono ?_
  rintro e w' ⟨g, he, hg, hf, hgs⟩
  exact ⟨g, he, hg, h.more hf g hgs (lt_of_heap hg), hf, Nat.le_trans h3.size hgs, hgs⟩
theorem Two.done1_err {w0 w : World} {b1 b2 : Nat} {R err : Int} {zs : List Int} {s2 : List Int × Int} {A : List Nat} (h : Two w0 b1 b2 R (zs, err) s2 A w) (he : err ≠ 0) :
    Calls Try.prog 14 #[.pointer (some ⟨b1, 0, none⟩)] w fun e w' => e = .returned (.tuple #[.slice none 0 0, .int .i64 err]) ∧ Two w0 b1 b2 R (zs, err) s2 A w' ∧ Frm [] w w' := by
  have h' := h
  obtain ⟨f1, f2, h1, h2, h3, h4, h5, h6, h7⟩ := h'
  refine (doneW_err b1 f1 R err zs w h1 he).mono ?_
  rintro e w' ⟨he, hf⟩
  exact ⟨he, h.other hf (by simp), hf⟩
theorem Two.done2_ok {w0 w : World} {b1 b2 : Nat} {R : Int} {zs : List Int} {s1 : List Int × Int} {A : List Nat} (h : Two w0 b1 b2 R s1 (zs, 0) A w) (hr1 : R ≤ 2147483647) (hz : (zs.length : Int) ≤ R) :
    Calls Try.prog 15 #[.pointer (some ⟨b2, 0, none⟩)] w fun e w' => ∃ p c, e = .returned (.tuple #[.slice p zs.length c, .int .i64 0]) ∧ Own w' 5 (.slice p zs.length c) zs ∧ Two w0 b1 b2 R s1 (zs, 0) (blk p ++ A) w' ∧ Frm [] w w' ∧ ∀ k ∈ blk p, w.heap.size ≤ k := by
  have h' := h
  obtain ⟨f1, f2, h1, h2, h3, h4, h5, h6, h7⟩ := h'
  refine (doneV_ok b2 f2 R zs w h2 hr1 hz).mono ?_
  rintro e w' ⟨p, c, he, ho, hf, hk⟩
  exact ⟨p, c, he, ho, h.mores hf (blk p) (fun k hk' => ⟨hk k hk', ho.low k hk'⟩), hf, hk⟩
theorem Two.done2_err {w0 w : World} {b1 b2 : Nat} {R err : Int} {zs : List Int} {s1 : List Int × Int} {A : List Nat} (h : Two w0 b1 b2 R s1 (zs, err) A w) (he : err ≠ 0) :
    Calls Try.prog 15 #[.pointer (some ⟨b2, 0, none⟩)] w fun e w' => e = .returned (.tuple #[.slice none 0 0, .int .i64 err]) ∧ Two w0 b1 b2 R s1 (zs, err) A w' ∧ Frm [] w w' := by
  have h' := h
  obtain ⟨f1, f2, h1, h2, h3, h4, h5, h6, h7⟩ := h'
  refine (doneV_err b2 f2 R err zs w h2 he).mono ?_
  rintro e w' ⟨he, hf⟩
  exact ⟨he, h.other hf (by simp), hf⟩
theorem callS_fits {R : Int} {s : List Int × Int} {d : CallD} {ns : List Int} (h : (s.1.length : Int) ≤ R) : ((callS R s d ns).1.length : Int) ≤ R := by
  unfold callS
  split
  · exact stepW_fits h
  · split
    · exact stepW_fits h
    · split
      · exact stepW_fits h
      · split
        · exact stepW_fits h
        · exact h
set_option maxHeartbeats 6400000 in
theorem writes_any (room : Int) (q : Option Addr) (m c2 : Nat) (w : World) (hcl : CameL w q m c2) (hbig : ∀ g o d i, q = some ⟨g, o, none⟩ → i < m → CallAt w g (o + i * 5) d → d.bl ≤ 140737488351232) :
    Calls Try.prog 3 #[.int .i64 room, .slice q m c2] w fun e w' => e = .returned (.bool true) ∧ Frm [] w w' := by
  have HCL := hid hcl
  have HB := hid hbig
  have hm : m ≤ 9223372036854775807 := by have := hcl.1; have := hcl.2.1; omega
  clear hcl hbig
  by_cases hr : 100000 < room
  · go_enter Try.func3, Try.ntmps3
    go_wp2_with fail
    refine (awake_any _).mono ?_
    rintro e w0 ⟨rfl, hf0⟩
    go_wp2_with fail
    go_returns
    exact ⟨rfl, hf0⟩
  go_enter Try.func3, Try.ntmps3
  go_wp2_with fail
  refine (awake_any _).mono ?_
  rintro e w0 ⟨rfl, hf0⟩
  have HF0 := hid hf0
  clear hf0
  go_wp2_with fail
  refine (newWriter_any room _).mono ?_
  rintro e w1 ⟨rfl, hw1, hf1, hsz1⟩
  go_wp2_with fail
  refine (newV_any room _).mono ?_
  rintro e w2 ⟨rfl, hw2, hf2⟩
  obtain ⟨R, hR⟩ : ∃ R, R = if room < 0 then 0 else room := ⟨_, rfl⟩
  have hR2 : roomOf room = R := by unfold roomOf; rw [hR]; split <;> (try split) <;> first | rfl | omega
  have hR0 : 0 ≤ R := by rw [hR]; split <;> omega
  have hR1 : R ≤ 2147483647 := by rw [hR]; split <;> omega
  rw [hR2] at hw1
  rw [← hR] at hw2
  obtain ⟨b1, hb1⟩ : ∃ b1, w0.heap.size = b1 := ⟨_, rfl⟩
  obtain ⟨b2, hb2⟩ : ∃ b2, w1.heap.size = b2 := ⟨_, rfl⟩
  have HT : Hid (Two w0 b1 b2 R ([], 0) ([], 0) [] w2) := by
    have l1 := hw1.lt w0.heap.size (by simp)
    have hs2 := hf2.size
    rw [hb1] at hw1 l1
    rw [hb2] at hw2 l1
    have hs1 := hf1.size
    refine ⟨[b1], [b2], hw1.kept hf2 (by simp), hw2, hf1.trans hf2 (by simp), ?_, ?_, ?_, by simp⟩
    · intro k hk; simp at hk; omega
    · intro k hk; simp at hk; omega
    · intro k hk hk2; simp at hk hk2; omega
  rw [hb1, hb2]
  clear hb1 hb2 hw1 hw2 hf1 hf2 hsz1 hR hR2
  have HCL0 := hid (HCL.out.kept HF0.out)
  go_wp2_with fail
  go_loopw [8] (fun i wr => ∃ (t : Nat) (s : List Int × Int), t ≤ m ∧ i = .int .i64 t ∧ (s.1.length : Int) ≤ R ∧ Hid (Two w0 b1 b2 R s s [] wr)) (fun i _ => m - (intOf i).toNat)
  case atStart => exact ⟨0, ([], 0), Nat.zero_le _, rfl, by simpa using hR0, HT⟩
  case round =>
    obtain ⟨t, s, ht, rfl, hfit, hinv⟩ := hrel
    by_cases hlt : t < m
    · obtain ⟨g, o, rfl, d, hat, hok, hbl⟩ : ∃ g o, q = some ⟨g, o, none⟩ ∧ ∃ d, CallAt wr g (o + t * 5) d ∧ CallOk w0 d ∧ d.bl ≤ 140737488351232 := by
        rcases HCL.out.2.2 with h | ⟨g, o, rfl, h⟩
        · omega
        · obtain ⟨d, h1, h2⟩ := h t hlt
          exact ⟨g, o, rfl, d, (h1.kept HF0.out).kept hinv.out.frm, h2.kept HF0.out, HB.out g o d t rfl hlt h1⟩
      obtain ⟨k0, k1, k2, k3, k4⟩ := hat
      obtain ⟨⟨a0, a1⟩, hdn, hdm, ⟨ns, hnl, hrd, _, hpc, _, _⟩, hds⟩ := hok
      have HL := hid (lays_any w0 b1 b2 R s d ns wr hinv.out hR0 hR1 hfit hdn hdm hrd hnl hpc (by omega) hds)
      have hfit2 := callS_fits (d := d) (ns := ns) hfit
      obtain ⟨s', hs'⟩ : ∃ s', callS R s d ns = s' := ⟨_, rfl⟩
      rw [hs'] at HL hfit2
      clear hs' hrd hpc hbl hnl hds hdn hdm
      obtain ⟨zs, err⟩ := s'
      simp only at hfit2
      go_wp2_with fail
      refine HL.out.mono ?_
      rintro e w3 ⟨rfl, ht3⟩
      have H3 := hid ht3
      clear ht3 k0 k1 k2 k3 k4
      by_cases he : err = 0
      · subst he
        go_wp2_with fail
        refine (H3.out.done1_ok hR1 hfit2).mono ?_
        rintro e w4 ⟨g4, rfl, hg4, ht4, hf4, hn4, _⟩
        have H4 := hid ht4
        have HG4 := hid hg4
        clear hg4 ht4 hf4
        go_wp2_with fail
        refine (H4.out.done2_ok hR1 hfit2).mono ?_
        rintro e w5 ⟨p5, c5, rfl, ho5, ht5, hf5, hk5⟩
        have H5 := hid ht5
        have HO5 := hid ho5
        have hg5 := hf5.heap HG4.out (by simp)
        have hp5 : g4 ∉ blk p5 := fun h => Nat.not_lt.2 (hk5 _ h) (lt_of_heap HG4.out)
        have HG5 := hid hg5
        have HP5 := hid hp5
        have hrd4 := (own_of_block hg5 (by unfold maxLen; omega)).rd
        have hcv1 := fun n => conv_any (P := Try.prog) (w := w5.drewN n) 30 5 9 Try.underlying30 Try.underlying5 Try.underlying9 (hrd4.drewN n) zs.length rfl
        have hcv2 := fun n => conv_any (P := Try.prog) (w := w5.drewN n) 30 5 9 Try.underlying30 Try.underlying5 Try.underlying9 (ho5.rd.drewN n) c5 rfl
        have hd1 := hcv1 1
        have hd2 := hcv2 1
        rw [show w5.drewN 1 = w5.drew from rfl] at hd1 hd2
        have hz1 := hcv1 0
        have hz2 := hcv2 0
        rw [show w5.drewN 0 = w5 from rfl] at hz1 hz2
        clear ht5 ho5 hf5 hk5 hg5 hp5 hrd4
        obtain ⟨S, hS⟩ : ∃ S, strOfNums zs = S := ⟨_, rfl⟩
        rw [hS] at hd1 hd2 hz1 hz2
        have HS := hid hS
        clear hcv1 hcv2 hS HL HT H3 H4 HG4
        have HR5 := hid HO5.out.rd
        go_wp2_with fail
        go_loopw [13] (fun k wq => ∃ (j : Nat) (ys : List Int), j ≤ zs.length ∧ k = .int .i64 j ∧ ys.length = zs.length ∧ Hid (wq.heap[g4]? = some (.cells (bv ys).toArray 5 (0, 0))) ∧ Hid (Two w0 b1 b2 R (zs, 0) (zs, 0) (blk p5 ++ [g4]) wq) ∧ Hid (Rd wq p5 zs)) (fun k _ => zs.length - (intOf k).toNat)
        case atStart => exact ⟨0, zs, Nat.zero_le _, rfl, rfl, HG5, H5, HR5⟩
        case round =>
          obtain ⟨j, ys, hj, rfl, hyl, hq1, hq2, hq3⟩ := hrel
          clear hz1 hz2 hd1 hd2
          by_cases hlt2 : j < zs.length
          · have hc : wr.cell? ⟨g4, j, none⟩ = some (.int .u8 (ys.getD j 0)) := by
              rw [cell_of_row _ _ j _ _ (0, 0) hq1.out]
              have := bv_get (zs := ys) (i := j) (by omega)
              simpa using this
            have hfz := frozen_of_row wr g4 j _ _ hq1.out
            go_wp2_with fail
            go_roundw
            case rel =>
              have hfs : Frm [g4] wr (wr.setCell ⟨g4, j, none⟩ (.int .u8 255)) := (Frm.refl _ _).setCell _ _ (by simp)
              refine ⟨j + 1, ys.set j 255, by omega, by go_num, by simpa using hyl, ?_, hq2.out.other hfs (fun k hk => ?_), hq3.out.kept hfs (fun k hk => ?_)⟩
              · show _ = _
                rw [heap_setCell_same wr g4 j _ _ _ hq1.out]
                congr 2
                apply Array.ext'
                simp [bv, List.map_set]
              · simp only [List.mem_singleton] at hk
                subst hk
                exact ⟨by simp, hn4⟩
              · simp only [List.mem_singleton]
                rintro rfl
                exact HP5.out hk
            case measure => simp [intOf]; omega
          · obtain rfl : j = zs.length := by omega
            have HA6 : Hid (Frm [] wr (wr.alloc (.cells #[.int .u8 255] 5))) := (Frm.refl _ _).alloc _
            have ho6 := own_of_block' (HA6.out.heap hq1.out (by simp)) (by unfold maxLen; omega) hyl
            have hr6 : Rd (wr.alloc (.cells #[.int .u8 255] 5)) (some ⟨wr.heap.size, 0, none⟩) [255] := by
              refine Or.inr ⟨wr.heap.size, 0, rfl, fun i hi => ?_⟩
              simp only [List.length_singleton] at hi
              obtain rfl : i = 0 := by omega
              rw [cell_of_row _ _ _ _ _ (0, 0) (heap_alloc_new wr _)]
              rfl
            have HO6 := hid ho6
            have HR6 := hid hr6
            clear ho6 hr6 hlt2
            go_wp2_with (at_builtin; refine wpList_appB rfl _ _ 30 rfl 5 Try.underlying30 infoE (some ⟨g4, 0, none⟩) zs.length zs.length ys rfl hyl.symm HO6.out (some ⟨wr.heap.size, 0, none⟩) 1 1 [255] rfl rfl (by simp) HR6.out (by simp; omega) ?_)
            intro xs p7 c7 w7 hxs ho7 hf7 hfr7
            have hf7' : Frm [g4] wr w7 := (HA6.out.mono (by simp)).trans hf7.out (fun i hi _ => hi)
            have H7 := hid (hq2.out.other hf7' (fun k hk => by simp only [List.mem_singleton] at hk; subst hk; exact ⟨by simp, hn4⟩))
            have HR7 := hid (hq3.out.kept hf7' (fun k hk => by simp only [List.mem_singleton]; rintro rfl; exact HP5.out hk))
            have hxl : xs.length = zs.length + 1 := by rw [hxs.out]; simp [hyl]
            clear hf7'
            go_wp2_with fail
            refine (H7.out.done1_ok hR1 hfit2).mono ?_
            rintro e w8 ⟨g8, rfl, hg8, ht8, hf8, _, _⟩
            have H8 := hid ht8
            have hrd8 := (own_of_block hg8 (by unfold maxLen; omega)).rd
            have hrd9 := HR7.out.kept hf8 (by simp)
            have hcv1 := fun n => conv_any (P := Try.prog) (w := w8.drewN n) 30 5 9 Try.underlying30 Try.underlying5 Try.underlying9 (hrd8.drewN n) zs.length rfl
            have hcv2 := fun n => conv_any (P := Try.prog) (w := w8.drewN n) 30 5 9 Try.underlying30 Try.underlying5 Try.underlying9 (hrd9.drewN n) c5 rfl
            have hz1 := hcv1 0
            have hz2 := hcv2 0
            rw [show w8.drewN 0 = w8 from rfl] at hz1 hz2
            rw [HS.out] at hz1 hz2
            clear hcv1 hcv2 hg8 ht8 hf8 hrd8 hrd9
            go_wp2_with fail
            go_roundw
            case rel => exact ⟨t + 1, (zs, 0), by omega, by go_num, hfit2, H8.out.fewer (by simp)⟩
            case measure => simp [intOf]; omega
      · have hne : (err != err) = false := by simp
        go_wp2_with fail
        refine (H3.out.done1_err he).mono ?_
        rintro e w4 ⟨rfl, ht4, _⟩
        have H4 := hid ht4
        clear ht4
        go_wp2_with fail
        refine (H4.out.done2_err he).mono ?_
        rintro e w5 ⟨rfl, ht5, _⟩
        have H5 := hid ht5
        have hcv1 := fun (w5 : World) => conv_any (P := Try.prog) (w := w5) 30 5 9 Try.underlying30 Try.underlying5 Try.underlying9 (Rd.nil w5 none) 0 (n := 0) rfl
        have HCV := hid hcv1
        have hz1 := hcv1 w5
        clear ht5 hcv1 HL HT H3 H4
        generalize strOfNums [] = S at hz1 HCV
        go_wp2_with fail
        go_loopw [13] (fun k wq => k = .int .i64 0 ∧ Hid (Two w0 b1 b2 R (zs, err) (zs, err) [] wq)) (fun _ _ => 0)
        case atStart => exact ⟨rfl, H5⟩
        case round =>
          obtain ⟨rfl, hq2⟩ := hrel
          clear hz1
          have HA6 : Hid (Frm [] wr (wr.alloc (.cells #[.int .u8 255] 5))) := (Frm.refl _ _).alloc _
          have hr6 : Rd (wr.alloc (.cells #[.int .u8 255] 5)) (some ⟨wr.heap.size, 0, none⟩) [255] := by
            refine Or.inr ⟨wr.heap.size, 0, rfl, fun i hi => ?_⟩
            simp only [List.length_singleton] at hi
            obtain rfl : i = 0 := by omega
            rw [cell_of_row _ _ _ _ _ (0, 0) (heap_alloc_new wr _)]
            rfl
          have HR6 := hid hr6
          clear hr6
          go_wp2_with (at_builtin; refine wpList_appB rfl _ _ 30 rfl 5 Try.underlying30 infoE none 0 0 [] rfl rfl (Own.nil _ _) (some ⟨wr.heap.size, 0, none⟩) 1 1 [255] rfl rfl (by simp) HR6.out (by simp) ?_)
          intro xs p7 c7 w7 hxs ho7 hf7 hfr7
          have H7 := hid ((hq2.out.other HA6.out (by simp)).other (S := []) hf7.out (by simp))
          have hxl : xs.length = 1 := by rw [hxs.out]; rfl
          go_wp2_with fail
          refine (H7.out.done1_err he).mono ?_
          rintro e w8 ⟨rfl, ht8, _⟩
          have H8 := hid ht8
          have hz1 := HCV.out w8
          clear ht8
          go_wp2_with fail
          go_roundw
          case rel => exact ⟨t + 1, (zs, err), by omega, by go_num, hfit2, H8⟩
          case measure => simp [intOf]; omega
    · obtain rfl : t = m := by omega
      go_wp2_with fail
      go_returns
      exact ⟨rfl, HF0.out.trans hinv.out.frm (by simp)⟩
end Go.Proofs.Ytekkdebcklinhaa
