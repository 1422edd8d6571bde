/- The statement CodeOneForm: the walk. -/
import Derived.Test.YtekkdebcklinhaaOneL
namespace Go.Proofs.Ytekkdebcklinhaa
open Go.RowKit
set_option maxRecDepth 100000

set_option maxHeartbeats 6400000 in
theorem oneform_any (p : Option Addr) (c : Nat) (bs : List Int) (hb : ∀ z ∈ bs, 0 ≤ z ∧ z < 256) (hl : bs.length ≤ 2147483647) (q : Option Addr) (m c2 : Nat) (w : World) (hrd : Rd w p bs) (_hpc : bs = [] → p = none → c = 0) (hcc : bs.length ≤ c) (hcl : CameL w q m c2) :
    Calls Try.prog 6 #[.slice p bs.length c, .slice q m c2] w fun e w' => e = .returned (.bool true) ∧ Frm [] w w' := by
  have HRD := hid hrd
  have HCL := hid hcl
  have HB := hid hb
  have hm : m ≤ 9223372036854775807 := by have := hcl.1; have := hcl.2.1; omega
  clear hrd hcl hb
  go_enter Try.func6, Try.ntmps6
  go_wp2_with fail
  refine (awake_any _).mono ?_
  rintro e w0 ⟨rfl, hf0⟩
  have HRD0 := hid (HRD.out.kept hf0 (by simp))
  have HCL0 := hid (HCL.out.kept hf0)
  go_wp2_with fail
  refine (newReader_any p c bs _ HRD0.out (by omega)).mono ?_
  rintro e w1 ⟨rb, rg, rfl, hr, hf1, hrb, hrg⟩
  have R1 := hid (show FreshR w0 w1 rb rg bs 0 0 from ⟨hr, hf1, hrb, hrg⟩)
  have HF1 := hid hf1
  clear hr hf1
  go_wp2_with fail
  refine (newWriter_any bs.length _).mono ?_
  rintro e w2 ⟨rfl, hw2, hf2, hsz2⟩
  have hroom : roomOf bs.length = bs.length := by unfold roomOf; rw [if_neg (by omega), if_neg (by omega)]
  rw [hroom] at hw2
  obtain ⟨wb, hwb⟩ : ∃ wb, w1.heap.size = wb := ⟨_, rfl⟩
  have HI : Hid (OneInv w0 rb rg wb bs 0 w2) := by
    have h1 := R1.out.1.cells
    rw [hwb] at hw2
    refine ⟨0, ⟨R1.out.1.kept hf2 (by simp) (by simp), R1.out.2.1.trans hf2 (by simp), hrb, hrg⟩, [wb], by simpa using hw2, HF1.out.trans hf2 (by simp), ?_, ?_⟩
    · intro k hk; simp at hk; have := HF1.out.size; omega
    · intro k hk; simp at hk ⊢; rcases hk with rfl | rfl
      · exact ⟨by omega, by omega⟩
      · exact ⟨by omega, by omega⟩
  rw [hwb]
  clear hwb hw2 hf2 hsz2 hroom
  go_wp2_with fail
  go_loopw [8, 9] (fun a i wr => ∃ t pos : Nat, t ≤ m ∧ i = .int .i64 t ∧ a = .int .i64 pos ∧ Hid (OneInv w0 rb rg wb bs pos wr)) (fun _ i _ => m - (intOf i).toNat)
  case atStart => exact ⟨0, 0, Nat.zero_le _, rfl, rfl, HI⟩
  case round =>
    obtain ⟨t, pos, ht, rfl, rfl, hinv⟩ := hrel
    have hps : pos ≤ bs.length := by obtain ⟨_, h, _⟩ := hinv.out; exact h.1.cells.2.2.2.1
    by_cases hlt : t < m
    · obtain ⟨g, o, rfl, d, hat, hok⟩ : ∃ g o, q = some ⟨g, o, none⟩ ∧ ∃ d, CallAt wr g (o + t * 5) d ∧ CallOk wr d := by
        rcases HCL0.out.2.2 with h | ⟨g, o, rfl, h⟩
        · omega
        · obtain ⟨d, h1, h2⟩ := h t hlt
          exact ⟨g, o, rfl, d, h1.kept hinv.out.frm, h2.kept hinv.out.frm⟩
      obtain ⟨k0, k1, k2, k3, k4⟩ := hat
      obtain ⟨⟨a0, a1⟩, ⟨a2, a3⟩, ⟨a4, a5⟩, _, _⟩ := hok
      have hI2 := hinv.out.same ((Frm.refl [] wr).alloc (.cells #[.int .i64 d.kind, .int .u64 d.n, .int .i64 d.many, .slice d.p d.bl d.bc, .string d.s] 32))
      obtain ⟨err, hRd, hWd⟩ := hI2
      have HRd := hid hRd
      have HWd := hid hWd
      have hrbl : rb ≠ wr.heap.size := by obtain ⟨_, h, _⟩ := hinv.out; have := h.1.cells.1; omega
      clear hRd hWd
      have hc2 : (wr.alloc (.cells #[.int .i64 d.kind, .int .u64 d.n, .int .i64 d.many, .slice d.p d.bl d.bc, .string d.s] 32)).cell? ⟨wr.heap.size, 2, none⟩ = some (.int .i64 d.many) := by
        rw [cell_of_row _ _ _ _ _ _ (heap_alloc_new wr _)]; rfl
      by_cases hk0 : d.kind = 0
      · have hb0 : (d.kind == 0) = true := by simpa using hk0
        clear hk0
        go_wp2_with fail
        refine (numR_any rb rg pos bs HB.out err d.many _ HRd.out.1 a4 a5).mono ?_
        rintro e w3 ⟨rfl, hr, hf⟩
        have hc3 := (hf.cell (p := ⟨wr.heap.size, 2, none⟩) (by simp) (by simpa using Ne.symm hrbl)).trans hc2
        have hge := readS_ge 0 pos err (numT (bs.drop pos) d.many)
        have hone := fun h => one_num (bs := bs) HB.out (pos := pos) hps (err := err) (k := d.many) h
        obtain ⟨st, hst⟩ : ∃ st, readS 0 pos err (numT (bs.drop pos) d.many) = st := ⟨_, rfl⟩
        rw [hst] at hr hone hge ⊢
        have h3 := hid (OneInv.read HRd.out HWd.out hr hf)
        have hps' := hr.cells.2.2.2.1
        clear hr hf hst
        obtain ⟨nv, pos', err'⟩ := st
        simp only at h3 hps' hone hge ⊢
        have HONE := hid hone
        clear hone
        go_wp2_with fail
        refine (left_any _ _ _ _ _ _ h3.out.1.1).mono ?_
        rintro e w4 ⟨rfl, x1, rfl⟩
        by_cases hgt : pos < pos'
        · have hgt2 : (pos : Int) < (bs.length : Int) - ((bs.length - pos' : Nat) : Int) := by omega
          have h4 := hid (show FreshR w0 (w3.drewN x1) rb rg bs pos' err' ∧ FreshW w0 (w3.drewN x1) wb bs.length (bs.take pos, 0) [rb, rg] from ⟨h3.out.1.drewN x1, h3.out.2.other ((Frm.refl [] w3).drewN x1) (by simp)⟩)
          go_wp2_with fail
          refine (numF_any _ _ _ _ _ _ h4.out.2 (by omega) (by omega) (by simp only [List.length_take]; omega) nv d.many (HONE.out hgt).2.1 (HONE.out hgt).2.2 a4 a5).mono ?_
          rintro e w5 ⟨rfl, hW, hK⟩
          rw [(HONE.out hgt).1] at hW
          have h5 := hid (OneInv.write h4.out.1 hW hK rfl rfl)
          clear hW hK
          have hR5 := hid (h5.out)
          obtain ⟨err5, hq5, hq6⟩ := hR5.out
          have Q5 := hid hq5
          clear hq5 hq6
          go_wp2_with fail
          refine (left_any _ _ _ _ _ _ Q5.out.1).mono ?_
          rintro e w6 ⟨rfl, x2, rfl⟩
          have hat : (bs.length : Int) - ((bs.length - pos' : Nat) : Int) = (pos' : Int) := by omega
          have HAT := hid hat
          clear hat
          go_wp2_with fail
          go_roundw
          case rel => exact ⟨t + 1, pos', by omega, by go_num, congrArg (Value.int .i64) HAT.out, h5.out.same ((Frm.refl [] w5).drewN x2)⟩
          case measure => simp [intOf]; omega
        · have hgt2 : ¬ (pos : Int) < (bs.length : Int) - ((bs.length - pos' : Nat) : Int) := by omega
          have h5 := hid (OneInv.stay h3.out.1 h3.out.2 hge hgt)
          obtain ⟨err5, hq5, hq6⟩ := h5.out
          have Q5 := hid (hq5.drewN x1)
          clear hq5 hq6
          go_wp2_with fail
          refine (left_any _ _ _ _ _ _ Q5.out.1).mono ?_
          rintro e w6 ⟨rfl, x2, rfl⟩
          have hat : (bs.length : Int) - ((bs.length - pos' : Nat) : Int) = (pos' : Int) := by omega
          have HAT := hid hat
          clear hat
          go_wp2_with fail
          go_roundw
          case rel => exact ⟨t + 1, pos', by omega, by go_num, congrArg (Value.int .i64) HAT.out, h5.out.same ((Frm.refl [] w3).drewN (x1 + x2))⟩
          case measure => simp [intOf]; omega
      · have hb0 : (d.kind == 0) = false := by simpa using hk0
        clear hk0
        by_cases hk1 : d.kind = 1
        · have hb1 : (d.kind == 1) = true := by simpa using hk1
          clear hk1
          go_wp2_with fail
          refine (bytesR_any rb rg pos bs err d.many _ HRd.out.1 a4 a5).mono ?_
          rintro e w3 ⟨p3, n3, c3, rfl, hn3, hown, hfresh, hr, hf⟩
          have hc3 := (hf.cell (p := ⟨wr.heap.size, 2, none⟩) (by simp) (by simpa using Ne.symm hrbl)).trans hc2
          have hone := one_bytes (bs := bs) (pos := pos) hps (err := err) (k := d.many)
          obtain ⟨st, hst⟩ : ∃ st, readS [] pos err (bytesT (bs.drop pos) d.many) = st := ⟨_, rfl⟩
          rw [hst] at hr hone hn3 hown
          have h3 := hid (OneInv.read HRd.out HWd.out hr hf)
          have hps' := hr.cells.2.2.2.1
          clear hr hf hst
          obtain ⟨ns, pos', err'⟩ := st
          simp only at h3 hps' hone hn3 hown
          subst hn3
          have HONE := hid hone
          have hnc : ns = [] → p3 = none → c3 = 0 := by
            obtain ⟨p4, c4, he, _, hh, _⟩ := hown.shape
            simp only [Value.slice.injEq, true_and] at he
            obtain ⟨rfl, rfl⟩ := he
            exact fun _ h => (hh h).2
          have HNC := hid hnc
          have HRN := hid hown.rd
          have hnl : ns.length ≤ bs.length := by
            by_cases h : bs.length < ns.length
            · exfalso
              have hh := HONE.out
              unfold stepW at hh
              simp only [ne_eq, not_true, if_false] at hh
              rw [if_pos (by simp only [List.length_take]; omega)] at hh
              simp at hh
            · omega
          clear hone hnc hown hfresh
          go_wp2_with fail
          refine (bytesF_any _ _ _ _ _ _ h3.out.2 (by omega) (by omega) (by simp only [List.length_take]; omega) p3 ns c3 (by omega) HNC.out HRN.out).mono ?_
          rintro e w5 ⟨rfl, hW, hK⟩
          rw [HONE.out] at hW
          have h5 := hid (OneInv.write h3.out.1 hW hK rfl rfl)
          clear hW hK
          have hR5 := hid (h5.out)
          obtain ⟨err5, hq5, hq6⟩ := hR5.out
          have Q5 := hid hq5
          clear hq5 hq6
          go_wp2_with fail
          refine (left_any _ _ _ _ _ _ Q5.out.1).mono ?_
          rintro e w6 ⟨rfl, x2, rfl⟩
          have hat : (bs.length : Int) - ((bs.length - pos' : Nat) : Int) = (pos' : Int) := by omega
          have HAT := hid hat
          clear hat
          go_wp2_with fail
          go_roundw
          case rel => exact ⟨t + 1, pos', by omega, by go_num, congrArg (Value.int .i64) HAT.out, h5.out.same ((Frm.refl [] w5).drewN x2)⟩
          case measure => simp [intOf]; omega
        · have hb1 : (d.kind == 1) = false := by simpa using hk1
          clear hk1
          by_cases hk2 : d.kind = 2
          · have hb2 : (d.kind == 2) = true := by simpa using hk2
            clear hk2
            go_wp2_with fail
            refine (textR_any rb rg pos bs HB.out err d.many _ HRd.out.1 a4 a5).mono ?_
            rintro e w3 ⟨rfl, hr, hf⟩
            have hc3 := (hf.cell (p := ⟨wr.heap.size, 2, none⟩) (by simp) (by simpa using Ne.symm hrbl)).trans hc2
            have hge := readS_ge [] pos err (textT (bs.drop pos) d.many)
            have hone := fun h => one_text (bs := bs) HB.out (pos := pos) hps (err := err) (k := d.many) h
            obtain ⟨st, hst⟩ : ∃ st, readS [] pos err (textT (bs.drop pos) d.many) = st := ⟨_, rfl⟩
            rw [hst] at hr hone hge ⊢
            have hsz : (strOfNums st.1).size ≤ maxLen := by rw [← hst]; exact text_size (pos := pos) hps err d.many hl
            have h3 := hid (OneInv.read HRd.out HWd.out hr hf)
            have hps' := hr.cells.2.2.2.1
            clear hr hf hst
            obtain ⟨nv, pos', err'⟩ := st
            simp only at h3 hps' hone hge hsz ⊢
            have HONE := hid hone
            have HSZ : Hid ((strOfNums nv).size ≤ maxLen) := hsz
            clear hsz
            clear hone
            go_wp2_with fail
            refine (left_any _ _ _ _ _ _ h3.out.1.1).mono ?_
            rintro e w4 ⟨rfl, x1, rfl⟩
            by_cases hgt : pos < pos'
            · have hgt2 : (pos : Int) < (bs.length : Int) - ((bs.length - pos' : Nat) : Int) := by omega
              have h4 := hid (show FreshR w0 (w3.drewN x1) rb rg bs pos' err' ∧ FreshW w0 (w3.drewN x1) wb bs.length (bs.take pos, 0) [rb, rg] from ⟨h3.out.1.drewN x1, h3.out.2.other ((Frm.refl [] w3).drewN x1) (by simp)⟩)
              go_wp2_with fail
              refine (textF_any _ _ _ _ _ _ h4.out.2 (by omega) (by omega) (by simp only [List.length_take]; omega) (strOfNums nv) (HSZ.out)).mono ?_
              rintro e w5 ⟨rfl, hW, hK⟩
              rw [HONE.out hgt] at hW
              have h5 := hid (OneInv.write h4.out.1 hW hK rfl rfl)
              clear hW hK
              have hR5 := hid (h5.out)
              obtain ⟨err5, hq5, hq6⟩ := hR5.out
              have Q5 := hid hq5
              clear hq5 hq6
              go_wp2_with fail
              refine (left_any _ _ _ _ _ _ Q5.out.1).mono ?_
              rintro e w6 ⟨rfl, x2, rfl⟩
              have hat : (bs.length : Int) - ((bs.length - pos' : Nat) : Int) = (pos' : Int) := by omega
              have HAT := hid hat
              clear hat
              go_wp2_with fail
              go_roundw
              case rel => exact ⟨t + 1, pos', by omega, by go_num, congrArg (Value.int .i64) HAT.out, h5.out.same ((Frm.refl [] w5).drewN x2)⟩
              case measure => simp [intOf]; omega
            · have hgt2 : ¬ (pos : Int) < (bs.length : Int) - ((bs.length - pos' : Nat) : Int) := by omega
              have h5 := hid (OneInv.stay h3.out.1 h3.out.2 hge hgt)
              obtain ⟨err5, hq5, hq6⟩ := h5.out
              have Q5 := hid (hq5.drewN x1)
              clear hq5 hq6
              go_wp2_with fail
              refine (left_any _ _ _ _ _ _ Q5.out.1).mono ?_
              rintro e w6 ⟨rfl, x2, rfl⟩
              have hat : (bs.length : Int) - ((bs.length - pos' : Nat) : Int) = (pos' : Int) := by omega
              have HAT := hid hat
              clear hat
              go_wp2_with fail
              go_roundw
              case rel => exact ⟨t + 1, pos', by omega, by go_num, congrArg (Value.int .i64) HAT.out, h5.out.same ((Frm.refl [] w3).drewN (x1 + x2))⟩
              case measure => simp [intOf]; omega
          · have hb2 : (d.kind == 2) = false := by simpa using hk2
            clear hk2
            go_wp2_with fail
            refine (padR_any rb rg pos bs err d.many _ HRd.out.1 a4 a5).mono ?_
            rintro e w3 ⟨rfl, hr, hf⟩
            have hc3 := (hf.cell (p := ⟨wr.heap.size, 2, none⟩) (by simp) (by simpa using Ne.symm hrbl)).trans hc2
            have hge := readS_ge () pos err (padT (bs.drop pos) pos d.many)
            have hone := fun h => one_pad (bs := bs) (pos := pos) hps (err := err) (k := d.many) h
            obtain ⟨st, hst⟩ : ∃ st, readS () pos err (padT (bs.drop pos) pos d.many) = st := ⟨_, rfl⟩
            rw [hst] at hr hone hge
            have h3 := hid (OneInv.read HRd.out HWd.out hr hf)
            have hps' := hr.cells.2.2.2.1
            clear hr hf hst
            obtain ⟨nv, pos', err'⟩ := st
            simp only at h3 hps' hone hge
            have HONE := hid hone
            clear hone
            go_wp2_with fail
            refine (left_any _ _ _ _ _ _ h3.out.1.1).mono ?_
            rintro e w4 ⟨rfl, x1, rfl⟩
            by_cases hgt : pos < pos'
            · have hgt2 : (pos : Int) < (bs.length : Int) - ((bs.length - pos' : Nat) : Int) := by omega
              have h4 := hid (show FreshR w0 (w3.drewN x1) rb rg bs pos' err' ∧ FreshW w0 (w3.drewN x1) wb bs.length (bs.take pos, 0) [rb, rg] from ⟨h3.out.1.drewN x1, h3.out.2.other ((Frm.refl [] w3).drewN x1) (by simp)⟩)
              go_wp2_with fail
              refine (padF_any _ _ _ _ _ _ h4.out.2 (by omega) (by omega) (by simp only [List.length_take]; omega) d.many).mono ?_
              rintro e w5 ⟨rfl, hW, hK⟩
              rw [HONE.out hgt] at hW
              have h5 := hid (OneInv.write h4.out.1 hW hK rfl rfl)
              clear hW hK
              have hR5 := hid (h5.out)
              obtain ⟨err5, hq5, hq6⟩ := hR5.out
              have Q5 := hid hq5
              clear hq5 hq6
              go_wp2_with fail
              refine (left_any _ _ _ _ _ _ Q5.out.1).mono ?_
              rintro e w6 ⟨rfl, x2, rfl⟩
              have hat : (bs.length : Int) - ((bs.length - pos' : Nat) : Int) = (pos' : Int) := by omega
              have HAT := hid hat
              clear hat
              go_wp2_with fail
              go_roundw
              case rel => exact ⟨t + 1, pos', by omega, by go_num, congrArg (Value.int .i64) HAT.out, h5.out.same ((Frm.refl [] w5).drewN x2)⟩
              case measure => simp [intOf]; omega
            · have hgt2 : ¬ (pos : Int) < (bs.length : Int) - ((bs.length - pos' : Nat) : Int) := by omega
              have h5 := hid (OneInv.stay h3.out.1 h3.out.2 hge hgt)
              obtain ⟨err5, hq5, hq6⟩ := h5.out
              have Q5 := hid (hq5.drewN x1)
              clear hq5 hq6
              go_wp2_with fail
              refine (left_any _ _ _ _ _ _ Q5.out.1).mono ?_
              rintro e w6 ⟨rfl, x2, rfl⟩
              have hat : (bs.length : Int) - ((bs.length - pos' : Nat) : Int) = (pos' : Int) := by omega
              have HAT := hid hat
              clear hat
              go_wp2_with fail
              go_roundw
              case rel => exact ⟨t + 1, pos', by omega, by go_num, congrArg (Value.int .i64) HAT.out, h5.out.same ((Frm.refl [] w3).drewN (x1 + x2))⟩
              case measure => simp [intOf]; omega
    · obtain rfl : t = m := by omega
      obtain ⟨err, hR, hW⟩ := hinv.out
      have HW := hid hW
      have hlen : (bs.take pos).length = pos := by simp; omega
      have HLEN := hid hlen
      have hDN := doneWF_ok _ _ _ _ _ _ HW.out (by omega) (by rw [hlen]; omega)
      rw [hlen] at hDN
      have HDN := hid hDN
      have hp1 : ¬ (pos : Int) < 0 := by omega
      have hp2 : (pos : Int) ≤ (bs.length : Int) := by omega
      have hp3 : (0 : Int) ≤ (pos : Int) := by omega
      clear hR hW hlen hDN
      go_wp2_with fail
      refine HDN.out.mono ?_
      rintro e w5 ⟨g, rfl, hrd5, f5, _, _, _⟩
      have F5 := hid f5
      have hcv1 := fun n => conv_any (P := Try.prog) (w := w5.drewN n) 30 5 9 Try.underlying30 Try.underlying5 Try.underlying9 (hrd5.drewN n) pos HLEN.out
      have hcv2 := fun n => conv_any (P := Try.prog) (w := w5.drewN n) 30 5 9 Try.underlying30 Try.underlying5 Try.underlying9 (((HRD0.out.kept F5.out.frm (by simp)).take pos).drewN n) c HLEN.out
      have hd1 := hcv1 1
      have hd2 := hcv2 1
      rw [show w5.drewN 1 = w5.drew from rfl] at hd1 hd2
      clear f5 hrd5
      generalize strOfNums (bs.take pos) = S at hcv1 hcv2 hd1 hd2
      have hpc : (pos : Int) ≤ (c : Int) := by omega
      go_wp2_with fail
      go_quiet (fail)
      go_wp2_with fail
      go_returns
      exact ⟨bool_eq (by simp), hf0.trans (F5.out.frm.drewN _) (by simp)⟩
end Go.Proofs.Ytekkdebcklinhaa
