/- The document's space maps: check, Replay, Condense. -/
import Derived.Test.YtkbppkimpefilaaSpC
import Derived.Test.YtkbppkimpefilaaRhH
namespace Go.Proofs.Ytkbppkimpefilaa
open Go.RowKit Go.Lib
set_option maxRecDepth 100000

set_option maxHeartbeats 3200000 in
theorem refChkE_any (p : Option Addr) (n c : Nat) (es : List Sq) (w : World) (hr : Rv w p (rowE es)) (hn : es.length = n) (hin : InE es) (hc : n ≤ 9223372036854775807) :
    Calls Try.prog 49 #[.slice p n c] w fun e w' => e = .returned (.int .i64 (chkE es)) ∧ Frm [] w w' := by
  have HR := hid (fun W (hf : Frm [] w W) => hr.kept hf (by simp))
  have HN := hid hn
  have HIN := hid hin
  obtain ⟨PO, hPO⟩ : ∃ PO : Ending → World → Prop, (fun e w' => e = .returned (.int .i64 (chkE es)) ∧ Frm [] w w') = PO := ⟨_, rfl⟩
  rw [hPO]
  have HP : Hid (∀ E w', E = chkE es → Frm [] w w' → PO (.returned (.int .i64 E)) w') := hid (fun E w' h1 h2 => by
    rw [← hPO]
    exact ⟨by rw [h1], h2⟩)
  clear hPO hr hn hin
  go_enter Try.func49, Try.ntmps49
  by_cases hbig : 4096 < n
  · have t0 : (4096 : Int) < (n : Int) := by omega
    have HE : Hid (2 = chkE es) := hid (by unfold chkE; rw [if_pos (by rw [HN.out]; exact hbig)])
    go_wp2_with fail
    first | go_returns | skip
    exact HP.out _ _ HE.out (Frm.refl _ _)
  · have t0 : ¬ (4096 : Int) < (n : Int) := by omega
    go_wp2_with fail
    go_loopw [3] (fun i wr => ∃ t : Nat, t ≤ n ∧ i = .int .i64 (t : Int) ∧ Hid (Frm [] w wr) ∧ Hid (∀ y ∈ es.take t, May9 y.s)) (fun i _ => n - (intOf i).toNat)
    case atStart => exact ⟨0, Nat.zero_le _, rfl, hid (Frm.refl _ _), hid (by simp)⟩
    case round =>
      obtain ⟨t, ht, rfl, hf, hok⟩ := hrel
      by_cases hlt : t < n
      · have t1 : (t : Int) < (n : Int) := by omega
        obtain ⟨y, hy⟩ : ∃ y, es[t]? = some y := ⟨_, List.getElem?_eq_getElem (by rw [HN.out]; exact hlt)⟩
        obtain ⟨g, o, rfl, y0, y1, y2⟩ := rvE_at (HR.out wr hf.out) hy
        have HY := hid hy
        have HM := hid (may9_any y.s (HIN.out y (List.mem_of_getElem? hy)) wr)
        clear hy
        go_wp2_with fail
        refine HM.out.mono ?_
        rintro e w6 ⟨rfl, hf6⟩
        have HF6 := hid (hf.out.trans hf6 (by simp))
        clear hf6 y0 y1 y2 HM
        by_cases hm : May9 y.s
        · have hd : decide (May9 y.s) = true := by simp [hm]
          have HOK : Hid (∀ z ∈ es.take (t + 1), May9 z.s) := hid (fun z hz => by
            rw [List.take_add_one, HY.out, Option.toList_some] at hz
            rcases List.mem_append.1 hz with h | h
            · exact hok.out z h
            · simp at h; subst h; exact hm)
          clear hm
          rw [hd]
          go_wp2_with fail
          go_roundw
          case rel => exact ⟨t + 1, by omega, by go_num, HF6, HOK⟩
          case measure => simp [intOf]; omega
        · have hd : decide (May9 y.s) = false := by simp [hm]
          have HE : Hid (100 = chkE es) := hid (by
            unfold chkE
            rw [if_neg (by rw [HN.out]; exact hbig), if_neg (fun h => hm (h y (List.mem_of_getElem? HY.out)))])
          clear hm
          rw [hd]
          go_wp2_with fail
          first | go_returns | skip
          exact HP.out _ _ HE.out HF6.out
      · obtain rfl : n = t := by omega
        have HE : Hid (0 = chkE es) := hid (by
          symm
          refine chkE_ok.2 ⟨by rw [HN.out]; omega, fun y hy => hok.out y ?_⟩
          rw [List.take_of_length_le (by rw [HN.out]; exact Nat.le_refl _)]
          exact hy)
        go_wp2_with fail
        first | go_returns | skip
        exact HP.out _ _ HE.out hf.out
/-- One entry, replayed by the document. -/
def RStepE (l : List Sp) (y : Sq) (E : Int) (l' : List Sp) : Prop := (y.f = true ∧ RRemP l y.s E l') ∨ (y.f = false ∧ RAddP l y.s E l')
theorem RStepE.as {l l' k' : List Sp} {y : Sq} {E E' : Int} (h : StepE l y E l') (h' : RStepE l y E' k') : E' = E ∧ k' = l' := by
  rcases h with ⟨a, h⟩ | ⟨a, h⟩ <;> rcases h' with ⟨b, h'⟩ | ⟨b, h'⟩
  · exact RRemP.as h h'
  · rw [a] at b; cases b
  · rw [a] at b; cases b
  · exact RAddP.as h h'
def RRepR : List Sq → List Sp → Int → List Sp → Prop
  | [], l, E, r => E = 0 ∧ r = l
  | y :: es, l, E, r => ∃ F l', RStepE l y F l' ∧ ((F = 0 ∧ RRepR es l' E r) ∨ (F ≠ 0 ∧ E = 101 ∧ r = []))
theorem RRepR.as : ∀ {es : List Sq} {l r r' : List Sp} {E E' : Int}, RepR es l E r → RRepR es l E' r' → E' = E ∧ r' = r
  | [], _, _, _, _, _, ⟨rfl, rfl⟩, ⟨rfl, rfl⟩ => ⟨rfl, rfl⟩
  | y :: es, l, r, r', E, E', ⟨F, l1, h1, h2⟩, ⟨F', l1', h1', h2'⟩ => by
    obtain ⟨e1, e2⟩ := RStepE.as h1 h1'
    subst e1 e2
    rcases h2 with ⟨a, h2⟩ | ⟨a, rfl, rfl⟩ <;> rcases h2' with ⟨b, h2'⟩ | ⟨b, rfl, rfl⟩
    · exact RRepR.as h2 h2'
    · exact absurd a b
    · exact absurd b a
    · exact ⟨rfl, rfl⟩
def RRepC (es : List Sq) (E : Int) (r : List Sp) : Prop := (chkE es ≠ 0 ∧ E = chkE es ∧ r = []) ∨ (chkE es = 0 ∧ RRepR es [] E r)
theorem RRepC.as {es : List Sq} {r r' : List Sp} {E E' : Int} (h : RepC es E r) (h' : RRepC es E' r') : E' = E ∧ r' = r := by
  rcases h with ⟨a, rfl, rfl⟩ | ⟨a, h⟩ <;> rcases h' with ⟨b, rfl, rfl⟩ | ⟨b, h'⟩
  · exact ⟨rfl, rfl⟩
  · exact absurd b a
  · exact absurd a b
  · exact RRepR.as h h'
theorem RRepC.nil {es : List Sq} {r : List Sp} {E : Int} (h : RRepC es E r) (hE : E ≠ 0) : RRepC es E [] := by
  have hf : ∀ {es : List Sq} {l r : List Sp} {E : Int}, RRepR es l E r → E ≠ 0 → RRepR es l E [] := by
    intro es
    induction es with
    | nil => intro l r E h hE; exact absurd h.1 hE
    | cons y es ih =>
      intro l r E h hE
      obtain ⟨F, l', h1, h2⟩ := h
      rcases h2 with ⟨a, h2⟩ | ⟨a, h2, _⟩
      · exact ⟨F, l', h1, Or.inl ⟨a, ih h2 hE⟩⟩
      · exact ⟨F, l', h1, Or.inr ⟨a, h2, rfl⟩⟩
  rcases h with ⟨a, b, _⟩ | ⟨a, h⟩
  · exact Or.inl ⟨a, b, rfl⟩
  · exact Or.inr ⟨a, hf h hE⟩
/-- What the document's Replay answers. -/
def RRepA (w : World) (es : List Sq) (e : Ending) (w' : World) : Prop :=
  ∃ E r, RRepC es E r ∧ Frm [] w w' ∧ ((E ≠ 0 ∧ e = .returned (.tuple #[.pointer none, .int .i64 E])) ∨
    (E = 0 ∧ ∃ sb p c, e = .returned (.tuple #[.pointer (some ⟨sb, 0, none⟩), .int .i64 0]) ∧ RRef w' sb p c r ∧ Norm 0 r ∧ r.length ≤ 4096))
set_option maxHeartbeats 6400000 in
theorem refRepE_any (p : Option Addr) (n c : Nat) (es : List Sq) (w : World) (hr : Rv w p (rowE es)) (hn : es.length = n) (hin : InE es) (hc : n ≤ 9223372036854775807) :
    Calls Try.prog 16 #[.slice p n c] w (RRepA w es) := by
  obtain ⟨PO, hPO⟩ : ∃ PO : Ending → World → Prop, RRepA w es = PO := ⟨_, rfl⟩
  rw [hPO]
  have HP1 : Hid (∀ E w', RRepC es E [] → E ≠ 0 → Frm [] w w' → PO (.returned (.tuple #[.pointer none, .int .i64 E])) w') := hid (fun E w' h1 h2 h3 => by
    rw [← hPO]
    exact ⟨E, [], h1, h3, Or.inl ⟨h2, rfl⟩⟩)
  have HP2 : Hid (∀ sb p c r w', RRepC es 0 r → RRef w' sb p c r → Norm 0 r → r.length ≤ 4096 → Frm [] w w' → PO (.returned (.tuple #[.pointer (some ⟨sb, 0, none⟩), .int .i64 0])) w') := hid (fun sb p c r w' h1 h2 h3 h4 h5 => by
    rw [← hPO]
    exact ⟨0, r, h1, h5, Or.inr ⟨rfl, sb, p, c, rfl, h2, h3, h4⟩⟩)
  have HR := hid (fun W (hf : Frm [] w W) => hr.kept hf (by simp))
  have HN := hid hn
  have HIN := hid hin
  have HCK := hid (refChkE_any p n c es w hr hn hin hc)
  obtain ⟨C, hC⟩ : ∃ C, chkE es = C := ⟨_, rfl⟩
  rw [hC] at HCK
  have HC := hid hC
  clear hr hn hin hC hPO
  go_enter Try.func16, Try.ntmps16
  go_wp2_with fail
  refine HCK.out.mono ?_
  rintro e w1 ⟨rfl, hf1⟩
  have HF1 := hid hf1
  clear hf1 HCK
  by_cases hC0 : C = 0
  · subst hC0
    obtain ⟨sb, hsb⟩ : ∃ q, w1.heap.size = q := ⟨_, rfl⟩
    obtain ⟨w2, hw2⟩ : ∃ q, w1.alloc (.cells #[.slice none 0 0] 46) = q := ⟨_, rfl⟩
    have HS2 : Hid (RRef w2 sb none 0 [] ∧ Norm 0 [] ∧ ([] : List Sp).length ≤ 4096 ∧ Frm [] w w2 ∧ w.heap.size ≤ sb) := hid (by
      have hf : Frm [] w1 w2 := by rw [← hw2]; exact (Frm.refl _ _).alloc _
      exact ⟨⟨by rw [← hw2]; exact heap_alloc_to _ _ hsb, ⟨⟨rfl, Or.inl ⟨rfl, rfl⟩⟩, rfl⟩, by simp [blk]⟩, trivial, by simp, HF1.out.trans hf (by simp), by have := HF1.out.size; omega⟩)
    have HW2 := hid hw2
    have HSB := hid hsb
    clear hw2 hsb
    go_upto_region 5 with fail
    rw [HSB.out, HW2.out]
    clear HW2 HSB
    go_wp2_with fail
    go_loopw [6] (fun i wr => ∃ (t : Nat) (p4 : Option Addr) (c4 : Nat) (ks : List Sp), t ≤ n ∧ i = .int .i64 (t : Int) ∧ Hid (RRef wr sb p4 c4 ks ∧ Norm 0 ks ∧ ks.length ≤ 4096 ∧ Frm [] w wr ∧ w.heap.size ≤ sb) ∧ Hid (∀ E r, RRepR (es.drop t) ks E r → RRepR es [] E r)) (fun i _ => n - (intOf i).toNat)
    case atStart => exact ⟨0, none, 0, [], Nat.zero_le _, rfl, HS2, hid (fun E r h => by simpa using h)⟩
    case round =>
      clear HS2
      obtain ⟨t, p4, c4, ks, ht, rfl, hs, hq⟩ := hrel
      by_cases hlt : t < n
      · have t1 : (t : Int) < (n : Int) := by omega
        obtain ⟨y, hy⟩ : ∃ y, es[t]? = some y := ⟨_, List.getElem?_eq_getElem (by rw [HN.out]; exact hlt)⟩
        obtain ⟨g, o, rfl, y0, y1, y2⟩ := rvE_at (HR.out wr hs.out.2.2.2.1) hy
        have HY := hid hy
        have HS5 := hid hs.out
        clear hy hs
        cases hyf : y.f with
        | false =>
          rw [hyf] at y0
          have HYF := hid hyf
          clear hyf
          have HAD := hid (radd_any sb p4 c4 ks y.s wr HS5.out.1 HS5.out.2.1 HS5.out.2.2.1 (HIN.out y (List.mem_of_getElem? HY.out)))
          go_wp2_with fail
          refine HAD.out.mono ?_
          rintro e w6 ⟨E, l', p', c', rfl, a0, a1, a2, a3, a4, a5⟩
          have HST : Hid (RStepE ks y E l') := hid (Or.inr ⟨HYF.out, a0⟩)
          have HS6 : Hid (RRef w6 sb p' c' l' ∧ Norm 0 l' ∧ l'.length ≤ 4096 ∧ Frm [] w w6 ∧ w.heap.size ≤ sb) := hid ⟨a1, a2, a3, HS5.out.2.2.2.1.trans a4 (fun k hk hkl => by simp at hk; have := HS5.out.2.2.2.2; omega), HS5.out.2.2.2.2⟩
          have hdr : es.drop t = y :: es.drop (t + 1) := by
            rw [List.drop_eq_getElem_cons (by rw [HN.out]; exact hlt)]
            have := HY.out
            rw [List.getElem?_eq_getElem (by rw [HN.out]; exact hlt)] at this
            cases this; rfl
          clear a0 a1 a2 a3 a4 a5 HAD y0 y1 y2
          by_cases hE : E = 0
          · subst hE
            have HQ : Hid (∀ E r, RRepR (es.drop (t + 1)) l' E r → RRepR es [] E r) := hid (fun E r h => hq.out E r (by rw [hdr]; exact ⟨0, l', HST.out, Or.inl ⟨rfl, h⟩⟩))
            clear hdr
            go_wp2_with fail
            go_roundw
            case rel => exact ⟨t + 1, p', c', l', by omega, by go_num, HS6, HQ⟩
            case measure => simp [intOf]; omega
          · have hb : (E != 0) = true := by simpa using hE
            have HRR : Hid (RRepC es 101 []) := hid (Or.inr ⟨HC.out, hq.out 101 [] (by rw [hdr]; exact ⟨E, l', HST.out, Or.inr ⟨hE, rfl, rfl⟩⟩)⟩)
            clear hdr hE
            go_wp2_with fail
            first | go_returns | skip
            exact HP1.out 101 w6 HRR.out (by omega) HS6.out.2.2.2.1
        | true =>
          rw [hyf] at y0
          have HYF := hid hyf
          clear hyf
          have HAD := hid (rrem_any sb p4 c4 ks y.s wr HS5.out.1 HS5.out.2.1 HS5.out.2.2.1 (HIN.out y (List.mem_of_getElem? HY.out)))
          go_wp2_with fail
          refine HAD.out.mono ?_
          rintro e w6 ⟨E, l', p', c', rfl, a0, a1, a2, a3, a4, a5⟩
          have HST : Hid (RStepE ks y E l') := hid (Or.inl ⟨HYF.out, a0⟩)
          have HS6 : Hid (RRef w6 sb p' c' l' ∧ Norm 0 l' ∧ l'.length ≤ 4096 ∧ Frm [] w w6 ∧ w.heap.size ≤ sb) := hid ⟨a1, a2, a3, HS5.out.2.2.2.1.trans a4 (fun k hk hkl => by simp at hk; have := HS5.out.2.2.2.2; omega), HS5.out.2.2.2.2⟩
          have hdr : es.drop t = y :: es.drop (t + 1) := by
            rw [List.drop_eq_getElem_cons (by rw [HN.out]; exact hlt)]
            have := HY.out
            rw [List.getElem?_eq_getElem (by rw [HN.out]; exact hlt)] at this
            cases this; rfl
          clear a0 a1 a2 a3 a4 a5 HAD y0 y1 y2
          by_cases hE : E = 0
          · subst hE
            have HQ : Hid (∀ E r, RRepR (es.drop (t + 1)) l' E r → RRepR es [] E r) := hid (fun E r h => hq.out E r (by rw [hdr]; exact ⟨0, l', HST.out, Or.inl ⟨rfl, h⟩⟩))
            clear hdr
            go_wp2_with fail
            go_roundw
            case rel => exact ⟨t + 1, p', c', l', by omega, by go_num, HS6, HQ⟩
            case measure => simp [intOf]; omega
          · have hb : (E != 0) = true := by simpa using hE
            have HRR : Hid (RRepC es 101 []) := hid (Or.inr ⟨HC.out, hq.out 101 [] (by rw [hdr]; exact ⟨E, l', HST.out, Or.inr ⟨hE, rfl, rfl⟩⟩)⟩)
            clear hdr hE
            go_wp2_with fail
            first | go_returns | skip
            exact HP1.out 101 w6 HRR.out (by omega) HS6.out.2.2.2.1
      · obtain rfl : n = t := by omega
        have HRR : Hid (RRepC es 0 ks) := hid (Or.inr ⟨HC.out, hq.out 0 ks (by rw [List.drop_eq_nil_of_le (by rw [HN.out]; exact Nat.le_refl _)]; exact ⟨rfl, rfl⟩)⟩)
        go_wp2_with fail
        first | go_returns | skip
        exact HP2.out sb p4 c4 ks wr HRR.out hs.out.1 hs.out.2.1 hs.out.2.2.1 hs.out.2.2.2.1
  · have hb : (C != 0) = true := by simpa using hC0
    have HRR : Hid (RRepC es C []) := hid (Or.inl ⟨by rw [HC.out]; exact hC0, HC.out.symm, rfl⟩)
    go_wp2_with fail
    first | go_returns | skip
    exact HP1.out C w1 HRR.out hC0 HF1.out
/-- What the document's Condense answers. -/
def RConA (w : World) (es : List Sq) (e : Ending) (w' : World) : Prop :=
  ∃ E r, RRepC es E r ∧ Frm [] w w' ∧ ∃ p c, e = .returned (.tuple #[.slice p r.length c, .int .i64 E]) ∧ OwnE w' p r.length c (toE r) ∧ ∀ k ∈ blk p, w.heap.size ≤ k
set_option maxHeartbeats 6400000 in
theorem refConE_any (p : Option Addr) (n c : Nat) (es : List Sq) (w : World) (hr : Rv w p (rowE es)) (hn : es.length = n) (hin : InE es) (hc : n ≤ 9223372036854775807) :
    Calls Try.prog 18 #[.slice p n c] w (RConA w es) := by
  obtain ⟨PO, hPO⟩ : ∃ PO : Ending → World → Prop, RConA w es = PO := ⟨_, rfl⟩
  rw [hPO]
  have HP : Hid (∀ E r p c L w', r.length = L → RRepC es E r → Frm [] w w' → OwnE w' p L c (toE r) → (∀ k ∈ blk p, w.heap.size ≤ k) → PO (.returned (.tuple #[.slice p L c, .int .i64 E])) w') := hid (fun E r p c L w' h0 h1 h2 h5 h6 => by
    rw [← hPO]
    subst h0
    exact ⟨E, r, h1, h2, p, c, rfl, h5, h6⟩)
  have HRE := hid (refRepE_any p n c es w hr hn hin hc)
  clear hr hn hin hPO
  go_enter Try.func18, Try.ntmps18
  go_wp2_with fail
  refine HRE.out.mono ?_
  rintro e w1 ⟨E, r, hc, hf1, h⟩
  have HC := hid hc
  have HF1 := hid hf1
  clear hc hf1 HRE
  rcases h with ⟨hE, rfl⟩ | ⟨rfl, sb, ps, cs, rfl, h1, h2, h3⟩
  · have hb : (E != 0) = true := by simpa using hE
    have HRR : Hid (RRepC es E []) := hid (HC.out.nil hE)
    clear hE
    go_wp2_with fail
    first | go_returns | skip
    exact HP.out E [] none 0 0 w1 rfl HRR.out HF1.out ⟨⟨rfl, Or.inl ⟨rfl, rfl⟩⟩, rfl⟩ (by simp [blk])
  · have HS := hid h1
    obtain ⟨L, hL⟩ : ∃ q, r.length = q := ⟨_, rfl⟩
    rw [hL] at h3
    have HL := hid hL
    clear h1 h2 hL
    go_wp2_with fail
    go_loopw [7, 6] (fun i s6 wr => ∃ (t : Nat) (pk : Option Addr) (ck : Nat), t ≤ L ∧ i = .int .i64 (t : Int) ∧ s6 = .slice pk t ck ∧ Hid (OwnE wr pk t ck (toE (r.take t)) ∧ (∀ k ∈ blk pk, w1.heap.size ≤ k) ∧ Frm [] w1 wr)) (fun i _ _ => L - (intOf i).toNat)
    case atStart => exact ⟨0, none, 0, Nat.zero_le _, rfl, rfl, hid ⟨⟨⟨rfl, Or.inl ⟨rfl, rfl⟩⟩, by simp [toE]⟩, by simp [blk], Frm.refl _ _⟩⟩
    case round =>
      obtain ⟨t, pk, ck, ht, rfl, rfl, hin⟩ := hrel
      have r0 := (HS.out.k0 hin.out.2.2).cell
      rw [HL.out] at r0
      by_cases hlt : t < L
      · have t1 : (t : Int) < (L : Int) := by omega
        obtain ⟨y, hy⟩ : ∃ y, r[t]? = some y := ⟨_, List.getElem?_eq_getElem (by rw [HL.out]; exact hlt)⟩
        obtain ⟨g, hg, y0, y1⟩ := (HS.out.k0 hin.out.2.2).own.at hy
        have HTK : Hid (rowE (toE (r.take t)) ++ rowE (toE [y]) = rowE (toE (r.take (t + 1)))) := hid (by rw [List.take_add_one, hy, Option.toList_some, toE, toE, toE, List.map_append, rowE_app])
        have HTL : Hid ((toE (r.take (t + 1))).length = t + 1) := hid (by rw [toE, List.length_map, List.length_take, HL.out]; omega)
        have h6 : Frm [] wr (wr.alloc (.cells #[.bool false, .int .i64 y.a, .int .i64 y.m] 41)) := (Frm.refl _ _).alloc _
        have HOW := hid (ownsRow_kept hin.out.1.1 h6 (by simp))
        have HRV := hid (rv_block (heap_alloc_new wr (.cells #[.bool false, .int .i64 y.a, .int .i64 y.m] 41)))
        have HF6 := hid h6
        have HA := hid hin.out.2
        subst hg
        clear hy hin h6
        go_wp2_with (at_builtin; refine wpList_appV rfl _ _ 22 rfl 41 3 24 _ Try.underlying22 infoSq rfl (by decide) pk t ck (rowE (toE (r.take t))) rfl HOW.out (some ⟨wr.heap.size, 0, none⟩) 1 1 [.bool false, .int .i64 y.a, .int .i64 y.m] rfl rfl (by simp) HRV.out (by intro u hu; simp at hu; rcases hu with rfl | rfl | rfl <;> rfl) (by unfold maxLen; omega) (by omega) ?_)
        intro p6 c6 w6 ho6 hf6 hb6
        have HIN : Hid (OwnE w6 p6 (t + 1) c6 (toE (r.take (t + 1))) ∧ (∀ k ∈ blk p6, w1.heap.size ≤ k) ∧ Frm [] w1 w6) := hid (by
          obtain ⟨a1, a2⟩ := HA.out
          refine ⟨⟨by rw [← HTK.out]; exact ho6.out, HTL.out⟩, fun k hk => ?_, ?_⟩
          · rcases hb6.out k hk with h | h
            · exact a1 k h
            · have h8 := a2.size; have h9 := HF6.out.size; omega
          · exact (a2.trans HF6.out (by simp)).trans hf6.out (fun k hk hkl => by have := a1 k hk; omega))
        clear ho6 hf6 hb6 r0 y0 y1 HOW HRV HF6 HA
        go_wp2_with fail
        go_roundw
        case rel => exact ⟨t + 1, p6, c6, by omega, by go_num, by go_num, HIN⟩
        case measure => simp [intOf]; omega
      · obtain rfl : L = t := by omega
        have HT : Hid (r.take L = r) := hid (List.take_of_length_le (by rw [HL.out]; exact Nat.le_refl _))
        have HO := hid hin.out.1
        have HG := hid (fun k hk => Nat.le_trans HF1.out.size (hin.out.2.1 k hk))
        have HFR := hid (HF1.out.trans hin.out.2.2 (by simp))
        clear hin
        rw [HT.out] at HO
        go_wp2_with fail
        first | go_returns | skip
        exact HP.out 0 r pk ck L wr HL.out HC.out HFR.out HO.out HG.out
end Go.Proofs.Ytkbppkimpefilaa
