/- Contracts of the document's writer (layer 1): Text, Pad, Done. -/
import Derived.Test.YtekkdebcklinhaaRefW
import Derived.Deep.RegionHeld3
namespace Go.Proofs.Ytekkdebcklinhaa
open Go.RowKit
set_option maxRecDepth 100000

/-- append of a text, as a law of the walk. -/
theorem wpList_appS {P : Program} {w : World} {ops : Array Oper} {rest : List Oper} {o : Oper} {a : Act} {Q : Exit → Act → World → Prop} (hgd : o.guard = none) (sl x : Operand) (t u : TypeId)
    (ho : o.op = .call { callee := .builtin .append, args := #[sl, x], argTypes := #[t, u] })
    (E : TypeId) (ht : P.underlying t = some (.slice E)) (hu : P.underlying u = some .string) (hI : (P.info? E).map (fun i => (i.zero, i.size, i.bytes)) = some (some (.int .u8 0), 1, 1))
    (p0 : Option Addr) (n0 c0 : Nat) (zs : List Int) (hs : a.eval sl = .slice p0 n0 c0) (hn0 : n0 = zs.length) (hown : Own w E (.slice p0 zs.length c0) zs)
    (s : ByteArray) (hx : a.eval x = .string s) (hsz : zs.length + s.size ≤ 140737488355328)
    (h : ∀ xs p2 c2 w', Hid (xs = zs ++ tx s) → Hid (Own w' E (.slice p2 xs.length c2) xs) → Hid (Frm (blk p0) w w') → Hid (∀ k ∈ blk p2, k ∈ blk p0 ∨ w.heap.size ≤ k) → wpList P ops Q rest (a.put o.dst (.slice p2 xs.length c2)) w') :
    wpList P ops Q (o :: rest) a w := by
  refine wpList_plain hgd fun K hK => ?_
  subst hn0
  obtain ⟨v', w', hrun, h1, h2, h3⟩ := run_appS (P := P) (w := w) t u o.type E ht hu hI _ zs hown s hsz
  obtain ⟨xs, hxs⟩ : ∃ xs, xs = zs ++ tx s := ⟨_, rfl⟩
  rw [← hxs] at h1
  obtain ⟨p2, c2, rfl, _, _, _, hb⟩ := h1.shape
  rw [hb, own_blk] at h3
  rw [own_blk] at h2
  unfold Oper.wp
  simp [execOp, ho, resolve, invoke, builtin, hs, hx, hrun, Result.andThen]
  exact hK _ _ (h xs p2 c2 w' hxs h1 h2 h3)
set_option maxHeartbeats 800000 in
theorem vtext_any (b : Nat) (fp : List Nat) (room : Int) (s : List Int × Int) (t : ByteArray) (w : World) (hw : IsV w b fp room s.1 s.2) (hr0 : 0 ≤ room) (hr1 : room ≤ 2147483647) (hz : (s.1.length : Int) ≤ room) (ht : t.size ≤ maxLen) :
    Calls Try.prog 41 #[.pointer (some ⟨b, 0, none⟩), .string t] w fun e w' => e = .returned (.tuple #[]) ∧ NowV w b fp room (stepW room s (textF t)).1 (stepW room s (textF t)).2 w' := by
  unfold maxLen at ht
  have HW := hid hw
  have hbl : b < w.heap.size := by obtain ⟨_, _, h, _⟩ := hw; exact lt_of_heap h
  by_cases h1 : 65535 < t.size
  · rw [show textF t = ([], 11) by unfold textF; rw [if_pos h1]]
    have H := hid (vlay_any b fp room s none 0 0 [] 11 w hw hr0 hr1 hz (by simp) rfl (by simp) (Rd.nil _ _) (by simp [blk]) (by simp))
    go_enter Try.func41, Try.ntmps41
    go_wp2_with fail
    refine H.out.mono ?_
    rintro e w' ⟨rfl, hq⟩
    have HQ := hid hq
    clear hq
    go_wp2_with fail
    go_returns
    exact ⟨rfl, HQ.out⟩
  · rw [show textF t = (le t.size 2 ++ tx t, 0) by unfold textF; rw [if_neg h1]]
    have HF := hid (form_any (t.size : Int) 2 (by omega) (by omega) (by omega) w)
    have hs2 : t.size ≤ 65535 := by omega
    have hl2 := le_length (t.size : Int) 2
    have HL2 := hid hl2
    clear hw h1 hl2
    go_enter Try.func41, Try.ntmps41
    go_wp2_with fail
    refine HF.out.mono ?_
    rintro e w1 ⟨p, c, ok, rfl, ho, _, hf, hfr⟩
    have HFR := hid hfr
    have HO := hid ho
    clear hfr ho
    go_wp2_with (at_builtin; refine wpList_appS rfl _ _ 30 9 rfl 5 Try.underlying30 Try.underlying9 infoE p 2 c (le t.size 2) rfl HL2.out.symm (by rw [HL2.out]; exact HO.out) t rfl (by rw [HL2.out]; omega) ?_)
    intro xs p2 c2 w2 hxs ho2 hf2 hfr2
    have hff : Frm [] w w2 := hf.trans hf2.out (fun i hi hlt => absurd (HFR.out i hi) (Nat.not_le.2 hlt))
    have hpb : b ∉ blk p2 := fun h => by
      rcases hfr2.out b h with h | h
      · have := HFR.out b h; omega
      · have := hf.size; omega
    have hxl : xs.length = 2 + t.size := by rw [hxs.out, List.length_append, HL2.out, tx_length]
    have hpc : xs = [] → p2 = none → c2 = 0 := by intro h; rw [h] at hxl; simp at hxl; omega
    have H := vlay_any b fp room s p2 xs.length c2 xs 0 w2 (HW.out.kept hff (by simp)) hr0 hr1 hz (by omega) rfl hpc ho2.out.rd (fun _ => hpb) (by simp)
    have HH := hid H
    have HX := hid hxl
    clear H hxl hpc
    go_wp2_with fail
    refine HH.out.mono ?_
    rintro e w' ⟨rfl, hq⟩
    rw [hxs.out] at hq
    have HQ := hid (hq.after hff)
    clear hq
    go_wp2_with fail
    go_returns
    exact ⟨rfl, HQ.out⟩
set_option maxHeartbeats 800000 in
theorem vpad_any (b : Nat) (fp : List Nat) (room : Int) (s : List Int × Int) (to : Int) (w : World) (hw : IsV w b fp room s.1 s.2) (hr0 : 0 ≤ room) (hr1 : room ≤ 2147483647) (hz : (s.1.length : Int) ≤ room) (ht : -9223372036854775808 ≤ to) (ht2 : to ≤ 9223372036854775807) :
    Calls Try.prog 42 #[.pointer (some ⟨b, 0, none⟩), .int .i64 to] w fun e w' => e = .returned (.tuple #[]) ∧ NowV w b fp room (stepW room s (padF room s.1.length to)).1 (stepW room s (padF room s.1.length to)).2 w' := by
  have HW := hid hw
  obtain ⟨p, c, hlt, hfp, hnb, hown, c0, c1, c2, f1, f2, hh⟩ := hw.cells
  clear hw hfp hown hnb hh
  have HE : ∀ (w0 : World) (ev : Int), Frm [] w w0 → ev ≠ 0 → Calls Try.prog 83 #[.pointer (some ⟨b, 0, none⟩), .slice none 0 0, .int .i64 ev] w0 fun e w' => e = .returned (.tuple #[]) ∧ NowV w b fp room (stepW room s ([], ev)).1 (stepW room s ([], ev)).2 w' := fun w0 ev hf he =>
    (vlay_any b fp room s none 0 0 [] ev w0 (HW.out.kept hf (by simp)) hr0 hr1 hz (by simp) rfl (by simp) (Rd.nil _ _) (by simp [blk]) (by simp)).mono fun _ _ h => ⟨h.1, h.2.after hf⟩
  have HEE := hid HE
  clear HE
  by_cases h1 : to < s.1.length
  · rw [show padF room s.1.length to = ([], 11) by unfold padF; rw [if_pos h1]]
    go_enter Try.func42, Try.ntmps42
    go_wp2_with fail
    refine (HEE.out _ 11 (Frm.refl _ _) (by decide)).mono ?_
    rintro e w' ⟨rfl, hq⟩
    have HQ := hid hq
    clear hq
    go_wp2_with fail
    go_returns
    exact ⟨rfl, HQ.out⟩
  · by_cases h2 : room < to
    · rw [show padF room s.1.length to = ([], 12) by unfold padF; rw [if_neg h1, if_pos h2]]
      go_enter Try.func42, Try.ntmps42
      go_wp2_with fail
      refine (HEE.out _ 12 (Frm.refl _ _) (by decide)).mono ?_
      rintro e w' ⟨rfl, hq⟩
      have HQ := hid hq
      clear hq
      go_wp2_with fail
      go_returns
      exact ⟨rfl, HQ.out⟩
    · obtain ⟨m, hm⟩ : ∃ m : Nat, (to - s.1.length).toNat = m := ⟨_, rfl⟩
      rw [show padF room s.1.length to = (List.replicate (to - s.1.length).toNat 0, 0) by unfold padF; rw [if_neg h1, if_neg h2], hm]
      obtain rfl : to = (s.1.length : Int) + m := by omega
      clear hm
      have hmk := run_make_row' (P := Try.prog) 30 5 (.int .u8 0) 1 Try.underlying30 infoE rfl .i64 .i64 m (by omega) (by omega)
      rw [show ((m : Nat) : Int) = (s.1.length : Int) + m - s.1.length by omega] at hmk
      have hlay : ∀ w0 : World, Frm [] w w0 → Calls Try.prog 83 #[.pointer (some ⟨b, 0, none⟩), .slice (some ⟨w0.heap.size, 0, none⟩) m m, .int .i64 0] (w0.alloc (.cells (madeCells #[Value.int .u8 0] m) 5)) fun e w' => e = .returned (.tuple #[]) ∧ NowV w b fp room (stepW room s (List.replicate m 0, 0)).1 (stepW room s (List.replicate m 0, 0)).2 w' := by
        intro w0 hf
        have hF := hf.alloc (.cells (madeCells #[Value.int .u8 0] m) 5)
        have ho := own_of_block (E := 5) (w := w0.alloc (.cells (madeCells #[Value.int .u8 0] m) 5)) (g := w0.heap.size) (zs := List.replicate m 0) (by rw [heap_alloc_new]; congr 2; apply Array.ext'; simp [toList_madeCells_one, bv]) (by rw [List.length_replicate]; unfold maxLen; omega)
        exact (vlay_any b fp room s (some ⟨w0.heap.size, 0, none⟩) m m (List.replicate m 0) 0 _ (HW.out.kept hF (by simp)) hr0 hr1 hz (by rw [List.length_replicate]; omega) (by simp) (by simp) ho.rd (by simp [blk]; have := hf.size; omega) (by simp)).mono fun _ _ h => ⟨h.1, h.2.after hF⟩
      have HLAY := hid hlay
      clear hlay
      go_enter Try.func42, Try.ntmps42
      go_wp2_with fail
      refine (HLAY.out _ (Frm.refl _ _)).mono ?_
      rintro e w' ⟨rfl, hq⟩
      have HQ := hid hq
      clear hq
      go_wp2_with fail
      go_returns
      exact ⟨rfl, HQ.out⟩
set_option maxHeartbeats 800000 in
theorem doneV_err (b : Nat) (fp : List Nat) (room err : Int) (zs : List Int) (w : World) (hw : IsV w b fp room zs err) (he : err ≠ 0) :
    Calls Try.prog 15 #[.pointer (some ⟨b, 0, none⟩)] w fun e w' => e = .returned (.tuple #[.slice none 0 0, .int .i64 err]) ∧ Frm [] w w' := by
  obtain ⟨p, c, hlt, hfp, hnb, hown, c0, c1, c2, f1, f2, hh⟩ := hw.cells
  have hb : (err != 0) = true := by simpa using he
  clear hw hfp hown hnb hh he
  go_enter Try.func15, Try.ntmps15
  go_wp2_with fail
  go_quiet (fail)
  go_wp2_with fail
  go_returns
  exact ⟨rfl, (Frm.refl _ _).drewN _⟩
set_option maxHeartbeats 800000 in
theorem doneV_ok (b : Nat) (fp : List Nat) (room : Int) (zs : List Int) (w : World) (hw : IsV w b fp room zs 0) (hr1 : room ≤ 2147483647) (hz : (zs.length : Int) ≤ room) :
    Calls Try.prog 15 #[.pointer (some ⟨b, 0, none⟩)] w fun e w' => ∃ p c, e = .returned (.tuple #[.slice p zs.length c, .int .i64 0]) ∧ Own w' 5 (.slice p zs.length c) zs ∧ Frm [] w w' ∧ ∀ k ∈ blk p, w.heap.size ≤ k := by
  obtain ⟨p, c, hlt, hfp, hnb, hown, c0, c1, c2, f1, f2, hh⟩ := hw.cells
  have HO := hid hown
  clear hw hfp hnb hh hown
  go_enter Try.func15, Try.ntmps15
  have HNC : Hid (zs = [] → p = none → c = 0) := fun _ h => by
    obtain ⟨p4, c4, he, _, hh, _⟩ := HO.out.shape
    simp only [Value.slice.injEq, true_and] at he
    obtain ⟨rfl, rfl⟩ := he
    exact (hh h).2
  go_wp2_with (at_builtin; refine wpList_appB rfl _ _ 30 rfl 5 Try.underlying30 infoE none 0 0 [] rfl rfl (Own.nil _ _) p zs.length c zs rfl rfl HNC.out HO.out.rd (by simp; omega) ?_)
  intro xs p2 c2' w2 hxs ho hf hfr
  have hx : xs = zs := by simpa using hxs.out
  rw [hx] at ho ⊢
  clear hxs
  go_wp2_with fail
  go_returns
  exact ⟨p2, c2', rfl, ho.out, hf.out.mono (by simp [blk]), fun k hk => by rcases hfr.out k hk with h | h; simp [blk] at h; exact h⟩
end Go.Proofs.Ytekkdebcklinhaa
