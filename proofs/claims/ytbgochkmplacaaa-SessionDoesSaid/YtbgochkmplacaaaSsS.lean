/- A session's table: Load. -/
import Derived.Test.YtbgochkmplacaaaSsR
namespace Go.Proofs.Ytbgochkmplacaaa
open Go.RowKit Go.Lib
set_option maxRecDepth 100000

/-- Each place that is kept is that of its session. -/
def Tab (vs : List Rp) : Prop := vs.length = 9 ∧ ∀ i : Nat, i < 9 → 0 < (vs.getD i rp0).x.id → (vs.getD i rp0).x.s = (i : Int) ∧ 1 ≤ i
theorem getD_zeros (i : Nat) : zeros9.getD i rp0 = rp0 := by
  rw [List.getD_eq_getElem?_getD]
  unfold zeros9
  rw [List.getElem?_replicate]
  split <;> rfl
theorem tab_zeros : Tab zeros9 := ⟨rfl, fun i _ h => by rw [getD_zeros] at h; exact absurd h (by simp [rp0, rs0])⟩
theorem Tab.set {vs : List Rp} (h : Tab vs) {i : Nat} (hi : 1 ≤ i ∧ i < 9) {v : Rp} (hv : v.x.s = (i : Int)) : Tab (vs.set i v) := ⟨by rw [List.length_set]; exact h.1, fun j hj hp => by
  rw [set_at h.1 hi.2] at hp ⊢
  by_cases e : i = j
  · subst e; rw [if_pos rfl] at hp ⊢; exact ⟨hv, hi.1⟩
  · rw [if_neg e] at hp ⊢; exact h.2 j hj hp⟩
theorem kept24_none : ∀ l : List Rp, (∀ v ∈ l, ¬ 0 < v.x.id) → kept24 l = []
  | [], _ => rfl
  | v :: l, h => by
    have := kept24_none l (fun u hu => h u (List.mem_cons_of_mem _ hu))
    rw [show v :: l = [v] ++ l from rfl, kept24_app, this]
    simp [kept24, h v List.mem_cons_self]
theorem getD_mem {vs : List Rp} {v : Rp} (h : v ∈ vs) : ∃ i, i < vs.length ∧ vs.getD i rp0 = v := by
  obtain ⟨i, hi⟩ := List.getElem?_of_mem h
  exact ⟨i, (List.getElem?_eq_some_iff.1 hi).1, by simp [hi]⟩
/-- A reply behind all that are kept. -/
theorem kept24_last {vs : List Rp} {i : Nat} {v : Rp} (hl : vs.length = 9) (hi : i < 9) (hz : ∀ j : Nat, j < 9 → 0 < (vs.getD j rp0).x.id → j < i) (hv : 0 < v.x.id) : kept24 (vs.set i v) = kept24 vs ++ [v.x] := by
  have hd : ∀ k, i ≤ k → kept24 (vs.drop k) = [] := fun k hk => kept24_none _ (fun u hu hp => by
    obtain ⟨j, hj, rfl⟩ := getD_mem hu
    rw [List.length_drop, hl] at hj
    have e : (vs.drop k).getD j rp0 = vs.getD (k + j) rp0 := by simp [List.getD_eq_getElem?_getD, List.getElem?_drop]
    rw [e] at hp
    have := hz (k + j) (by omega) hp
    omega)
  rw [List.set_eq_take_append_cons_drop, if_pos (by omega), kept24_app, show v :: vs.drop (i + 1) = [v] ++ vs.drop (i + 1) from rfl, kept24_app, hd _ (by omega), List.append_nil]
  conv => rhs; rw [← List.take_append_drop i vs, kept24_app, hd i (by omega), List.append_nil]
  congr 1
  simp [kept24, hv]
/-- Whether such replies make a table. -/
def okL (m : Int) : List Rs → Bool
  | [] => true
  | x :: l => decide (m < x.s ∧ 1 ≤ x.s ∧ x.s ≤ 8 ∧ 1 ≤ x.id ∧ x.id ≤ 1073741824) && okL x.s l
def LoadP (w : World) (xs : List Rs) (e : Ending) (w' : World) : Prop :=
  Frm [] w w' ∧ ((okL 0 xs = false ∧ e = .returned (.tuple #[.pointer none, .int .i64 240])) ∨ (okL 0 xs = true ∧ ∃ b pl vs, e = .returned (.tuple #[.pointer (some ⟨b, 0, none⟩), .int .i64 0]) ∧ TS w' b pl vs 0 0 0 ∧ kept24 vs = xs ∧ Tab vs ∧ (∀ k ∈ foot24 b pl, w.heap.size ≤ k) ∧ ∀ v ∈ vs, ∀ k ∈ v.B, w.heap.size ≤ k))
set_option maxHeartbeats 12800000 in
theorem load24_any (p : Option Addr) (n c : Nat) (ls : List Rp) (w : World) (hr : Rv w p (rowsR ls)) (hn : ls.length = n) (hb : n ≤ 4611686018427387904) (hk : ∀ v ∈ ls, RpOk w v) :
    Calls Try.prog 54 #[.slice p n c] w (LoadP w (ls.map Rp.x)) := by
  obtain ⟨xs, hxs⟩ : ∃ q, ls.map Rp.x = q := ⟨_, rfl⟩
  rw [hxs]
  obtain ⟨PO, hPO⟩ : ∃ PO : Ending → World → Prop, LoadP w xs = PO := ⟨_, rfl⟩
  rw [hPO]
  have HP1 : Hid (∀ w', okL 0 xs = false → Frm [] w w' → PO (.returned (.tuple #[.pointer none, .int .i64 240])) w') := hid (fun w' h1 h2 => by rw [← hPO]; exact ⟨h2, Or.inl ⟨h1, rfl⟩⟩)
  have HP2 : Hid (∀ b pl vs w', okL 0 xs = true → Frm [] w w' → TS w' b pl vs 0 0 0 → kept24 vs = xs → Tab vs → (∀ k ∈ foot24 b pl, w.heap.size ≤ k) → (∀ v ∈ vs, ∀ k ∈ v.B, w.heap.size ≤ k) → PO (.returned (.tuple #[.pointer (some ⟨b, 0, none⟩), .int .i64 0])) w') := hid (fun b pl vs w' h1 h2 h3 h4 h5 h6 h7 => by rw [← hPO]; exact ⟨h2, Or.inr ⟨h1, b, pl, vs, rfl, h3, h4, h5, h6, h7⟩⟩)
  have HRV := hid (fun W (hf : Frm [] w W) => hr.kept hf (by simp))
  have HOK := hid (fun v hv W (hf : Frm [] w W) => (hk v hv).kept hf (by simp))
  have HN := hid hn
  have HXS := hid hxs
  have HNW := hid (new24_any w)
  clear hr hk hn hPO hxs
  go_enter Try.func54, Try.ntmps54
  go_wp2_with fail
  refine HNW.out.mono ?_
  rintro e w1 ⟨b, rfl, ht1, hf1, hb1⟩
  have HT1 := hid ht1
  have HF1 := hid hf1
  have HB1 := hid hb1
  clear ht1 hf1 hb1 HNW
  go_wp2_with fail
  go_loopw [11, 5] (fun i s5 wr => ∃ (t : Nat) (la f : Int) (pl : Option Nat) (vs : List Rp), t ≤ n ∧ (0 ≤ la ∧ la ≤ 8) ∧ i = .int .i64 (t : Int) ∧ s5 = .int .i64 la ∧ Hid (TS wr b pl vs f 0 0 ∧ Frm [] w wr ∧ okL 0 xs = okL la (xs.drop t) ∧ kept24 vs = xs.take t ∧ Tab vs ∧ (∀ i : Nat, i < 9 → 0 < (vs.getD i rp0).x.id → (i : Int) ≤ la) ∧ (∀ k ∈ foot24 b pl, w.heap.size ≤ k) ∧ ∀ v ∈ vs, ∀ k ∈ v.B, w.heap.size ≤ k)) (fun i _ _ => n - (intOf i).toNat)
  case atStart => exact ⟨0, 0, 0, none, zeros9, by omega, by omega, rfl, rfl, hid ⟨HT1.out, HF1.out, rfl, kept24_none _ (fun v hv => by
    have : v = rp0 := by unfold zeros9 at hv; exact (List.mem_replicate.1 hv).2
    subst this; simp [rp0, rs0]), tab_zeros, fun i _ h => by rw [getD_zeros] at h; exact absurd h (by simp [rp0, rs0]), fun k hk => by simp [foot24] at hk; subst hk; exact HB1.out, fun v hv => by
    have : v = rp0 := by unfold zeros9 at hv; exact (List.mem_replicate.1 hv).2
    subst this; simp [Rp.B, rp0, blk]⟩⟩
  case round =>
    clear HT1 HF1
    obtain ⟨t, la, f, pl, vs, ht, hla, rfl, rfl, hin⟩ := hrel
    obtain ⟨hl0, hl8⟩ := hla
    by_cases hlt : t < n
    · have t1 : (t : Int) < (n : Int) := by omega
      obtain ⟨v, hv⟩ : ∃ v, ls[t]? = some v := ⟨_, List.getElem?_eq_getElem (by rw [HN.out]; exact hlt)⟩
      have HXT : Hid (xs[t]? = some v.x) := hid (by rw [← HXS.out, List.getElem?_map, hv]; rfl)
      have HVO := hid (HOK.out v (List.mem_of_getElem? hv))
      have hrr := HRV.out wr hin.out.2.1
      rcases hrr with h0 | ⟨g, o, rfl, hcs⟩
      · exact absurd (rowsR_get ls t v hv 0 _ rfl) (by rw [h0]; simp)
      obtain ⟨⟨s, id, er, nu, tx, ss, ds⟩, lp, lc, dp, dc⟩ := v
      have q0 : wr.cell? ⟨g, o + t * 7, none⟩ = some (.int .i64 s) := by have h := hcs (t * 7 + 0) _ (rowsR_get ls t _ hv 0 _ rfl); simpa [Nat.add_assoc] using h
      have q1 : wr.cell? ⟨g, o + t * 7 + 1, none⟩ = some (.int .i64 id) := by have h := hcs (t * 7 + 1) _ (rowsR_get ls t _ hv 1 _ rfl); simpa [Nat.add_assoc] using h
      have q2 : wr.cell? ⟨g, o + t * 7 + 2, none⟩ = some (.int .i64 er) := by have h := hcs (t * 7 + 2) _ (rowsR_get ls t _ hv 2 _ rfl); simpa [Nat.add_assoc] using h
      have q3 : wr.cell? ⟨g, o + t * 7 + 3, none⟩ = some (.int .i64 nu) := by have h := hcs (t * 7 + 3) _ (rowsR_get ls t _ hv 3 _ rfl); simpa [Nat.add_assoc] using h
      have q4 : wr.cell? ⟨g, o + t * 7 + 4, none⟩ = some (.string tx) := by have h := hcs (t * 7 + 4) _ (rowsR_get ls t _ hv 4 _ rfl); simpa [Nat.add_assoc] using h
      have q5 : wr.cell? ⟨g, o + t * 7 + 5, none⟩ = some (.slice lp ss.length lc) := by have h := hcs (t * 7 + 5) _ (rowsR_get ls t _ hv 5 _ rfl); simpa [Nat.add_assoc] using h
      have q6 : wr.cell? ⟨g, o + t * 7 + 6, none⟩ = some (.slice dp ds.length dc) := by have h := hcs (t * 7 + 6) _ (rowsR_get ls t _ hv 6 _ rfl); simpa [Nat.add_assoc] using h
      obtain ⟨bx, hbx⟩ : ∃ q, wr.heap.size = q := ⟨_, rfl⟩
      obtain ⟨w3, hw3⟩ : ∃ q, wr.alloc (.cells #[.int .i64 s, .int .i64 id, .int .i64 er, .int .i64 nu, .string tx, .slice lp ss.length lc, .slice dp ds.length dc] 61) = q := ⟨_, rfl⟩
      have h3 : Frm [] wr w3 := by rw [← hw3]; exact (Frm.refl _ _).alloc _
      have hx3 : w3.heap[bx]? = some (.cells #[.int .i64 s, .int .i64 id, .int .i64 er, .int .i64 nu, .string tx, .slice lp ss.length lc, .slice dp ds.length dc] 61 (0, 0)) := by rw [← hw3]; exact heap_alloc_to _ _ hbx
      have x0 : w3.cell? ⟨bx, 0, none⟩ = some (.int .i64 s) := by rw [cell_of_row _ _ _ _ _ _ hx3]; rfl
      have x1 : w3.cell? ⟨bx, 1, none⟩ = some (.int .i64 id) := by rw [cell_of_row _ _ _ _ _ _ hx3]; rfl
      have x2 : w3.cell? ⟨bx, 2, none⟩ = some (.int .i64 er) := by rw [cell_of_row _ _ _ _ _ _ hx3]; rfl
      have x3 : w3.cell? ⟨bx, 3, none⟩ = some (.int .i64 nu) := by rw [cell_of_row _ _ _ _ _ _ hx3]; rfl
      have x4 : w3.cell? ⟨bx, 4, none⟩ = some (.string tx) := by rw [cell_of_row _ _ _ _ _ _ hx3]; rfl
      have x5 : w3.cell? ⟨bx, 5, none⟩ = some (.slice lp ss.length lc) := by rw [cell_of_row _ _ _ _ _ _ hx3]; rfl
      have x6 : w3.cell? ⟨bx, 6, none⟩ = some (.slice dp ds.length dc) := by rw [cell_of_row _ _ _ _ _ _ hx3]; rfl
      have hT3 := hin.out.1.k0 h3
      have hF3 := hin.out.2.1.trans h3 (by simp)
      have HKE := hid (keep_any b pl vs f 0 0 _ w3 hT3 (fun W hf => HVO.out W (hF3.trans hf (fun k hk hkl => by have := hin.out.2.2.2.2.2.2.1 k hk; omega))))
      unfold Rp.agg at HKE
      simp only at HKE
      have HX3 := hid hx3
      have HT3 := hid hT3
      have HF3 := hid hF3
      have HIN := hid hin.out.2.2
      have HLW : Hid (∀ k ∈ foot24 b pl, k < bx) := hid (fun k hk => by have := hin.out.1.low k hk; omega)
      have HBX := hid hbx
      have HW3 := hid hw3
      have HDR : Hid (xs.drop t = ⟨s, id, er, nu, tx, ss, ds⟩ :: xs.drop (t + 1)) := hid (by
        rw [List.drop_eq_getElem_cons (List.getElem?_eq_some_iff.1 HXT.out).1, (List.getElem?_eq_some_iff.1 HXT.out).2])
      clear hcs hbx hw3 h3 hx3 hT3 hF3 hin hv
      go_upto_region 6 with fail
      rw [HBX.out, HW3.out]
      clear HW3 q0 q1 q2 q3 q4 q5 q6
      by_cases hle : s ≤ la
      · have HBAD : Hid (okL 0 xs = false) := hid (by
          rw [HIN.out.1, HDR.out, okL, Bool.and_eq_false_iff]
          exact Or.inl (by simp only [decide_eq_false_iff_not]; omega))
        go_wp2_with fail
        first | go_returns | skip
        exact HP1.out _ HBAD.out HF3.out
      · go_wp2_with fail
        refine HKE.out.mono ?_
        rintro e w4 ⟨p4, vs4, rfl, ht4, hf4, hx4, hc4, hd4⟩
        obtain ⟨C, hC⟩ : ∃ q, chk24 vs s id 1 = q := ⟨_, rfl⟩
        rw [hC] at ht4 hc4 hd4 ⊢
        have HC := hid hC
        have HT4 := hid ht4
        have HF4 := hid hf4
        have HX4 := hid hx4
        have HC4 := hid hc4
        have HD4 := hid hd4
        have hnb : ∀ k ∈ foot24 b pl, w.heap.size ≤ k := HIN.out.2.2.2.2.1
        have HF04 : Hid (Frm [] w w4) := hid (HF3.out.trans hf4 (fun k hk hkl => by have := hnb k hk; omega))
        have HX34 : Hid (w4.cell? ⟨bx, 0, none⟩ = some (.int .i64 s)) := hid (by
          have hr := hf4.heap HX3.out (fun hm => by have h1 := HLW.out bx hm; omega)
          rw [cell_of_row _ _ _ _ _ _ hr]; rfl)
        clear hC ht4 hf4 hx4 hc4 hd4 hnb x0 x1 x2 x3 x4 x5 x6
        by_cases hC0 : C = 0
        · subst hC0
          have x0 := HX34.out
          obtain ⟨⟨hs1, hs8, hi1, hi2⟩, hlast⟩ := chk24_zero HC.out
          have HIN4 : Hid (∃ (f' : Int) (vs4 : List Rp), TS w4 b p4 vs4 f' 0 0 ∧ Frm [] w w4 ∧ okL 0 xs = okL s (xs.drop (t + 1)) ∧ kept24 vs4 = xs.take (t + 1) ∧ Tab vs4 ∧ (∀ i : Nat, i < 9 → 0 < (vs4.getD i rp0).x.id → (i : Int) ≤ s) ∧ (∀ k ∈ foot24 b p4, w.heap.size ≤ k) ∧ ∀ v ∈ vs4, ∀ k ∈ v.B, w.heap.size ≤ k) := hid (by
            obtain ⟨i1, i2, i3, i4, i5, i6⟩ := HIN.out
            obtain ⟨v', hv1, hv2, hv3⟩ := HD4.out rfl
            have hv2 : vs4 = vs.set s.toNat v' := hv2
            have hvs : v'.x.s = s := by rw [hv1]
            have hvi : v'.x.id = id := by rw [hv1]
            have hz3 := HF3.out.size
            have ht4 := HT4.out
            rw [if_pos rfl, if_neg (by simp)] at ht4
            refine ⟨_, vs4, ht4, HF04.out, ?_, ?_, ?_, ?_, ?_, ?_⟩
            · rw [i1, HDR.out, okL, decide_eq_true (by simp only; omega), Bool.true_and]
            · rw [hv2, kept24_last i3.1 (by omega) (fun j hj hp => by have := i4 j hj hp; omega) (by omega), i2, hv1, List.take_add_one, HXT.out]; rfl
            · rw [hv2]; exact i3.set (by omega) (by omega)
            · intro j hj hp
              rw [hv2, set_at i3.1 (by omega)] at hp
              by_cases e : s.toNat = j
              · omega
              · rw [if_neg e] at hp; have := i4 j hj hp; omega
            · intro k hk
              rcases HX4.out.foot k hk with h | h
              · exact i5 k h
              · omega
            · intro v hv k hk
              rw [hv2] at hv
              rcases List.mem_or_eq_of_mem_set hv with h | h
              · exact i6 v h k hk
              · subst h; have := hv3 k hk; omega)
          go_wp2_with fail
          go_roundw
          case rel =>
            obtain ⟨f', vs5, hz⟩ := HIN4.out
            exact ⟨t + 1, s, f', p4, vs5, by omega, by omega, by go_num, by go_num, hid hz⟩
          case measure => first | (simp [intOf]; done) | (simp [intOf]; omega)
        · have hb : (C != 0) = true := by simpa using hC0
          have HBAD : Hid (okL 0 xs = false) := hid (by
            obtain ⟨i1, i2, i3, i4, i5, i6⟩ := HIN.out
            rw [i1, HDR.out, okL, Bool.and_eq_false_iff]
            refine Or.inl ?_
            simp only [decide_eq_false_iff_not]
            rintro ⟨h1, h2, h3, h4, h5⟩
            have hid0 : ¬ 0 < (vs.getD s.toNat rp0).x.id := fun hp => by have := i4 s.toNat (by omega) hp; omega
            have hc := HC.out
            have hl : last24 vs s = (vs.getD s.toNat rp0).x.id := by unfold last24; rw [if_pos ⟨h2, h3⟩]
            unfold chk24 at hc
            rw [hl, if_neg (by simp only [Classical.not_not]; omega), if_neg (by omega)] at hc
            exact hC0 hc.symm)
          go_wp2_with fail
          first | go_returns | skip
          exact HP1.out _ HBAD.out HF04.out
    · obtain rfl : t = n := by omega
      obtain ⟨c4, c5, c6, cz⟩ := hin.out.1.cells
      have HST := hid (storeI ⟨b, 4, none⟩ f 0 wr c4 (cz 4))
      obtain ⟨t5, f5⟩ := hin.out.1.fresh 0
      have HT5 := hid t5
      have HF5 := hid f5
      have HLEN : Hid (xs.length = t) := hid (by rw [← HXS.out, List.length_map, HN.out])
      clear c4 c5 c6 cz t5 f5
      go_wp2_with fail
      refine HST.out.mono ?_
      rintro e w5 ⟨rfl, rfl⟩
      go_wp2_with fail
      first | go_returns | skip
      obtain ⟨h1, h2, h3, h4, h5, h6, h7, h8⟩ := hin.out
      exact HP2.out b pl vs _ (by rw [h3, List.drop_of_length_le (by rw [HLEN.out]; exact Nat.le_refl _)]; rfl) (h2.trans HF5.out (fun k hk hkl => by rw [List.mem_singleton] at hk; have := h7 b (by simp [foot24]); omega)) HT5.out (by rw [h4, List.take_of_length_le (by rw [HLEN.out]; exact Nat.le_refl _)]) h5 h7 h8
end Go.Proofs.Ytbgochkmplacaaa
