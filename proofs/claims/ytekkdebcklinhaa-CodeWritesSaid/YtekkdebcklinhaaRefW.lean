/- Contracts of the document's writer (layer 1). -/
import Derived.Test.YtekkdebcklinhaaCodeM
namespace Go.Proofs.Ytekkdebcklinhaa
open Go.RowKit
set_option maxRecDepth 100000

/-- A plain writer at block b: its room, what was laid down, its error; fp: the blocks that are its own. -/
def IsV (w : World) (b : Nat) (fp : List Nat) (room : Int) (zs : List Int) (err : Int) : Prop :=
  ∃ p c, w.heap[b]? = some (.cells #[.int .i64 room, .slice p zs.length c, .int .i64 err] 77 (0, 0)) ∧ Own w 5 (.slice p zs.length c) zs ∧ fp = b :: blk p ∧ b ∉ blk p

theorem IsV.kept {w w' : World} {b : Nat} {fp S : List Nat} {room err : Int} {zs : List Int} (h : IsV w b fp room zs err) (hf : Frm S w w') (hn : ∀ k ∈ fp, k ∉ S) : IsV w' b fp room zs err := by
  obtain ⟨p, c, h1, h2, rfl, h4⟩ := h
  exact ⟨p, c, hf.heap h1 (hn b (by simp)), h2.kept hf (fun k hk => hn k (by rw [own_blk] at hk; simp [hk])), rfl, h4⟩
theorem IsV.lt {w : World} {b : Nat} {fp : List Nat} {room err : Int} {zs : List Int} (h : IsV w b fp room zs err) : ∀ k ∈ fp, k < w.heap.size := by
  obtain ⟨p, c, h1, h2, rfl, h4⟩ := h
  intro k hk
  simp at hk
  rcases hk with rfl | hk
  · exact lt_of_heap h1
  · exact (h2.lt k (by cases p <;> simp_all [blk, Value.ownBlock])).2

theorem IsV.cells {w : World} {b : Nat} {fp : List Nat} {room err : Int} {zs : List Int} (h : IsV w b fp room zs err) : ∃ p c, b < w.heap.size ∧ fp = b :: blk p ∧ b ∉ blk p ∧ Own w 5 (.slice p zs.length c) zs ∧
    w.cell? ⟨b, 0, none⟩ = some (.int .i64 room) ∧ w.cell? ⟨b, 1, none⟩ = some (.slice p zs.length c) ∧ w.cell? ⟨b, 2, none⟩ = some (.int .i64 err) ∧
    w.frozen? ⟨b, 1, none⟩ = false ∧ w.frozen? ⟨b, 2, none⟩ = false ∧ Hid (w.heap[b]? = some (.cells #[.int .i64 room, .slice p zs.length c, .int .i64 err] 77 (0, 0))) := by
  obtain ⟨p, c, h1, h2, h3, h4⟩ := h
  exact ⟨p, c, lt_of_heap h1, h3, h4, h2, by rw [cell_of_row w _ _ _ _ _ h1]; rfl, by rw [cell_of_row w _ _ _ _ _ h1]; rfl, by rw [cell_of_row w _ _ _ _ _ h1]; rfl, frozen_of_row w b 1 _ _ h1, frozen_of_row w b 2 _ _ h1, h1⟩
/-- What a writer is behind a call. -/
def NowV (w : World) (b : Nat) (fp : List Nat) (room : Int) (zs : List Int) (err : Int) (w' : World) : Prop :=
  ∃ fp', IsV w' b fp' room zs err ∧ Frm fp w w' ∧ ∀ k ∈ fp', k ∈ fp ∨ w.heap.size ≤ k
theorem NowV.same {w w' : World} {b : Nat} {fp : List Nat} {room err : Int} {zs : List Int} (h : IsV w b fp room zs err) (hf : Frm [] w w') : NowV w b fp room zs err w' :=
  ⟨fp, h.kept hf (by simp), hf.mono (by simp), fun _ hk => Or.inl hk⟩
theorem NowV.err {w w1 : World} {b : Nat} {fp : List Nat} {room err : Int} {zs : List Int} (h : IsV w b fp room zs err) (hf : Frm [] w w1) (ev : Int) : NowV w b fp room zs ev (w1.setCell ⟨b, 2, none⟩ (.int .i64 ev)) := by
  obtain ⟨p, c, h1, h2, rfl, h4⟩ := h
  have g := hf.heap h1 (by simp)
  have hF : Frm [b] w1 (w1.setCell ⟨b, 2, none⟩ (.int .i64 ev)) := (Frm.refl _ _).setCell _ _ (by simp)
  refine ⟨_, ⟨p, c, ?_, (h2.kept hf (by simp)).kept hF (by rw [own_blk]; intro k hk; simp; rintro rfl; exact h4 hk), rfl, h4⟩, (hf.mono (by simp)).trans hF (by simp), fun _ hk => Or.inl hk⟩
  rw [heap_setCell_same w1 b 2 _ _ _ g]; rfl

theorem NowV.app {w w1 w2 : World} {b : Nat} {fp : List Nat} {room : Int} {zs xs : List Int} {p p2 : Option Addr} {c c2 : Nat} (hh : w.heap[b]? = some (.cells #[.int .i64 room, .slice p zs.length c, .int .i64 0] 77 (0, 0)))
    (hfp : fp = b :: blk p) (hnb : b ∉ blk p) (hF : Frm [] w w1) (ho : Own w2 5 (.slice p2 xs.length c2) xs) (hF2 : Frm (blk p) w1 w2) (hfr : ∀ k ∈ blk p2, k ∈ blk p ∨ w1.heap.size ≤ k) :
    NowV w b fp room xs 0 (w2.setCell ⟨b, 1, none⟩ (.slice p2 xs.length c2)) := by
  subst hfp
  have hb := lt_of_heap hh
  have hb1 := Nat.lt_of_lt_of_le hb hF.size
  have g := hF2.heap (hF.heap hh (by simp)) hnb
  have hnb2 : b ∉ blk p2 := fun h => by rcases hfr b h with h | h; exact hnb h; omega
  have hF3 : Frm [b] w2 (w2.setCell ⟨b, 1, none⟩ (.slice p2 xs.length c2)) := (Frm.refl _ _).setCell _ _ (by simp)
  refine ⟨b :: blk p2, ⟨p2, c2, ?_, ho.kept hF3 (by rw [own_blk]; intro k hk; simp; rintro rfl; exact hnb2 hk), rfl, hnb2⟩, ?_, ?_⟩
  · rw [heap_setCell_same w2 b 1 _ _ _ g]; rfl
  · exact ((hF.mono (T := b :: blk p) (by simp)).trans hF2 (by intro i hi _; simp [hi])).trans hF3 (by simp)
  · intro k hk
    simp at hk ⊢
    rcases hk with rfl | hk
    · exact Or.inl (Or.inl rfl)
    · rcases hfr k hk with h | h
      · exact Or.inl (Or.inr h)
      · exact Or.inr (Nat.le_trans hF.size h)
theorem NowV.after {w w0 w' : World} {b : Nat} {fp : List Nat} {room err : Int} {zs : List Int} (hf : Frm [] w w0) (h : NowV w0 b fp room zs err w') : NowV w b fp room zs err w' := by
  obtain ⟨fp', h1, h2, h3⟩ := h
  exact ⟨fp', h1, (hf.mono (by simp)).trans h2 (fun i hi _ => hi), fun k hk => (h3 k hk).imp id (fun h => Nat.le_trans hf.size h)⟩

set_option maxHeartbeats 400000 in
theorem newV_any (a : Int) (w : World) :
    Calls Try.prog 12 #[.int .i64 a] w fun e w' => e = .returned (.pointer (some ⟨w.heap.size, 0, none⟩)) ∧ IsV w' w.heap.size [w.heap.size] (if a < 0 then 0 else a) [] 0 ∧ Frm [] w w' := by
  have fin : ∀ r : Int, IsV (w.alloc (.cells #[.int .i64 r, .slice none 0 0, .int .i64 0] 77)) w.heap.size [w.heap.size] r [] 0 := fun r =>
    ⟨none, 0, heap_alloc_new _ _, Own.nil _ _, rfl, by simp [blk]⟩
  by_cases h0 : a < 0
  · rw [if_pos h0]
    go_enter Try.func12, Try.ntmps12
    go_wp2
    go_ret
    exact ⟨rfl, fin 0, (Frm.refl _ _).alloc _⟩
  · rw [if_neg h0]
    go_enter Try.func12, Try.ntmps12
    go_wp2
    go_ret
    exact ⟨rfl, fin a, (Frm.refl _ _).alloc _⟩
set_option maxHeartbeats 400000 in
theorem form_any (n : Int) (k : Nat) (hn : 0 ≤ n) (hn2 : n < 18446744073709551616) (hk : k ≤ 8) (w : World) :
    Calls Try.prog 84 #[.int .u64 n, .int .i64 k] w fun e w' => ∃ p c ok, e = .returned (.tuple #[.slice p k c, .bool ok]) ∧ Own w' 5 (.slice p k c) (le n k) ∧ (ok = true ↔ n / 2 ^ (8 * k) = 0) ∧ Frm [] w w' ∧ ∀ i ∈ blk p, w.heap.size ≤ i := by
  go_enter Try.func84, Try.ntmps84
  go_wp2_with fail
  go_loopw [0, 6, 7] (fun v b i wr => ∃ (j : Nat) (p : Option Addr) (c : Nat), j ≤ k ∧ i = .int .i64 j ∧ v = .int .u64 (n / 2 ^ (8 * j)) ∧ b = .slice p j c ∧ Hid (Own wr 5 (.slice p j c) (le n j)) ∧ Hid (Frm [] w wr) ∧ Hid (∀ i ∈ blk p, w.heap.size ≤ i)) (fun _ _ i _ => k - (intOf i).toNat)
  case atStart => exact ⟨0, none, 0, Nat.zero_le _, rfl, by simp, rfl, Own.nil _ _, Frm.refl _ _, by simp [Hid, blk]⟩
  case round =>
    obtain ⟨j, p, c, hj, rfl, rfl, rfl, ho, hf, hfr⟩ := hrel
    have hq : 0 ≤ n / 2 ^ (8 * j) ∧ n / 2 ^ (8 * j) < 18446744073709551616 := by
      refine ⟨Int.ediv_nonneg hn (Int.pow_nonneg (by decide)), ?_⟩
      exact Int.lt_of_le_of_lt (Int.ediv_le_self _ hn) hn2
    have hsucc : n / 2 ^ (8 * (j + 1)) = n / 2 ^ (8 * j) / 256 := by
      rw [Int.ediv_ediv_of_nonneg (Int.pow_nonneg (by decide)), Nat.mul_add, Int.pow_add]; rfl
    have HS := hid hsucc
    have hle := le_succ n j
    have HLE := hid hle
    have HL := hid (le_length n j)
    clear hsucc hle
    obtain ⟨q, hqq⟩ : ∃ q, n / 2 ^ (8 * j) = q := ⟨_, rfl⟩
    rw [hqq] at hq HS HLE ⊢
    have HQ := hid hqq
    clear hqq
    obtain ⟨hq0, hq1⟩ := hq
    by_cases hlt : j < k
    · have hrd : Rd (wr.alloc (.cells #[.int .u8 (q % 256)] 5)) (some ⟨wr.heap.size, 0, none⟩) [q % 256] :=
        (own_of_block (E := 5) (zs := [q % 256]) (heap_alloc_new wr _) (by simp [maxLen])).rd
      have HRD := hid hrd
      have HO := hid (ho.out.kept ((Frm.refl [] wr).alloc (.cells #[.int .u8 (q % 256)] 5)) (by simp))
      clear hrd
      go_wp2_with (at_builtin; refine wpList_appB rfl _ _ 30 rfl 5 Try.underlying30 infoE p _ c (le n j) rfl HL.out.symm (by rw [HL.out]; exact HO.out) (some ⟨wr.heap.size, 0, none⟩) 1 1 [q % 256] rfl rfl (by simp) HRD.out (by rw [HL.out]; simp; omega) ?_)
      intro xs p2 c2 w2 hxs ho2 hf2 hfr2
      have hxl : xs.length = j + 1 := by rw [hxs.out, ← HLE.out, le_length]
      rw [hxl]
      have HXL := hid hxl
      clear hxl
      go_wp2_with fail
      go_roundw
      case rel =>
        refine ⟨j + 1, p2, c2, by omega, by go_num, by rw [HS.out], rfl, ?_, ?_, ?_⟩
        · have := ho2.out
          rw [HXL.out] at this
          rw [HLE.out, ← hxs.out]
          exact this
        · exact (hf.out.alloc _).trans hf2.out (by intro i hi hlt; have := hfr.out i hi; omega)
        · intro i hi
          rcases hfr2.out i hi with h | h
          · exact hfr.out i h
          · have := hf.out.size; omega
      case measure => simp [intOf]; omega
    · obtain rfl : j = k := by omega
      go_wp2_with fail
      go_returns
      exact ⟨p, c, _, rfl, ho.out, by rw [HQ.out]; simp, hf.out, hfr.out⟩

theorem NowV.pre {w w0 w' : World} {b : Nat} {fp : List Nat} {room err : Int} {zs : List Int} (h : NowV w0 b fp room zs err w') (hf : Frm [b] w w0) (hb : b ∈ fp) : NowV w b fp room zs err w' := by
  obtain ⟨fp', h1, h2, h3⟩ := h
  exact ⟨fp', h1, (hf.mono (by simpa using fun _ => hb)).trans h2 (fun i hi _ => hi), fun k hk => (h3 k hk).imp id (fun h => Nat.le_trans hf.size h)⟩
theorem World.cell_of_heap {w : World} {b : Nat} {cs : Array Value} {T : TypeId} (h : w.heap[b]? = some (.cells cs T (0, 0))) (i : Nat) : w.cell? ⟨b, i, none⟩ = cs[i]? := cell_of_row w b i cs T (0, 0) h
set_option maxHeartbeats 800000 in
theorem vlay_any (b : Nat) (fp : List Nat) (room : Int) (s : List Int × Int) (p : Option Addr) (n c : Nat) (ns : List Int) (ev : Int) (w : World) (hw : IsV w b fp room s.1 s.2) (hr0 : 0 ≤ room) (hr1 : room ≤ 2147483647) (hz : (s.1.length : Int) ≤ room)
    (hl : ns.length ≤ 140737488355328) (hn : n = ns.length) (hpc : ns = [] → p = none → c = 0) (hrd : Rd w p ns) (hpb : ns ≠ [] → b ∉ blk p) (hev : ev ≠ 0 → ns = [] ∧ p = none ∧ c = 0) :
    Calls Try.prog 83 #[.pointer (some ⟨b, 0, none⟩), .slice p n c, .int .i64 ev] w fun e w' => e = .returned (.tuple #[]) ∧ NowV w b fp room (stepW room s (ns, ev)).1 (stepW room s (ns, ev)).2 w' := by
  obtain ⟨zs, err⟩ := s
  subst hn
  obtain ⟨p0, c0, hlt, hfp, hnb, hown, k0, k1, k2, f1, f2, hh⟩ := hw.cells
  have HW := hid hw
  have HFP := hid hfp
  have HPC := hid hpc
  unfold stepW
  simp only at hz k0 k1 k2 hown hh HW ⊢
  clear hw hfp hpc
  by_cases he : err = 0
  · subst he
    simp only [ne_eq, not_true, if_false]
    by_cases hv : ev = 0
    · subst hv
      simp only [not_true, if_false]
      by_cases hfull : room - zs.length < ns.length
      · rw [if_pos hfull]
        clear hev
        go_enter Try.func83, Try.ntmps83
        go_wp2_with fail
        go_quiet (fail)
        go_wp2_with fail
        go_returns
        exact ⟨rfl, NowV.err HW.out ((Frm.refl _ _).drewN _) 12⟩
      · rw [if_neg hfull]
        clear hev
        go_enter Try.func83, Try.ntmps83
        go_wp2_with fail
        go_quiet (fail)
        have hF1 : Frm [b] w ((w.drewN nq).setCell ⟨b, 2, none⟩ (.int .i64 0)) := ((Frm.refl _ _).drewN _).setCell _ _ (by simp)
        have hh1 : ((w.drewN nq).setCell ⟨b, 2, none⟩ (.int .i64 0)).heap[b]? = some (.cells #[.int .i64 room, .slice p0 zs.length c0, .int .i64 0] 77 (0, 0)) := by
          rw [heap_setCell_same (w.drewN nq) b 2 _ _ _ hh.out]; rfl
        have ho1 := hown.kept hF1 (by rw [own_blk]; intro k hk; simp; rintro rfl; exact hnb hk)
        have hr1' : Rd ((w.drewN nq).setCell ⟨b, 2, none⟩ (.int .i64 0)) p ns := by
          by_cases hns : ns = []
          · exact Or.inl hns
          · exact hrd.kept hF1 (by intro k hk; simp; rintro rfl; exact hpb hns hk)
        have HH1 := hid hh1
        have HO1 := hid ho1
        have HR1 := hid hr1'
        clear hh1 ho1 hr1' hown hrd
        go_wp2_with (at_builtin; refine wpList_appB rfl _ _ 30 rfl 5 Try.underlying30 infoE p0 _ c0 zs rfl rfl HO1.out p ns.length c ns rfl rfl HPC.out HR1.out (by omega) ?_)
        intro xs p2 c2' w2 hxs ho hF2 hfresh
        have HR := hid (NowV.app HH1.out HFP.out hnb (Frm.refl _ _) ho.out hF2.out (by simpa [World.setCell] using hfresh.out))
        have m1 := (hF2.out.cell (p := ⟨b, 1, none⟩) (by simpa [World.setCell] using hlt) hnb).trans ((World.cell_of_heap HH1.out 1))
        have q1 := (hF2.out.frozen (p := ⟨b, 1, none⟩) (by simpa [World.setCell] using hlt) hnb).trans (frozen_of_row _ b 1 _ _ HH1.out)
        go_wp2_with fail
        go_returns
        have h2 := HR.out
        rw [hxs.out] at h2
        exact ⟨rfl, by rw [hxs.out]; exact h2.pre hF1 (by rw [HFP.out]; simp)⟩
    · simp only [hv, not_false_eq_true, if_true]
      have hb : (ev == 0) = false := by simpa using hv
      have hb2 : (ev != 0) = true := by simpa using hv
      clear hv hev
      go_enter Try.func83, Try.ntmps83
      go_wp2_with fail
      go_quiet (fail)
      go_wp2_with fail
      go_returns
      exact ⟨rfl, NowV.err HW.out ((Frm.refl _ _).drewN _) ev⟩
  · simp only [ne_eq, he, not_false_eq_true, if_true]
    have hb : (err != 0) = true := by simpa using he
    clear he hev
    go_enter Try.func83, Try.ntmps83
    go_wp2_with fail
    go_returns
    exact ⟨rfl, NowV.same HW.out (Frm.refl _ _)⟩
set_option maxHeartbeats 800000 in
theorem vbytes_any (b : Nat) (fp : List Nat) (room : Int) (s : List Int × Int) (p : Option Addr) (c : Nat) (ns : List Int) (w : World) (hw : IsV w b fp room s.1 s.2) (hr0 : 0 ≤ room) (hr1 : room ≤ 2147483647) (hz : (s.1.length : Int) ≤ room)
    (hl : ns.length ≤ 140737488355328) (hpc : ns = [] → p = none → c = 0) (hrd : Rd w p ns) (hpb : ns ≠ [] → b ∉ blk p) :
    Calls Try.prog 40 #[.pointer (some ⟨b, 0, none⟩), .slice p ns.length c] w fun e w' => e = .returned (.tuple #[]) ∧ NowV w b fp room (stepW room s (ns, 0)).1 (stepW room s (ns, 0)).2 w' := by
  have H := hid (vlay_any b fp room s p ns.length c ns 0 w hw hr0 hr1 hz hl rfl hpc hrd hpb (by simp))
  clear hw hpc hrd
  go_enter Try.func40, Try.ntmps40
  go_wp2_with fail
  refine H.out.mono ?_
  rintro e w' ⟨rfl, hq⟩
  have HQ := hid hq
  clear hq
  go_wp2_with fail
  go_returns
  exact ⟨rfl, HQ.out⟩
set_option maxHeartbeats 800000 in
theorem vnum_any (b : Nat) (fp : List Nat) (room : Int) (s : List Int × Int) (n k : Int) (w : World) (hw : IsV w b fp room s.1 s.2) (hr0 : 0 ≤ room) (hr1 : room ≤ 2147483647) (hz : (s.1.length : Int) ≤ room)
    (hn : 0 ≤ n) (hn2 : n < 18446744073709551616) :
    Calls Try.prog 39 #[.pointer (some ⟨b, 0, none⟩), .int .u64 n, .int .i64 k] w fun e w' => e = .returned (.tuple #[]) ∧ NowV w b fp room (stepW room s (numF n k)).1 (stepW room s (numF n k)).2 w' := by
  have HW := hid hw
  have hbl : b < w.heap.size := by obtain ⟨_, _, h, _⟩ := hw; exact lt_of_heap h
  by_cases h1 : k < 1 ∨ 8 < k
  · rw [show numF n k = ([], 1) by unfold numF; rw [if_pos h1]]
    have H := hid (vlay_any b fp room s none 0 0 [] 1 w hw hr0 hr1 hz (by simp) rfl (by simp) (Rd.nil _ _) (by simp [blk]) (by simp))
    by_cases h2 : k < 1
    · go_enter Try.func39, Try.ntmps39
      go_wp2_with fail
      refine H.out.mono ?_
      rintro e w' ⟨rfl, hq⟩
      have HQ := hid hq
      clear hq
      go_wp2_with fail
      go_returns
      exact ⟨rfl, HQ.out⟩
    · go_enter Try.func39, Try.ntmps39
      go_wp2_with fail
      refine H.out.mono ?_
      rintro e w' ⟨rfl, hq⟩
      have HQ := hid hq
      clear hq
      go_wp2_with fail
      go_returns
      exact ⟨rfl, HQ.out⟩
  · obtain ⟨j, rfl⟩ : ∃ j : Nat, k = (j : Int) := ⟨k.toNat, by omega⟩
    have hF := form_any n j hn hn2 (by omega) w
    have HFM := hid hF
    have hj1 : 1 ≤ j := by omega
    have hj8 : j ≤ 8 := by omega
    have e0 : numF n j = if j < 8 ∧ n / 2 ^ (8 * j) ≠ 0 then ([], 11) else (le n j, 0) := by
      have hiff : ((j : Int) < 8) = (j < 8) := propext ⟨by omega, by omega⟩
      unfold numF; rw [if_neg h1]; simp only [Int.toNat_natCast, hiff]
    rw [e0]
    clear e0 hF h1
    have h8 : j = 8 → n / 2 ^ (8 * j) = 0 := by rintro rfl; omega
    obtain ⟨R, hR⟩ : ∃ R : List Int × Int, (if j < 8 ∧ n / 2 ^ (8 * j) ≠ 0 then ([], 11) else (le n j, 0)) = R := ⟨_, rfl⟩
    rw [hR]
    have HR := hid hR
    have H8 := hid h8
    clear hR h8 hw
    go_enter Try.func39, Try.ntmps39
    go_wp2_with fail
    refine HFM.out.mono ?_
    rintro e w1 ⟨p, c, ok, rfl, ho, hok, hf, hfr⟩
    have HO := hid ho
    have HOK := hid hok
    have HFR := hid hfr
    clear ho hok hfr
    cases ok with
    | false =>
      have hne : n / 2 ^ (8 * j) ≠ 0 := by intro h; have := HOK.out.2 h; simp at this
      have hR := HR.out
      rw [if_pos ⟨by by_cases h : j < 8; exact h; exact absurd (H8.out (by omega)) hne, hne⟩] at hR
      have H := hid (vlay_any b fp room s none 0 0 [] 11 w1 (HW.out.kept hf (by simp)) hr0 hr1 hz (by simp) rfl (by simp) (Rd.nil _ _) (by simp [blk]) (by simp))
      rw [hR] at H
      clear hne hR
      go_wp2_with fail
      refine H.out.mono ?_
      rintro e w' ⟨rfl, hq⟩
      have HQ := hid (hq.after hf)
      clear hq
      go_wp2_with fail
      go_returns
      exact ⟨rfl, HQ.out⟩
    | true =>
      have hne : n / 2 ^ (8 * j) = 0 := HOK.out.1 rfl
      have hR := HR.out
      rw [if_neg (by intro h; exact h.2 hne)] at hR
      have hpc : le n j = [] → p = none → c = 0 := by intro h; have := congrArg List.length h; rw [le_length] at this; simp at this; omega
      have H := hid (vlay_any b fp room s p j c (le n j) 0 w1 (HW.out.kept hf (by simp)) hr0 hr1 hz (by rw [le_length]; omega) (le_length n j).symm hpc HO.out.rd (fun _ h => by have := HFR.out b h; omega) (by simp))
      rw [hR] at H
      clear hne hR hpc
      go_wp2_with fail
      refine H.out.mono ?_
      rintro e w' ⟨rfl, hq⟩
      have HQ := hid (hq.after hf)
      clear hq
      go_wp2_with fail
      go_returns
      exact ⟨rfl, HQ.out⟩
end Go.Proofs.Ytekkdebcklinhaa
