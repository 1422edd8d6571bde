/- The statement CodeReads: two readers side by side. -/
import Derived.Test.YtdfefeljnfcngaaRefT
import Derived.Laws.OwnMore
namespace Go.Proofs.Ytdfefeljnfcngaa
open Go.RowKit
set_option maxRecDepth 100000

/-- Both readers over the same bytes at the same place, new since w0, apart from one another. -/
structure TwoR (w0 : World) (rb rg qb : Nat) (qp : Option Addr) (qc : Nat) (bs : List Int) (pos : Nat) (err : Int) (w : World) : Prop where
  r : IsR w rb rg bs pos err
  q : IsQ w qb qp qc bs pos err
  f : Frm [] w0 w
  n1 : w0.heap.size ≤ rb
  n2 : w0.heap.size ≤ rg
  n3 : w0.heap.size ≤ qb
  n4 : ∀ k ∈ blk qp, w0.heap.size ≤ k
  a1 : rb ≠ qb
  a2 : rg ≠ qb
  a3 : rb ∉ blk qp
theorem IsQ.lt {w : World} {b c pos : Nat} {p : Option Addr} {err : Int} {bs : List Int} (h : IsQ w b p c bs pos err) : ∀ k ∈ b :: blk p, k < w.heap.size := by
  intro k hk
  rcases List.mem_cons.1 hk with rfl | hk
  · exact lt_of_heap h.1
  · exact h.2.1.low k hk
theorem TwoR.same {w0 w w' : World} {rb rg qb qc pos : Nat} {qp : Option Addr} {bs : List Int} {err : Int} {S : List Nat} (h : TwoR w0 rb rg qb qp qc bs pos err w) (hf : Frm S w w') (hS : ∀ k ∈ S, w.heap.size ≤ k) : TwoR w0 rb rg qb qp qc bs pos err w' := by
  have hc := h.r.cells
  have hq := h.q.lt
  refine ⟨h.r.kept hf (fun hk => ?_) (fun hk => ?_), h.q.kept hf (fun hk => ?_) (fun k hk hk2 => ?_), h.f.trans hf (fun i hi hlt => ?_), h.n1, h.n2, h.n3, h.n4, h.a1, h.a2, h.a3⟩
  · have := hS _ hk; omega
  · have := hS _ hk; omega
  · have := hS _ hk; have := hq qb (by simp); omega
  · have := hS _ hk2; have := hq k (by simp [hk]); omega
  · have := hS _ hi; have := h.f.size; omega
/-- A call of the first one, then the same of the other one. -/
theorem TwoR.both {w0 w w1 w2 : World} {rb rg qb qc pos pos' : Nat} {qp : Option Addr} {bs : List Int} {err err' : Int} (h : TwoR w0 rb rg qb qp qc bs pos err w) (hr : IsR w1 rb rg bs pos' err') (hf : Frm [rb] w w1) (hq : IsQ w2 qb qp qc bs pos' err') (hf2 : Frm [qb] w1 w2) : TwoR w0 rb rg qb qp qc bs pos' err' w2 :=
  ⟨hr.kept hf2 (by simpa using h.a1) (by simpa using h.a2), hq, (h.f.trans hf (fun i hi hlt => by simp at hi; have := h.n1; omega)).trans hf2 (fun i hi hlt => by simp at hi; have := h.n3; omega), h.n1, h.n2, h.n3, h.n4, h.a1, h.a2, h.a3⟩
theorem TwoR.mid {w0 w w1 : World} {rb rg qb qc pos : Nat} {qp : Option Addr} {bs : List Int} {err : Int} (h : TwoR w0 rb rg qb qp qc bs pos err w) (hf : Frm [rb] w w1) : IsQ w1 qb qp qc bs pos err :=
  h.q.kept hf (by simpa using Ne.symm h.a1) (fun k hk hk2 => by simp at hk2; subst hk2; exact h.a3 hk)
theorem TwoR.low {w0 w : World} {rb rg qb qc pos : Nat} {qp : Option Addr} {bs : List Int} {err : Int} (h : TwoR w0 rb rg qb qp qc bs pos err w) : ∀ k ∈ rb :: rg :: qb :: blk qp, k < w.heap.size := by
  have hc := h.r.cells
  have hq := h.q.lt
  intro k hk
  simp only [List.mem_cons] at hk
  rcases hk with rfl | rfl | rfl | hk
  · exact hc.1
  · exact hc.2.1
  · exact hq _ (by simp)
  · exact hq _ (by simp [hk])
theorem TwoR.other {w0 w w' : World} {rb rg qb qc pos N : Nat} {qp : Option Addr} {bs : List Int} {err : Int} {S : List Nat} (h : TwoR w0 rb rg qb qp qc bs pos err w) (hN : ∀ k ∈ rb :: rg :: qb :: blk qp, k < N) (hN0 : w0.heap.size ≤ N) (hf : Frm S w w') (hS : ∀ k ∈ S, N ≤ k) : TwoR w0 rb rg qb qp qc bs pos err w' := by
  simp only [List.mem_cons] at hN
  refine ⟨h.r.kept hf (fun hk => ?_) (fun hk => ?_), h.q.kept hf (fun hk => ?_) (fun k hk hk2 => ?_), h.f.trans hf (fun i hi hlt => ?_), h.n1, h.n2, h.n3, h.n4, h.a1, h.a2, h.a3⟩
  · have := hS _ hk; have := hN rb (by simp); omega
  · have := hS _ hk; have := hN rg (by simp); omega
  · have := hS _ hk; have := hN qb (by simp); omega
  · have := hS _ hk2; have := hN k (by simp [hk]); omega
  · have := hS _ hi; omega
theorem Own.at {w : World} {E : TypeId} {p : Option Addr} {n c i : Nat} {ys : List Int} (h : Own w E (.slice p n c) ys) (hn : ys.length = n) (hi : i < n) :
    ∃ g, p = some ⟨g, 0, none⟩ ∧ g < w.heap.size ∧ w.cell? ⟨g, i, none⟩ = some (.int .u8 (ys.getD i 0)) ∧ w.frozen? ⟨g, i, none⟩ = false ∧ ∀ z, Own (w.setCell ⟨g, i, none⟩ (.int .u8 z)) E (.slice p n c) (ys.set i z) := by
  subst hn
  obtain ⟨p', c', he, _, hnn, hh, _⟩ := h.shape
  simp only [Value.slice.injEq, true_and] at he
  obtain ⟨rfl, rfl⟩ := he
  cases p with
  | none => obtain ⟨h0, _⟩ := hnn rfl; subst h0; simp at hi
  | some a =>
    obtain ⟨h1, h2, h3⟩ := hh a rfl
    obtain ⟨g, o, sp⟩ := a
    simp only at h1 h2 h3
    subst h1 h2
    refine ⟨g, rfl, h3, ?_, World.ownsRow.frozenAt h i, fun z => ?_⟩
    · rw [World.ownsRow.cellAt h i (by omega), bv_get hi]
    · have := (World.ownsRow.stored h i (.int .u8 z)).1
      unfold Own
      rw [List.length_set]
      simpa [bv, List.map_set] using this
set_option maxHeartbeats 1600000 in
theorem takes_any (w0 w : World) (rb rg qb qc pos : Nat) (qp : Option Addr) (bs : List Int) (hb : ∀ z ∈ bs, 0 ≤ z ∧ z < 256) (err : Int) (d : CallD) (hm : -9223372036854775808 ≤ d.many ∧ d.many ≤ 9223372036854775807) (h : TwoR w0 rb rg qb qp qc bs pos err w) :
    Calls Try.prog 16 #[.pointer (some ⟨rb, 0, none⟩), .pointer (some ⟨qb, 0, none⟩), .agg #[.int .i64 d.kind, .int .u64 d.n, .int .i64 d.many, .slice d.p d.bl d.bc, .string d.s]] w
      fun e w' => e = .returned (.bool true) ∧ ∃ pos' err', TwoR w0 rb rg qb qp qc bs pos' err' w' := by
  obtain ⟨dk, dn, dm, dp, dl, dc, ds⟩ := d
  dsimp only at hm ⊢
  have H := hid (h.same (S := []) ((Frm.refl [] w).alloc (.cells #[.int .i64 dk, .int .u64 dn, .int .i64 dm, .slice dp dl dc, .string ds] 32)) (by simp))
  have HD := hid (H.out.same (S := []) ((Frm.refl [] _).drew) (by simp))
  have c2 : (w.alloc (.cells #[.int .i64 dk, .int .u64 dn, .int .i64 dm, .slice dp dl dc, .string ds] 32)).cell? ⟨w.heap.size, 2, none⟩ = some (.int .i64 dm) := by
    rw [cell_of_row _ _ _ _ _ _ (heap_alloc_new w _)]; rfl
  have hrl : w.heap.size ∉ [rb] := by have := h.low rb (by simp); simp; omega
  have hql : w.heap.size ∉ [qb] := by have := h.low qb (by simp); simp; omega
  have hsl : w.heap.size < (w.alloc (.cells #[.int .i64 dk, .int .u64 dn, .int .i64 dm, .slice dp dl dc, .string ds] 32)).heap.size := by simp
  have HB := hid hb
  have HLOW := hid h.low
  have HN0 := hid h.f.size
  clear h hb
  obtain ⟨W, hW⟩ : ∃ W, W = (w.alloc (.cells #[.int .i64 dk, .int .u64 dn, .int .i64 dm, .slice dp dl dc, .string ds] 32)) := ⟨_, rfl⟩
  have HWW := hid hW
  rw [← hW] at H HD c2 hsl
  clear hW
  by_cases k0 : dk = 0
  · have hb0 : (dk == 0) = true := by simpa using k0
    clear k0
    have HN1 := hid (numR_any rb rg pos bs HB.out err dm _ HD.out.r hm.1 hm.2)
    have HN2 := hid (fun (w1 : World) (hf : Frm [rb] W.drew w1) => qnum_any qb qc pos qp bs HB.out err dm _ (HD.out.mid hf) hm.1 hm.2)
    obtain ⟨st, hst⟩ : ∃ st, readS 0 pos err (numT (bs.drop pos) dm) = st := ⟨_, rfl⟩
    rw [hst] at HN1 HN2
    clear hst
    rw [HWW.out] at HN1 HN2 c2 hsl HD
    go_enter Try.func16, Try.ntmps16
    go_wp2_with fail
    go_region_held3 (fun w' => w'.cell? ⟨w.heap.size, 2, none⟩ = some (.int .i64 dm)) (first | go_keep | (exact c2) | (exact (hf.cell (p := ⟨w.heap.size, 2, none⟩) hsl hrl).trans c2) | (exact (hf2.cell (p := ⟨w.heap.size, 2, none⟩) (Nat.lt_of_lt_of_le hsl hf.size) hql).trans ((hf.cell (p := ⟨w.heap.size, 2, none⟩) hsl hrl).trans c2))) (first | ((with_reducible refine HN1.out.mono ?_); rintro e w1 ⟨rfl, hr, hf⟩) | ((with_reducible refine (HN2.out w1 hf).mono ?_); rintro e w2 ⟨rfl, hq, hf2⟩))
    have T := hid (HD.out.both hr hf hq hf2)
    clear hr hf hq hf2
    go_wp2_with fail
    go_returns
    exact ⟨bool_eq (by simp), _, _, T.out⟩
  · have hb0 : (dk == 0) = false := by simpa using k0
    clear k0
    by_cases k1 : dk = 1
    · have hb1 : (dk == 1) = true := by simpa using k1
      clear k1
      have HN1 := hid (bytesR_any rb rg pos bs err dm _ H.out.r hm.1 hm.2)
      have HN2 := hid (fun (w1 : World) (hf : Frm [rb] W w1) => qbytes_any qb qc pos qp bs err dm _ (H.out.mid hf) hm.1 hm.2)
      have hlen : (readS [] pos err (bytesT (bs.drop pos) dm)).1.length ≤ 140737488351232 := by
        have h0 := H.out.q.cells.2.2.2.1
        obtain ⟨n, hn, _⟩ := bytesT_of (bs.drop pos) dm
        have h1 : (bytesT (bs.drop pos) dm).1.length ≤ bs.length := by rw [hn]; simp; omega
        unfold readS
        split
        · simp
        · split
          · simp only; omega
          · simp only; omega
      obtain ⟨st, hst⟩ : ∃ st, readS [] pos err (bytesT (bs.drop pos) dm) = st := ⟨_, rfl⟩
      rw [hst] at HN1 HN2 hlen
      clear hst
      obtain ⟨zs, pos', err'⟩ := st
      simp only at HN1 HN2 hlen
      rw [HWW.out] at HN1 HN2 c2 hsl H
      go_enter Try.func16, Try.ntmps16
      go_wp2_with fail
      refine HN1.out.mono ?_
      rintro e w1 ⟨p1, n1, c1, rfl, rfl, ho1, hk1, hr, hf⟩
      have c2' := (hf.cell (p := ⟨w.heap.size, 2, none⟩) hsl hrl).trans c2
      have HO1 := hid ho1
      have HK1 := hid hk1
      have HR := hid hr
      have HF := hid hf
      clear ho1 hk1 hr hf
      go_wp2_with fail
      refine (HN2.out w1 HF.out).mono ?_
      rintro e w2 ⟨p2, n2, c2', rfl, rfl, ho2, hk2, hq, hf2⟩
      have hqp : ∀ k ∈ blk p1, k ∉ [qb] := by
        intro k hk hk2
        have a1 := HK1.out k hk
        have a2 := HLOW.out qb (by simp)
        simp at hk2 a1
        omega
      have ho1' := HO1.out.kept hf2 (by rw [own_blk]; exact hqp)
      have T := hid (H.out.both HR.out HF.out hq hf2)
      have HO2 := hid ho1'
      have hz1 := conv_any (P := Try.prog) (w := w2) 22 5 9 Try.underlying22 Try.underlying5 Try.underlying9 ho1'.rd c1 rfl
      have hz2 := conv_any (P := Try.prog) (w := w2) 22 5 9 Try.underlying22 Try.underlying5 Try.underlying9 ho2.rd c2' rfl
      generalize strOfNums zs = S at hz1 hz2
      clear ho2 hk2 hq hf2 ho1' hqp
      go_wp2_with fail
      clear hz1 hz2
      go_loopw [10] (fun i wr => ∃ (j : Nat) (ys : List Int), j ≤ zs.length ∧ i = .int .i64 j ∧ Hid (ys.length = zs.length) ∧ Hid (Own wr 5 (.slice p1 zs.length c1) ys) ∧ Hid (TwoR w0 rb rg qb qp qc bs pos' err' wr)) (fun i _ => zs.length - (intOf i).toNat)
      case atStart => exact ⟨0, zs, Nat.zero_le _, rfl, hid rfl, HO2, T⟩
      case round =>
        obtain ⟨j, ys, hj, rfl, hyl, hq1, hq2⟩ := hrel
        by_cases hlt : j < zs.length
        · obtain ⟨g, rfl, hgl, hc, hfz, hset⟩ := hq1.out.at hyl.out hlt
          have HSET := hid hset
          have hng := HK1.out g (by simp [blk])
          clear hset
          go_wp2_with fail
          go_roundw
          case rel =>
            refine ⟨j + 1, ys.set j 255, by omega, by go_num, by show _ = _; rw [List.length_set]; exact hyl.out, HSET.out 255, hq2.out.other HLOW.out HN0.out ((Frm.refl [g] _).setCell _ _ (by simp)) (by simp at hng ⊢; omega)⟩
          case measure => simp [intOf]; omega
        · obtain rfl : j = zs.length := by omega
          have HA6 : Hid (Frm [] wr (wr.alloc (.cells #[.int .u8 255] 5))) := (Frm.refl _ _).alloc _
          have ho6 := hq1.out.kept HA6.out (by simp)
          have hr6 : Rd (wr.alloc (.cells #[.int .u8 255] 5)) (some ⟨wr.heap.size, 0, none⟩) [255] := by
            refine Or.inr ⟨wr.heap.size, 0, rfl, fun i hi => ?_⟩
            simp only [List.length_singleton] at hi
            obtain rfl : i = 0 := by omega
            rw [cell_of_row _ _ _ _ _ (0, 0) (heap_alloc_new wr _)]
            rfl
          have HO6 := hid ho6
          have HR6 := hid hr6
          have HYL := hyl
          clear ho6 hr6 hlt hq1 hyl
          go_wp2_with (at_builtin; refine wpList_appB rfl _ _ 22 rfl 5 Try.underlying22 infoE p1 zs.length c1 ys rfl HYL.out.symm (by rw [HYL.out]; exact HO6.out) (some ⟨wr.heap.size, 0, none⟩) 1 1 [255] rfl rfl (by simp) HR6.out (by rw [HYL.out]; simp; omega) ?_)
          intro xs p7 c7 w7 hxs ho7 hf7 hfr7
          have hf7' : Frm (blk p1) wr w7 := (HA6.out.mono (by simp)).trans hf7.out (fun i hi _ => hi)
          have T7 := hid (hq2.out.other HLOW.out HN0.out hf7' (by intro k hk; have := HK1.out k hk; simp at this; omega))
          have hxl : xs.length = zs.length + 1 := by rw [hxs.out]; simp [HYL.out]
          clear hf7'
          go_wp2_with fail
          go_returns
          exact ⟨rfl, _, _, T7.out⟩
    · have hb1 : (dk == 1) = false := by simpa using k1
      clear k1
      by_cases k2 : dk = 2
      · have hb2 : (dk == 2) = true := by simpa using k2
        clear k2
        have HN1 := hid (textR_any rb rg pos bs HB.out err dm _ HD.out.r hm.1 hm.2)
        have HN2 := hid (fun (w1 : World) (hf : Frm [rb] W.drew w1) => qtext_any qb qc pos qp bs HB.out err dm _ (HD.out.mid hf) hm.1 hm.2)
        obtain ⟨st, hst⟩ : ∃ st, readS [] pos err (textT (bs.drop pos) dm) = st := ⟨_, rfl⟩
        rw [hst] at HN1 HN2
        clear hst
        obtain ⟨zs, pos', err'⟩ := st
        simp only at HN1 HN2
        generalize strOfNums zs = S at HN1 HN2
        rw [HWW.out] at HN1 HN2 c2 hsl HD
        go_enter Try.func16, Try.ntmps16
        go_wp2_with fail
        go_region_held3 (fun w' => w'.cell? ⟨w.heap.size, 2, none⟩ = some (.int .i64 dm)) (first | go_keep | (exact c2) | (exact (hf.cell (p := ⟨w.heap.size, 2, none⟩) hsl hrl).trans c2) | (exact (hf2.cell (p := ⟨w.heap.size, 2, none⟩) (Nat.lt_of_lt_of_le hsl hf.size) hql).trans ((hf.cell (p := ⟨w.heap.size, 2, none⟩) hsl hrl).trans c2))) (first | ((with_reducible refine HN1.out.mono ?_); rintro e w1 ⟨rfl, hr, hf⟩) | ((with_reducible refine (HN2.out w1 hf).mono ?_); rintro e w2 ⟨rfl, hq, hf2⟩))
        have T := hid (HD.out.both hr hf hq hf2)
        clear hr hf hq hf2
        go_wp2_with fail
        go_returns
        exact ⟨bool_eq (by simp), _, _, T.out⟩
      · have hb2 : (dk == 2) = false := by simpa using k2
        clear k2
        by_cases k3 : dk = 3
        · have hb3 : (dk == 3) = true := by simpa using k3
          clear k3
          have HN1 := hid (padR_any rb rg pos bs err dm _ H.out.r hm.1 hm.2)
          have HN2 := hid (fun (w1 : World) (hf : Frm [rb] W w1) => qpad_any qb qc pos qp bs err dm _ (H.out.mid hf) hm.1 hm.2)
          obtain ⟨st, hst⟩ : ∃ st, readS () pos err (padT (bs.drop pos) pos dm) = st := ⟨_, rfl⟩
          rw [hst] at HN1 HN2
          clear hst
          rw [HWW.out] at HN1 HN2 c2 hsl H
          go_enter Try.func16, Try.ntmps16
          go_wp2_with fail
          refine HN1.out.mono ?_
          rintro e w1 ⟨rfl, hr, hf⟩
          have c3 := (hf.cell (p := ⟨w.heap.size, 2, none⟩) hsl hrl).trans c2
          have HR := hid hr
          have HF := hid hf
          clear hr hf
          go_wp2_with fail
          refine (HN2.out w1 HF.out).mono ?_
          rintro e w2 ⟨rfl, hq, hf2⟩
          have T := hid (H.out.both HR.out HF.out hq hf2)
          clear hq hf2
          go_wp2_with fail
          go_returns
          exact ⟨rfl, _, _, T.out⟩
        · have hb3 : (dk == 3) = false := by simpa using k3
          clear k3
          rw [HWW.out] at H
          go_enter Try.func16, Try.ntmps16
          go_wp2_with fail
          go_returns
          exact ⟨rfl, _, _, H.out⟩
end Go.Proofs.Ytdfefeljnfcngaa
