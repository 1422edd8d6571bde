/- The law's rack: a Read on both. The law's rack: a Read on both, walked. -/
import Derived.Test.YtfclamndjnoopaaDskAg
import Derived.Lib.Bytes
namespace Go.Proofs.Ytfclamndjnoopaa
section
open Go.RowKit Go.Lib
set_option maxRecDepth 100000

/-- What a Read answers. -/
def rdL (S : PSt) (D : DSt) (at_ many : Int) : List Int := if askE S D at_ many = 0 then (D.seen.drop (at_.toNat * 128)).take (many.toNat * 128) else []
theorem rReadR (pb : Nat) (S : PSt) (Ds : List DSt) (F : List Nat) (i : Nat) (D : DSt) (at_ many : Int) (w : World) (h : Rack w pb S Ds F) (hi : Ds[i]? = some D) (ha : -9223372036854775808 ≤ at_ ∧ at_ ≤ 9223372036854775807) (hm : -9223372036854775808 ≤ many ∧ many ≤ 9223372036854775807) :
    Calls Try.prog 13 #[.pointer (some ⟨D.db, 0, none⟩), .int .i64 at_, .int .i64 many] w (PostRR w (rdL S D at_ many) (askE S D at_ many)) := by
  refine (rRead pb S Ds F i D at_ many w h hi ha hm).mono ?_
  rintro e w' ⟨hf, ⟨h0, rfl⟩ | ⟨h0, g, rfl, hg, hn⟩⟩
  · refine ⟨none, 0, ?_, ?_, hf, by simp [blk]⟩
    · unfold rdL; rw [if_neg h0]; rfl
    · unfold rdL; rw [if_neg h0]; exact Own.nil _ _
  · have hd := h.disk hi
    have hl : ((D.seen.drop (at_.toNat * 128)).take (many.toNat * 128)).length ≤ 1048576 := by
      rw [List.length_take, List.length_drop, hd.sn]
      have := hd.n2
      omega
    have he : rdL S D at_ many = (D.seen.drop (at_.toNat * 128)).take (many.toNat * 128) := if_pos h0
    rw [he, h0]
    obtain ⟨RB, hRB⟩ : ∃ b, (D.seen.drop (at_.toNat * 128)).take (many.toNat * 128) = b := ⟨_, rfl⟩
    rw [hRB] at hl hg ⊢
    refine ⟨some ⟨g, 0, none⟩, RB.length, rfl, ⟨by simp [bv], Or.inr ⟨g, RB.length, _, rfl, Nat.zero_le _, hg, Nat.le_refl _, by unfold maxLen; omega, by simp [bv], by simpa using List.take_of_length_le (by simp [bv])⟩⟩, hf, fun k hk => by simp [blk] at hk; omega⟩
theorem refReadR {idx : Nat → Nat} (pb : Nat) (S : PSt) (Ds : List DSt) (F : List Nat) (φ : Nat → Rl) (H : RHp) (i : Nat) (D : DSt) (at_ many : Int) (w : World) (h : Pair idx w pb S Ds F φ H) (hi : Ds[i]? = some D) (ha : -9223372036854775808 ≤ at_ ∧ at_ ≤ 9223372036854775807) (hm : -9223372036854775808 ≤ many ∧ many ≤ 9223372036854775807) :
    Calls Try.prog 44 #[.pointer (some ⟨H.rb, 0, none⟩), .int .i64 (i : Int), .int .i64 at_, .int .i64 many] w (PostRR w (rdL S D at_ many) (askE S D at_ many)) := by
  have hlt : i < H.ds.length := by rw [h.rel.len]; exact (List.getElem?_eq_some_iff.1 hi).1
  obtain ⟨d, hd⟩ : ∃ d, H.ds[i]? = some d := ⟨_, List.getElem?_eq_getElem hlt⟩
  have hr := refRead_any φ H i d at_ many w h.rf hd ha hm
  rw [h.rel.ask hi hd] at hr
  have e : (if askE S D at_ many = 0 then seenL H i d at_.toNat many.toNat else []) = rdL S D at_ many := by
    unfold rdL
    by_cases h0 : askE S D at_ many = 0
    · rw [if_pos h0, if_pos h0]
      obtain ⟨q, c, hk, _⟩ := h.rk
      refine Rel.seen hk h.rel hi hd _ _ ?_
      unfold askE at h0
      split at h0
      · cases h0
      · split at h0
        · cases h0
        · split at h0
          · cases h0
          · omega
    · rw [if_neg h0, if_neg h0]
  rw [e] at hr
  exact hr
theorem rdL_len {w : World} {pb : Nat} {S : PSt} {D : DSt} (hd : IsDisk w pb D) (at_ many : Int) : (rdL S D at_ many).length ≤ 1048576 := by
  unfold rdL
  split
  · rw [List.length_take, List.length_drop, hd.sn]
    have := hd.n2
    omega
  · simp
end
section
open Go.RowKit Go.Lib
set_option maxRecDepth 100000

set_option maxHeartbeats 6400000 in
theorem reads_any (idx : Nat → Nat) (xb pb : Nat) (S : PSt) (Ds : List DSt) (F : List Nat) (φ : Nat → Rl) (H : RHp) (p : Option Addr) (c : Nat) (i : Nat) (at_ many : Int) (w : World) (h : Pair idx w pb S Ds F φ H) (hl : LawR w xb pb H.rb p c Ds) (hi : i < Ds.length)
    (ha : -9223372036854775808 ≤ at_ ∧ at_ ≤ 9223372036854775807) (hm : -9223372036854775808 ≤ many ∧ many ≤ 9223372036854775807) :
    Calls Try.prog 24 #[.pointer (some ⟨xb, 0, none⟩), .int .i64 (i : Int), .int .i64 at_, .int .i64 many] w fun e w' => e = .returned (.bool true) ∧ Frm [] w w' := by
  have HP := hid h
  have HL := hid hl
  obtain ⟨D, hD⟩ : ∃ D, Ds[i]? = some D := ⟨_, List.getElem?_eq_getElem hi⟩
  obtain ⟨x0, x1, x2⟩ := hl.cells
  obtain ⟨g, hg, y0⟩ := hl.at hD
  have hd6 : Ds.length ≤ 6 := by have := h.rf.dl; rw [h.rel.len] at this; exact this
  have HR := hid (rReadR pb S Ds F i D at_ many w h.rk hD ha hm)
  have hrl := rdL_len (h.rk.disk hD) (S := S) at_ many
  obtain ⟨M, hM⟩ : ∃ n, Ds.length = n := ⟨_, rfl⟩
  obtain ⟨RB, hRB⟩ : ∃ b, rdL S D at_ many = b := ⟨_, rfl⟩
  obtain ⟨E0, hE0⟩ : ∃ b, askE S D at_ many = b := ⟨_, rfl⟩
  rw [hM, hg] at x1
  rw [hM] at hd6 hi
  rw [hRB, hE0] at HR
  rw [hRB] at hrl
  have HRB := hid hRB
  have HE0 := hid hE0
  have HD := hid hD
  have hi2 : (i : Int) < (M : Int) := by omega
  clear h hl hD hM hg hi hRB hE0
  go_enter Try.func24, Try.ntmps24
  go_wp2_with fail
  refine HR.out.mono ?_
  rintro e w1 ⟨p1, c1, rfl, ho1, hf1, hk1⟩
  have hp1 := (HP.out.kept hf1 (by simp) (by simp)).1
  have hl1 := HL.out.kept hf1 (by simp) (by simp)
  obtain ⟨_, _, x2'⟩ := hl1.cells
  have HR2 := refReadR pb S Ds F φ H i D at_ many w1 hp1 HD.out ha hm
  rw [HRB.out, HE0.out] at HR2
  have HR2 := hid HR2
  have HO1 := hid ho1
  have HF1 := hid hf1
  have HK1 : Hid (∀ k ∈ blk p1, w.heap.size ≤ k) := hid hk1
  obtain ⟨N, hN⟩ : ∃ n, RB.length = n := ⟨_, rfl⟩
  rw [hN] at HO1 hrl ⊢
  have HN := hid hN
  clear ho1 hf1 hk1 hp1 hl1 x0 x1 x2 y0 hN
  go_wp2_with fail
  refine HR2.out.mono ?_
  rintro e w2 ⟨p2, c2, rfl, ho2, hf2, hk2⟩
  have HO2 := hid (HO1.out.kept hf2 (by simp))
  have hf12 : Frm [] w w2 := HF1.out.trans hf2 (by simp)
  have HF12 := hid hf12
  rw [HN.out] at ho2
  have hcv1 := cv_any (P := Try.prog) (w := w2) 22 5 9 Try.underlying22 Try.underlying5 Try.underlying9 HO2.out.rd c1 HN.out
  have hcv2 := cv_any (P := Try.prog) (w := w2) 22 5 9 Try.underlying22 Try.underlying5 Try.underlying9 ho2.rd c2 HN.out
  obtain ⟨S0, hS0⟩ : ∃ s, strOfNums RB = s := ⟨_, rfl⟩
  rw [hS0] at hcv1 hcv2
  rw [HN.out]
  clear ho2 hf2 hk2 hf12 hS0 x2'
  go_wp2_with fail
  clear hcv1 hcv2
  go_loopw [14] (fun t wr => ∃ (j : Nat) (zs : List Int), j ≤ N ∧ t = .int .i64 (j : Int) ∧ Hid (zs.length = N) ∧ Hid (Own wr 5 (.slice p1 N c1) zs) ∧ Hid (Frm [] w wr)) (fun t _ => N - (intOf t).toNat)
  case atStart => exact ⟨0, RB, Nat.zero_le _, rfl, HN, HO2, HF12⟩
  case round =>
    clear HO1 HO2 HF1 HF12 HR HR2
    obtain ⟨j, zs, hj, rfl, hzl, hoz, hf⟩ := hrel
    by_cases hlt : j < N
    · obtain ⟨g, hp, hg, hc, hfz, hset⟩ := hoz.out.setAt hzl.out hlt
      have HSET := hid hset
      have HF2 : Hid (∀ u : Value, Frm [] w (wr.setCell ⟨g, j, none⟩ u)) := hid (fun u => hf.out.setCell _ _ (fun hgl => by have := HK1.out g (by rw [hp]; simp [blk]); exact absurd hgl (by simpa using this)))
      subst hp
      clear hset
      go_wp2_with fail
      go_roundw
      case rel => exact ⟨j + 1, zs.set j 255, by omega, by go_num, hid (by rw [List.length_set]; exact hzl.out), hid (HSET.out 255), hid (HF2.out _)⟩
      case measure => first | (simp [intOf]; done) | (simp [intOf]; omega)
    · obtain rfl : j = N := by omega
      clear hlt
      have HBL : Hid ((wr.alloc (.cells #[.int .u8 255] 5)).heap[wr.heap.size]? = some (.cells (bv [255]).toArray 5 (0, 0))) := hid (heap_alloc_new wr _)
      have HOW : Hid (Own (wr.alloc (.cells #[.int .u8 255] 5)) 5 (.slice p1 zs.length c1) zs) := hid (by rw [hzl.out]; exact hoz.out.kept ((Frm.refl [] wr).alloc _) (by simp))
      have HFA : Hid (Frm [] w (wr.alloc (.cells #[.int .u8 255] 5))) := hid (hf.out.alloc _)
      go_wp2_with (at_builtin; refine wpList_appB rfl _ _ 22 rfl 5 Try.underlying22 infoB p1 j c1 zs rfl hzl.out.symm HOW.out (some ⟨wr.heap.size, 0, none⟩) 1 1 [255] rfl rfl (by simp) (rd_blockD HBL.out) (by have := hzl.out; simp; omega) ?_)
      intro xs p5 c5 w5 hxs ho5 hf5 hb5
      have hxl : xs.length = j + 1 := by rw [hxs.out, List.length_append, hzl.out]; rfl
      have HFN : Hid (Frm [] w w5) := hid (HFA.out.trans hf5.out (fun k hk hkl => by have := HK1.out k hk; omega))
      rw [hxl]
      clear hxs ho5 hf5 hb5 hoz
      go_wp2_with fail
      go_returns
      exact ⟨by simp, HFN.out⟩
end
end Go.Proofs.Ytfclamndjnoopaa
