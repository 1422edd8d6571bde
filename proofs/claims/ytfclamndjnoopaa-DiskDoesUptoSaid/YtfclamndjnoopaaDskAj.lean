/- The document's Write, said as the program's. The document's other calls, said as the program's. -/
import Derived.Test.YtfclamndjnoopaaDskAh
namespace Go.Proofs.Ytfclamndjnoopaa
section
open Go.RowKit Go.Lib
set_option maxRecDepth 100000

theorem refWriteR {idx : Nat → Nat} {w0 : World} {pb c : Nat} {q : Option Addr} {S : PSt} {Ds : List DSt} {H : RHp} (hk : IsRack w0 pb S q c Ds) (r : Rel idx S Ds H) (φ : Nat → Rl) (i : Nat) (D : DSt) (at_ : Int) (p : Option Addr) (cc : Nat) (bs : List Int) (w : World) (h : IsRf w φ H) (hi : Ds[i]? = some D) (ha : -9223372036854775808 ≤ at_ ∧ at_ ≤ 9223372036854775807)
    (hrd : Rd w p bs) (hbz : ∀ z ∈ bs, 0 ≤ z ∧ z < 256) (hap : bs ≠ [] → ∀ k ∈ blk p, ∃ n, φ k = .oth n) (hcc : bs.length ≤ cc) (hbl : bs.length ≤ 140737488355328) (hwr : S.writes + S.ws.length + 32768 < 500000000000) :
    Calls Try.prog 47 #[.pointer (some ⟨H.rb, 0, none⟩), .int .i64 (i : Int), .int .i64 at_, .slice p bs.length cc] w fun e w' => e = .returned (.int .i64 (wrE S D at_ bs)) ∧ ∃ H' φ', RStp w φ H H' φ' w' ∧ Rel idx (S.wr D at_ bs) (Ds.set i (D.wr S at_ bs)) H' := by
  have hlt : i < H.ds.length := by rw [r.len]; exact (List.getElem?_eq_some_iff.1 hi).1
  obtain ⟨d, hd⟩ : ∃ d, H.ds[i]? = some d := ⟨_, List.getElem?_eq_getElem hlt⟩
  have rd := r.dk i D d hi hd
  by_cases h0 : wrAsk S D at_ bs = 0
  · obtain ⟨ho, hf, ha0, hm, _, hfit⟩ := wrAsk_zero h0
    obtain ⟨a, rfl⟩ : ∃ a : Nat, at_ = a := ⟨at_.toNat, by omega⟩
    have hl : bs.length = bs.length / 128 * 128 := by omega
    have hdn : downR H d = 0 := by rw [r.down hi hd]; unfold downE; rw [ho, hf]; rfl
    have hwn : H.ws.length = S.ws.length := by have := congrArg List.length r.ws; simpa using this
    have hleft : -1 ≤ H.left := by
      rw [r.lf ho]
      cases hb : S.bounded
      · simp
      · have := hk.lf hb; simp only [if_true]; omega
    have hg := refWriteGood_any φ H i d a (bs.length / 128) p cc bs w h hd hdn hl (by rw [rd.n]; omega) hrd hbz hap (by omega) hleft (by rw [r.wr, hwn]; omega)
    have e : Value.slice p bs.length cc = .slice p (bs.length / 128 * 128) cc := by rw [← hl]
    rw [e]
    have hj := jR_jW r ho hk.lf (bs.length / 128)
    refine hg.mono ?_
    rintro e w' ⟨j, rfl, ⟨h1, rfl, H', φ', xs, hxl, hxs, he, hst⟩ | ⟨h1, rfl, H', φ', xs, hxl, hxs, he, hst⟩⟩
    · refine ⟨?_, H', φ', hst, Rel.wrote hk r hi hd h0 hxl hxs (Or.inl ⟨h1, he⟩)⟩
      unfold wrE
      rw [if_neg (fun hn => hn h0), if_pos (hj ▸ h1)]
    · refine ⟨?_, H', φ', hst, Rel.wrote hk r hi hd h0 hxl hxs (Or.inr ⟨h1, he⟩)⟩
      unfold wrE
      rw [if_neg (fun hn => hn h0), if_neg (fun hn => by rw [hj] at h1; omega)]
  · refine (refWriteBad_any φ H i d at_ p bs.length cc hbl w h hd ha (by rw [r.wrAsk hi hd]; exact h0)).mono ?_
    rintro e w' ⟨rfl, rfl⟩
    refine ⟨?_, H, φ, h.stp0, r.same hi hd h0⟩
    rw [r.wrAsk hi hd]
    unfold wrE
    rw [if_pos h0]
/-- The document's Corrupt, said as the program's. -/
theorem refCorruptR {idx : Nat → Nat} {w0 : World} {pb c : Nat} {q : Option Addr} {S : PSt} {Ds : List DSt} {H : RHp} (hk : IsRack w0 pb S q c Ds) (r : Rel idx S Ds H) (φ : Nat → Rl) (i : Nat) (D : DSt) (at_ : Int) (p : Option Addr) (cm : Nat) (ms : List Int) (w : World) (h : IsRf w φ H) (hi : Ds[i]? = some D) (ha : -9223372036854775808 ≤ at_ ∧ at_ ≤ 9223372036854775807)
    (hrd : Rd w p ms) (hbz : ∀ z ∈ ms, 0 ≤ z ∧ z < 256) (hap : ms ≠ [] → ∀ k ∈ blk p, ∃ n, φ k = .oth n) (hml : ms.length ≤ 140737488355328) :
    Calls Try.prog 41 #[.pointer (some ⟨H.rb, 0, none⟩), .int .i64 (i : Int), .int .i64 at_, .slice p ms.length cm] w fun e w' => e = .returned (.int .i64 (corE D at_ ms.length)) ∧ ∃ H' φ', RStp w φ H H' φ' w' ∧ Rel idx (coS S D at_ ms) (Ds.set i (coD D at_ ms)) H' := by
  have hlt : i < H.ds.length := by rw [r.len]; exact (List.getElem?_eq_some_iff.1 hi).1
  obtain ⟨d, hd⟩ : ∃ d, H.ds[i]? = some d := ⟨_, List.getElem?_eq_getElem hlt⟩
  have rd := r.dk i D d hi hd
  by_cases h0 : corE D at_ ms.length = 0
  · obtain ⟨hf, ha0, han, hm⟩ := corE_ok h0
    obtain ⟨a, rfl⟩ : ∃ a : Nat, at_ = a := ⟨at_.toNat, by omega⟩
    rw [Int.toNat_natCast] at han
    obtain ⟨s, hs⟩ : ∃ s, d.ss[a]? = some s := ⟨_, List.getElem?_eq_getElem (by rw [rd.n]; exact han)⟩
    refine (refCorrupt_any φ H i a d s p cm ms w h hd (by rw [rd.fl]; exact hf) hs hm hrd hbz hap).mono ?_
    rintro e w' ⟨rfl, H', φ', ws, sn, e1, e2, e3, hst⟩
    refine ⟨by rw [h0], H', φ', hst, ?_⟩
    unfold coS coD
    rw [if_pos h0, if_pos h0, Int.toNat_natCast]
    exact Rel.turn hk r hi hd han hm hs e1 e2 e3
  · refine (refCorruptBad_any φ H i d at_ p ms.length cm w h hd ha hml (by rw [r.cor hi hd]; exact h0)).mono ?_
    rintro e w' ⟨rfl, rfl⟩
    refine ⟨by rw [r.cor hi hd], H, φ, h.stp0, ?_⟩
    unfold coS coD
    rw [if_neg h0, if_neg h0, set_same hi]
    exact r
end
section
open Go.RowKit Go.Lib
set_option maxRecDepth 100000

theorem refFlushR {idx : Nat → Nat} {w0 : World} {pb c : Nat} {q : Option Addr} {S : PSt} {Ds : List DSt} {H : RHp} (hk : IsRack w0 pb S q c Ds) (r : Rel idx S Ds H) (φ : Nat → Rl) (i : Nat) (D : DSt) (w : World) (h : IsRf w φ H) (hi : Ds[i]? = some D) :
    Calls Try.prog 37 #[.pointer (some ⟨H.rb, 0, none⟩), .int .i64 (i : Int)] w fun e w' => e = .returned (.int .i64 (downE S D)) ∧ ∃ H' φ', RStp w φ H H' φ' w' ∧ Rel idx (flS S D) (Ds.set i (flD S D)) H' := by
  have hlt : i < H.ds.length := by rw [r.len]; exact (List.getElem?_eq_some_iff.1 hi).1
  obtain ⟨d, hd⟩ : ∃ d, H.ds[i]? = some d := ⟨_, List.getElem?_eq_getElem hlt⟩
  have hf := refFlush_any φ H i d w h hd
  rw [r.down hi hd] at hf
  refine hf.mono ?_
  rintro e w' ⟨rfl, H', φ', ⟨h0, rfl⟩ | ⟨h0, he⟩, hst⟩
  · refine ⟨rfl, H', φ', hst, ?_⟩
    unfold flS flD
    rw [if_neg h0, if_neg h0, set_same hi]
    exact r
  · refine ⟨rfl, H', φ', hst, ?_⟩
    unfold flS flD
    rw [if_pos h0, if_pos h0, he]
    exact Rel.flush hk r hi hd _ _
theorem refFailR {idx : Nat → Nat} {w0 : World} {pb c : Nat} {q : Option Addr} {S : PSt} {Ds : List DSt} {H : RHp} (hk : IsRack w0 pb S q c Ds) (r : Rel idx S Ds H) (φ : Nat → Rl) (i : Nat) (D : DSt) (w : World) (h : IsRf w φ H) (hi : Ds[i]? = some D) :
    Calls Try.prog 38 #[.pointer (some ⟨H.rb, 0, none⟩), .int .i64 (i : Int)] w fun e w' => e = .returned (.tuple #[]) ∧ ∃ H' φ', RStp w φ H H' φ' w' ∧ Rel idx (S.rest D.db) (Ds.set i D.fail) H' := by
  have hlt : i < H.ds.length := by rw [r.len]; exact (List.getElem?_eq_some_iff.1 hi).1
  obtain ⟨d, hd⟩ : ∃ d, H.ds[i]? = some d := ⟨_, List.getElem?_eq_getElem hlt⟩
  refine (refFail_any φ H i d w h hd).mono ?_
  rintro e w' ⟨rfl, H', φ', he, hst⟩
  exact ⟨rfl, H', φ', hst, by rw [he]; exact Rel.fail hk r hi hd _ _⟩
theorem refReplaceR {idx : Nat → Nat} {w0 : World} {pb c : Nat} {q : Option Addr} {S : PSt} {Ds : List DSt} {H : RHp} (hk : IsRack w0 pb S q c Ds) (r : Rel idx S Ds H) (φ : Nat → Rl) (i : Nat) (D : DSt) (w : World) (h : IsRf w φ H) (hi : Ds[i]? = some D) :
    Calls Try.prog 39 #[.pointer (some ⟨H.rb, 0, none⟩), .int .i64 (i : Int)] w fun e w' => e = .returned (.tuple #[]) ∧ ∃ H' φ', RStp w φ H H' φ' w' ∧ Rel idx (S.rest D.db) (Ds.set i D.fresh) H' := by
  have hlt : i < H.ds.length := by rw [r.len]; exact (List.getElem?_eq_some_iff.1 hi).1
  obtain ⟨d, hd⟩ : ∃ d, H.ds[i]? = some d := ⟨_, List.getElem?_eq_getElem hlt⟩
  refine (refReplace_any φ H i d w h hd).mono ?_
  rintro e w' ⟨rfl, H', φ', ns, h1, h2, he, hst⟩
  exact ⟨rfl, H', φ', hst, by rw [he]; exact Rel.replace hk r hi hd _ _ ns h1 h2⟩
theorem refCutR {idx : Nat → Nat} {S : PSt} {Ds : List DSt} {H : RHp} (r : Rel idx S Ds H) (φ : Nat → Rl) (after : Int) (ha : -9223372036854775808 ≤ after ∧ after ≤ 9223372036854775807) (w : World) (h : IsRf w φ H) :
    Calls Try.prog 42 #[.pointer (some ⟨H.rb, 0, none⟩), .int .i64 after] w fun e w' => e = .returned (.tuple #[]) ∧ ∃ H' φ', RStp w φ H H' φ' w' ∧ Rel idx (S.cut after) Ds H' := by
  refine (refCut_any φ H after ha w h).mono ?_
  rintro e w' ⟨rfl, h1, h2⟩
  exact ⟨rfl, _, φ, ⟨h1, rfl, fun _ _ => rfl, h2⟩, r.cut after⟩
theorem refUpR {idx : Nat → Nat} {w0 : World} {pb c : Nat} {q : Option Addr} {S : PSt} {Ds : List DSt} {H : RHp} (hk : IsRack w0 pb S q c Ds) (r : Rel idx S Ds H) (φ : Nat → Rl) (p : Option Addr) (stay : List Bool) (cc : Nat) (w : World) (h : IsRf w φ H) (hst : Rv w p (stay.map Value.bool)) (hap : stay ≠ [] → ∀ k ∈ blk p, ∃ n, φ k = .oth n) (hlen : stay.length ≤ 140737488355328) :
    Calls Try.prog 26 #[.pointer (some ⟨H.rb, 0, none⟩), .slice p stay.length cc] w fun e w' => e = .returned (.tuple #[]) ∧ ∃ H' φ', RStp w φ H H' φ' w' ∧ Rel idx S.up (Ds.map (DSt.up S stay)) H' := by
  refine (refUp_any φ H p stay cc w h hst hap hlen).mono ?_
  rintro e w' ⟨rfl, h1, h2⟩
  exact ⟨rfl, _, φ, ⟨h1, rfl, fun _ _ => rfl, h2⟩, Rel.up hk r stay⟩
end
end Go.Proofs.Ytfclamndjnoopaa
