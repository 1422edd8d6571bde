/- The law's loads. -/
import Derived.Test.YtbgochkmplacaaaSsAd
namespace Go.Proofs.Ytbgochkmplacaaa
open Go.RowKit Go.Lib
set_option maxRecDepth 100000

/-- What is left of Load's answer, as values. -/
def LoadV (w w' : World) (xs : List Rs) (xp : Option Addr) (E : Int) : Prop :=
  (okL 0 xs = false ∧ xp = none ∧ E = 240) ∨ (okL 0 xs = true ∧ ∃ b pl vs, xp = some ⟨b, 0, none⟩ ∧ E = 0 ∧ TS w' b pl vs 0 0 0 ∧ kept24 vs = xs ∧ Tab vs ∧ (∀ k ∈ foot24 b pl, w.heap.size ≤ k) ∧ ∀ v ∈ vs, ∀ k ∈ v.B, w.heap.size ≤ k)
theorem LoadP.v {w w' : World} {xs : List Rs} {e : Ending} (h : LoadP w xs e w') : Frm [] w w' ∧ ∃ xp E, e = .returned (.tuple #[.pointer xp, .int .i64 E]) ∧ LoadV w w' xs xp E := by
  obtain ⟨hf, ⟨h1, h2⟩ | ⟨h1, b, pl, vs, h2, h3, h4, h5, h6, h7⟩⟩ := h
  · exact ⟨hf, none, 240, h2, Or.inl ⟨h1, rfl, rfl⟩⟩
  · exact ⟨hf, _, 0, h2, Or.inr ⟨h1, b, pl, vs, rfl, rfl, h3, h4, h5, h6, h7⟩⟩
def LoadsP (w0 w : World) (e : Ending) (w' : World) : Prop :=
  Frm [] w w' ∧ (e = .returned (.tuple #[.pointer none, .bool true]) ∨ ∃ x : PrD, e = .returned (.tuple #[.pointer (some ⟨x.k, 0, none⟩), .bool true]) ∧ PQ w0 w' x ∧ x.same ∧ ∀ j ∈ x.foot, w.heap.size ≤ j)
set_option maxHeartbeats 12800000 in
theorem loads24_any (w0 : World) (p : Option Addr) (n c : Nat) (ls : List Rp) (w : World) (hw0 : Frm [] w0 w) (hr : Rv w p (rowsR ls)) (hn : ls.length = n) (hb : n * 96 ≤ 140737488351232) (hc : p = none → c = 0) (hk : ∀ v ∈ ls, RpOk w0 v) :
    Calls Try.prog 32 #[.slice p n c] w (LoadsP w0 w) := by
  obtain ⟨PO, hPO⟩ : ∃ PO : Ending → World → Prop, LoadsP w0 w = PO := ⟨_, rfl⟩
  rw [hPO]
  have HP1 : Hid (∀ w', Frm [] w w' → PO (.returned (.tuple #[.pointer none, .bool true])) w') := hid (fun w' h => by rw [← hPO]; exact ⟨h, Or.inl rfl⟩)
  have HP2 : Hid (∀ (x : PrD) w', Frm [] w w' → PQ w0 w' x → x.same → (∀ j ∈ x.foot, w.heap.size ≤ j) → PO (.returned (.tuple #[.pointer (some ⟨x.k, 0, none⟩), .bool true])) w') := hid (fun x w' h h1 h2 h3 => by rw [← hPO]; exact ⟨h, Or.inr ⟨x, rfl, h1, h2, h3⟩⟩)
  have HW0 := hid hw0
  have HRV := hid (fun W (hf : Frm [] w W) => hr.kept hf (by simp))
  have HOK := hid (fun v hv W (hf : Frm [] w W) => ((hk v hv).kept (hw0.trans hf (by simp)) (by simp) : RpOk W v))
  have HK := hid hk
  have HN := hid hn
  have HC := hid hc
  clear hr hk hn hc hPO hw0
  go_enter Try.func32, Try.ntmps32
  go_wp2_with fail
  go_loopw [5, 4] (fun i s4 wr => ∃ (t : Nat) (q : Option Addr) (cq : Nat) (out : List Rp), t ≤ n ∧ i = .int .i64 (t : Int) ∧ s4 = .slice q t cq ∧ Hid (out.map Rp.x = (ls.take t).map Rp.x ∧ OwnL wr q t cq out ∧ Fresh w wr q out ∧ (∀ k ∈ blk q, w.heap.size ≤ k) ∧ Frm [] w wr)) (fun i _ _ => n - (intOf i).toNat)
  case atStart => exact ⟨0, none, 0, [], Nat.zero_le _, rfl, rfl, hid ⟨rfl, ⟨⟨rfl, Or.inl ⟨rfl, rfl⟩⟩, rfl⟩, by simp [Fresh], by simp [blk], Frm.refl _ _⟩⟩
  case round =>
    obtain ⟨t, q, cq, out, ht, rfl, rfl, hin⟩ := hrel
    by_cases hlt : t < n
    · have t1 : (t : Int) < (n : Int) := by omega
      obtain ⟨v, hv⟩ : ∃ v, ls[t]? = some v := ⟨_, List.getElem?_eq_getElem (by rw [HN.out]; exact hlt)⟩
      have HTK : Hid ((ls.take (t + 1)).map Rp.x = (ls.take t).map Rp.x ++ [v.x]) := hid (by rw [List.take_add_one, hv, Option.toList_some, List.map_append]; rfl)
      have hrr := HRV.out wr hin.out.2.2.2.2
      rcases hrr with h0 | ⟨g, o, rfl, hcs⟩
      · exact absurd (rowsR_get ls t v hv 0 _ rfl) (by rw [h0]; simp)
      have hle := lent24_any v wr (HOK.out v (List.mem_of_getElem? hv) wr hin.out.2.2.2.2)
      obtain ⟨⟨s, id, er, nu, tx, ss, ds⟩, lp, lc, dp, dc⟩ := v
      have q0 : wr.cell? ⟨g, o + t * 7, none⟩ = some (.int .i64 s) := hcs _ _ (rowsR_get ls t _ hv 0 _ rfl)
      have q1 : wr.cell? ⟨g, o + t * 7 + 1, none⟩ = some (.int .i64 id) := hcs _ _ (rowsR_get ls t _ hv 1 _ rfl)
      have q2 : wr.cell? ⟨g, o + t * 7 + 2, none⟩ = some (.int .i64 er) := hcs _ _ (rowsR_get ls t _ hv 2 _ rfl)
      have q3 : wr.cell? ⟨g, o + t * 7 + 3, none⟩ = some (.int .i64 nu) := hcs _ _ (rowsR_get ls t _ hv 3 _ rfl)
      have q4 : wr.cell? ⟨g, o + t * 7 + 4, none⟩ = some (.string tx) := hcs _ _ (rowsR_get ls t _ hv 4 _ rfl)
      have q5 : wr.cell? ⟨g, o + t * 7 + 5, none⟩ = some (.slice lp ss.length lc) := hcs _ _ (rowsR_get ls t _ hv 5 _ rfl)
      have q6 : wr.cell? ⟨g, o + t * 7 + 6, none⟩ = some (.slice dp ds.length dc) := hcs _ _ (rowsR_get ls t _ hv 6 _ rfl)
      unfold Rp.agg at hle
      simp only at hle
      have HLE := hid hle
      have HIN := hid hin.out
      clear hcs hv hle hin
      go_wp2_with fail
      refine HLE.out.mono ?_
      rintro e w6 ⟨v6, rfl, hx6, hr6, hf6, hb6, ho6⟩
      have HX6 := hid hx6
      have HR6 := hid hr6
      have HF6 := hid hf6
      have HB6 := hid hb6
      have HO6 := hid ho6
      clear hx6 hr6 hf6 hb6 ho6 HLE q0 q1 q2 q3 q4 q5 q6
      obtain ⟨⟨s6, id6, er6, nu6, tx6, ss6, ds6⟩, lp6, lc6, dp6, dc6⟩ := v6
      simp only
      have ha := (Frm.refl [] w6).alloc (.cells #[.int .i64 s6, .int .i64 id6, .int .i64 er6, .int .i64 nu6, .string tx6, .slice lp6 ss6.length lc6, .slice dp6 ds6.length dc6] 61)
      have HRVB := hid (rv_block (heap_alloc_new w6 (.cells #[.int .i64 s6, .int .i64 id6, .int .i64 er6, .int .i64 nu6, .string tx6, .slice lp6 ss6.length lc6, .slice dp6 ds6.length dc6] 61)))
      have HA := hid ha
      have HOW := hid (ownsRow_kept HIN.out.2.1.1 (HF6.out.trans ha (by simp)) (by simp))
      clear ha
      go_wp2_with (at_builtin; refine wpList_appV rfl _ _ 52 rfl 61 7 96 _ Try.underlying52 infoRp rfl (by decide) q t cq (rowsR out) rfl HOW.out (some ⟨w6.heap.size, 0, none⟩) 1 1 [.int .i64 s6, .int .i64 id6, .int .i64 er6, .int .i64 nu6, .string tx6, .slice lp6 ss6.length lc6, .slice dp6 ds6.length dc6] rfl rfl (by simp) HRVB.out (by intro u hu; simp at hu; rcases hu with rfl | rfl | rfl | rfl | rfl | rfl | rfl <;> rfl) (by unfold maxLen; omega) (by omega) ?_)
      intro p7 c7 w7 ho7 hf7 hb7
      have HIN7 : Hid ((out ++ [(⟨⟨s6, id6, er6, nu6, tx6, ss6, ds6⟩, lp6, lc6, dp6, dc6⟩ : Rp)]).map Rp.x = (ls.take (t + 1)).map Rp.x ∧ OwnL w7 p7 (t + 1) c7 (out ++ [(⟨⟨s6, id6, er6, nu6, tx6, ss6, ds6⟩, lp6, lc6, dp6, dc6⟩ : Rp)]) ∧ Fresh w w7 p7 (out ++ [(⟨⟨s6, id6, er6, nu6, tx6, ss6, ds6⟩, lp6, lc6, dp6, dc6⟩ : Rp)]) ∧ (∀ k ∈ blk p7, w.heap.size ≤ k) ∧ Frm [] w w7) := hid (by
        obtain ⟨a1, a2, a3, a4, a5⟩ := HIN.out
        have hz6 := HF6.out.size
        have hza := HA.out.size
        have hz7 := hf7.out.size
        have hz1 := a5.size
        have hzn : (w6.alloc (.cells #[.int .i64 s6, .int .i64 id6, .int .i64 er6, .int .i64 nu6, .string tx6, .slice lp6 ss6.length lc6, .slice dp6 ds6.length dc6] 61)).heap.size = w6.heap.size + 1 := by simp
        have hlow := ownsRow_low a2.1
        have hbk : ∀ k ∈ blk p7, k ∈ blk q ∨ w6.heap.size ≤ k := fun k hk => (hb7.out k hk).imp (fun h => h) (fun h => by omega)
        have hF : Frm (blk q) wr w7 := ((HF6.out.trans HA.out (by simp)).mono (by simp)).trans hf7.out (fun k hk _ => hk)
        refine ⟨?_, ⟨by rw [rowsR_app]; exact ho7.out, by rw [List.length_append, a2.2]; rfl⟩, fun u hu => ?_, fun k hk => ?_, ?_⟩
        · rw [HTK.out, List.map_append, a1, List.map_singleton]; exact congrArg (fun q => _ ++ [q]) HX6.out
        · rcases List.mem_append.1 hu with hu | hu
          · obtain ⟨b1, b2, b3⟩ := a3 u hu
            exact ⟨b1.kept hF (fun k hk hm => (b3 k hk).2.2 hm), b2.kept hF (fun k hk hm => (b3 k hk).2.2 hm), fun k hk => ⟨(b3 k hk).1, by have := (b3 k hk).2.1; omega, fun hm => by
              rcases hbk k hm with h | h
              · exact (b3 k hk).2.2 h
              · have := (b3 k hk).2.1; omega⟩⟩
          · rw [List.mem_singleton] at hu
            subst hu
            have hF6 : Frm (blk q) w6 w7 := (HA.out.mono (by simp)).trans hf7.out (fun k hk _ => hk)
            have hnp : ∀ k ∈ Rp.B ⟨⟨s6, id6, er6, nu6, tx6, ss6, ds6⟩, lp6, lc6, dp6, dc6⟩, k ∉ blk q := fun k hk hm => by have := (HB6.out k hk).1; have := hlow k hm; omega
            exact ⟨HR6.out.kept hF6 hnp, HO6.out.kept hF6 hnp, fun k hk => ⟨by have := (HB6.out k hk).1; omega, by have := (HB6.out k hk).2; omega, fun hm => by
              rcases hbk k hm with h | h
              · exact hnp k hk h
              · have := (HB6.out k hk).2; omega⟩⟩
        · rcases hbk k hk with h | h
          · exact a4 k h
          · omega
        · exact a5.trans hF (fun k hk hkl => by have := a4 k hk; omega))
      clear ho7 hf7 hb7 HOW HRVB HA HIN
      go_wp2_with fail
      go_roundw
      case rel => exact ⟨t + 1, p7, c7, _, by omega, by go_num, by go_num, HIN7⟩
      case measure => first | (simp [intOf]; done) | (simp [intOf]; omega)
    · obtain rfl : t = n := by omega
      have HXE : Hid (out.map Rp.x = ls.map Rp.x) := hid (by rw [hin.out.1, List.take_of_length_le (by rw [HN.out]; exact Nat.le_refl _)])
      have HO := hid hin.out.2.1
      have HFR := hid hin.out.2.2.1
      have HQ := hid hin.out.2.2.2.1
      have HFW := hid hin.out.2.2.2.2
      have hld := load24_any q t cq out wr HO.out.rv HO.out.2 (by omega) (fun v hv => (HFR.out v hv).1)
      rw [HXE.out] at hld
      have HLD := hid hld
      clear hld hin
      obtain ⟨wm, rfl⟩ : ∃ z, z = wr := ⟨_, rfl⟩
      go_wp2_with fail
      refine HLD.out.mono ?_
      intro e w4 hlp
      obtain ⟨hf4, xp, E, rfl, hlv⟩ := hlp.v
      have HLV := hid hlv
      have HF4 := hid hf4
      have HSP0 := hid (SpL.start (HO.out.kept hf4 (by simp)))
      have HSO := hid (fun v hv => (((HFR.out v hv).2.1).kept hf4 (by simp)).sp)
      have HRB := hid (fun v hv j hj => ((HFR.out v hv).2.2 j hj).2.2)
      have HNEW : Hid (∀ j ∈ blk q ++ out.flatMap Rp.B, w.heap.size ≤ j ∧ j < wm.heap.size) := hid (fun j hj => by
        rcases List.mem_append.1 hj with h | h
        · exact ⟨HQ.out j h, ownsRow_low HO.out.1 j h⟩
        · obtain ⟨v, hv, h⟩ := List.mem_flatMap.1 h
          exact ⟨((HFR.out v hv).2.2 j h).1, ((HFR.out v hv).2.2 j h).2.1⟩)
      have HON := hid HO.out.2
      have HRL := hid (fun v hv => (HFR.out v hv).1)
      clear hlp hlv hf4 HLD HO HFR HQ
      go_wp2_with fail
      go_loopw [8] (fun i wr => ∃ k : Nat, k ≤ t ∧ i = .int .i64 (k : Int) ∧ Hid (SpL w4 wr q out k)) (fun i _ => t - (intOf i).toNat)
      case atStart => exact ⟨0, Nat.zero_le _, rfl, HSP0⟩
      case round =>
        obtain ⟨k, hk, rfl, hin⟩ := hrel
        by_cases hlt2 : k < t
        · have t1 : (k : Int) < (t : Int) := by omega
          obtain ⟨v, hv⟩ : ∃ v, out[k]? = some v := ⟨_, List.getElem?_eq_getElem (by rw [HON.out]; exact hlt2)⟩
          obtain ⟨g, cur, rfl, hg, hcs⟩ := hin.out.at hv
          have hsp := spoilS_any v wr ((HSO.out v (List.mem_of_getElem? hv)).kept hin.out.sh) ⟨by have := (HRL.out v (List.mem_of_getElem? hv)).lb; omega, by have := (HRL.out v (List.mem_of_getElem? hv)).db; omega⟩
          have HNX := hid (fun w1 (y : Value) hf hs => hin.out.next (w1 := w1) (j0 := 0) (y := y) hv rfl hg (by omega) hf hs (HRB.out v (List.mem_of_getElem? hv)))
          obtain ⟨⟨s1, id1, er1, nu1, tx1, ss1, ds1⟩, vp, vc, vq, vd⟩ := v
          have q0 : wr.cell? ⟨g, k * 7, none⟩ = some (.int .i64 s1) := hcs 0 _ rfl
          have q1 : wr.cell? ⟨g, k * 7 + 1, none⟩ = some (.int .i64 id1) := hcs 1 _ rfl
          have q2 : wr.cell? ⟨g, k * 7 + 2, none⟩ = some (.int .i64 er1) := hcs 2 _ rfl
          have q3 : wr.cell? ⟨g, k * 7 + 3, none⟩ = some (.int .i64 nu1) := hcs 3 _ rfl
          have q4 : wr.cell? ⟨g, k * 7 + 4, none⟩ = some (.string tx1) := hcs 4 _ rfl
          have q5 : wr.cell? ⟨g, k * 7 + 5, none⟩ = some (.slice vp ss1.length vc) := hcs 5 _ rfl
          have q6 : wr.cell? ⟨g, k * 7 + 6, none⟩ = some (.slice vq ds1.length vd) := hcs 6 _ rfl
          have HB := hid (fun w1 (hf : Frm (Rp.B ⟨⟨s1, id1, er1, nu1, tx1, ss1, ds1⟩, vp, vc, vq, vd⟩) wr w1) => (hf.cell (p := ⟨g, k * 7, none⟩) (World.block_lt_of_cell? wr _ q0) (fun hm => HRB.out _ (List.mem_of_getElem? hv) g hm (by simp [blk]))).trans q0)
          unfold Rp.agg at hsp
          simp only at hsp
          have HSPC := hid hsp
          clear hsp hcs hv hg
          go_wp2_with fail
          refine HSPC.out.mono ?_
          rintro e w5 ⟨rfl, hf5, hs5⟩
          obtain ⟨hg5, hn5⟩ := HNX.out w5 (.int .i64 (-1)) hf5 hs5
          have z1 : w5.frozen? ⟨g, k * 7, none⟩ = false := frozen_of_row _ _ _ _ _ hg5
          have q1' := HB.out w5 hf5
          have HN5 := hid hn5
          clear hf5 hs5 hg5 hn5 HNX HB HSPC q0 q1 q2 q3 q4 q5 q6
          go_wp2_with fail
          go_roundw
          case rel => exact ⟨k + 1, by omega, by go_num, HN5⟩
          case measure => first | (simp [intOf]; done) | (simp [intOf]; omega)
        · have HS := hid hin.out.fr
          have HFZ := hid ((HFW.out.trans HF4.out (by simp)).trans hin.out.fr (fun j hj hl => by have := (HNEW.out j hj).1; omega))
          clear hin
          have hrl := rload24_any p t c ls wr (HRV.out wr HFZ.out) HN.out (by omega) HC.out (fun v hv => HOK.out v hv wr HFZ.out)
          have HRL := hid hrl
          clear hrl
          go_wp2_with fail
          refine HRL.out.mono ?_
          intro e w8 hlr
          obtain ⟨hf8, hcase⟩ := hlr
          have HF8 := hid (HFZ.out.trans hf8 (by simp))
          rcases HLV.out with ⟨hk0, rfl, rfl⟩ | ⟨hk0, b, pl, vs, rfl, rfl, hts, hkv, htab, hfn, hvn⟩
          · rcases hcase with ⟨_, rfl⟩ | ⟨h1, _⟩
            · clear hk0 hf8
              go_wp2_with fail
              first | go_returns | skip
              exact HP1.out _ HF8.out
            · rw [hk0] at h1; cases h1
          · rcases hcase with ⟨h1, _⟩ | ⟨_, d, qd, cd, rfl, hrt, hdn, hqn⟩
            · rw [hk0] at h1; cases h1
            · have hsz4 := HF4.out.size
              have hszr := HS.out.size
              have hsz8 := hf8.size
              have hszw := HFW.out.size
              have hal : Alike ls vs := ⟨hkv.symm, htab, hts.ib⟩
              have ht8 : TS w8 b pl vs 0 0 0 := (hts.kept HS.out (fun j hj hm => by have := hfn j hj; have := (HNEW.out j hm).2; omega) (fun v hv j hj hm => by have := hvn v hv j hj; have := (HNEW.out j hm).2; omega)).k0 hf8
              have hfb : ∀ j ∈ foot24 b pl, j < wr.heap.size := fun j hj => by have := hts.low j hj; omega
              have hvb : ∀ v ∈ vs, ∀ j ∈ v.B, j < wr.heap.size := fun v hv j hj => by have := ((hts.ok v hv).2 j hj).2; omega
              have hfd : ∀ j ∈ footR d qd, wr.heap.size ≤ j ∧ j < w8.heap.size := fun j hj => by
                simp only [footR, List.mem_cons] at hj
                rcases hj with rfl | hj
                · exact ⟨hdn, lt_of_heap hrt.st⟩
                · exact ⟨hqn j hj, ownsRow_low hrt.own.1 j hj⟩
              have HFIN : Hid (∀ Z, Z = Obj.cells #[.pointer (some ⟨b, 0, none⟩), .pointer (some ⟨d, 0, none⟩)] 56 (0, 0) → PQ w0 (w8.alloc Z) ⟨w8.heap.size, b, pl, vs, 0, 0, 0, d, qd, cd, ls, 0, 0, 0⟩ ∧ (∀ j ∈ PrD.foot ⟨w8.heap.size, b, pl, vs, 0, 0, 0, d, qd, cd, ls, 0, 0, 0⟩, w.heap.size ≤ j) ∧ Frm [] w (w8.alloc Z)) := hid (fun Z hZ => by
                have hfz : Frm [] w8 (w8.alloc Z) := (Frm.refl [] _).alloc _
                have hzs : (w8.alloc Z).heap.size = w8.heap.size + 1 := by simp
                have hmm : ∀ j ∈ PrD.foot ⟨w8.heap.size, b, pl, vs, 0, 0, 0, d, qd, cd, ls, 0, 0, 0⟩, w.heap.size ≤ j ∧ j < w8.heap.size + 1 := fun j hj => by
                  rcases PrD.mem_foot.1 hj with rfl | h | h | ⟨v, hv, h⟩
                  · simp only; omega
                  · have := hfn j h; have := hfb j h; omega
                  · have := hfd j h; omega
                  · have := hvn v hv j h; have := hvb v hv j h; omega
                have hw0z := HW0.out.size
                refine ⟨⟨HW0.out.trans (HF8.out.trans hfz (by simp)) (by simp), ?_, ht8.k0 hfz, hrt.k0 hfz, HK.out, fun j hj => by have := hmm j hj; omega, ⟨fun hm => by have := hfb _ hm; simp only at this; omega, fun hm => by have := (hfd _ hm).2; simp only at this; omega, fun v hv hm => by have := hvb v hv _ hm; simp only at this; omega⟩, fun j hj hm => by have := hfb j hj; have := (hfd j hm).1; omega, fun v hv j hj hm => by have := hvb v hv j hj; have := (hfd j hm).1; omega⟩, fun j hj => (hmm j hj).1, HF8.out.trans hfz (by simp)⟩
                rw [hZ]; exact heap_alloc_new _ _)
              have HAL := hid hal
              clear hk0 hf8 hrt hdn hqn hts hkv htab hfn hvn hal ht8 hfb hvb hfd hsz4 hszr hsz8 hszw
              go_wp2_with fail
              first | go_returns | skip
              obtain ⟨f1, f2, f3⟩ := HFIN.out _ rfl
              exact HP2.out _ _ f3 f1 ⟨HAL.out, rfl, rfl, rfl⟩ f2
end Go.Proofs.Ytbgochkmplacaaa
