/- Something spoiled keeps its shape; the law's does: All. -/
import Derived.Test.YtbgochkmplacaaaSsAb
namespace Go.Proofs.Ytbgochkmplacaaa
open Go.RowKit Go.Lib
set_option maxRecDepth 100000

/-- Each block keeps its kind and its size. -/
def Shp (w w' : World) : Prop := ∀ (g : Nat) (cur : Array Value) (T : TypeId), w.heap[g]? = some (Obj.cells cur T (0, 0)) → ∃ cur' : Array Value, w'.heap[g]? = some (Obj.cells cur' T (0, 0)) ∧ cur'.size = cur.size
theorem Shp.refl (w : World) : Shp w w := fun _ cur _ h => ⟨cur, h, rfl⟩
theorem Shp.trans {w w1 w2 : World} (h : Shp w w1) (h2 : Shp w1 w2) : Shp w w2 := fun g cur T hg => by
  obtain ⟨c1, a1, b1⟩ := h g cur T hg
  obtain ⟨c2, a2, b2⟩ := h2 g c1 T a1
  exact ⟨c2, a2, by omega⟩
theorem Shp.of {w w' : World} (h : Frm [] w w') : Shp w w' := fun g cur T hg => ⟨cur, h.heap hg (by simp), rfl⟩
theorem Shp.set {w : World} {g t : Nat} {cur : Array Value} {T : TypeId} {v : Value} (hg : w.heap[g]? = some (.cells cur T (0, 0))) : Shp w (w.setCell ⟨g, t, none⟩ v) := fun g' cur' T' h => by
  by_cases e : g' = g
  · subst e
    rw [hg] at h
    simp only [Option.some.injEq, Obj.cells.injEq] at h
    obtain ⟨rfl, rfl, _⟩ := h
    exact ⟨_, heap_setCell_same w g' t _ _ v hg, by simp⟩
  · have hf : Frm [g] w (w.setCell ⟨g, t, none⟩ v) := (Frm.refl _ _).setCell _ _ (by simp)
    exact ⟨cur', hf.heap h (by simpa using e), rfl⟩
/-- A reply whose lists lie in blocks that may be written. -/
structure SpOk (w : World) (v : Rp) : Prop where
  l : v.x.ss.length = 0 ∨ ∃ g cur, v.lp = some ⟨g, 0, none⟩ ∧ w.heap[g]? = some (.cells cur 9 (0, 0)) ∧ v.x.ss.length ≤ cur.size
  d : v.x.ds.length = 0 ∨ ∃ g cur, v.dp = some ⟨g, 0, none⟩ ∧ w.heap[g]? = some (.cells cur 5 (0, 0)) ∧ v.x.ds.length ≤ cur.size
  ne : ∀ k ∈ blk v.lp, k ∉ blk v.dp
theorem SpOk.kept {w w' : World} {v : Rp} (h : SpOk w v) (hs : Shp w w') : SpOk w' v := by
  refine ⟨?_, ?_, h.ne⟩
  · rcases h.l with h | ⟨g, cur, h1, h2, h3⟩
    · exact Or.inl h
    · obtain ⟨c, h4, h5⟩ := hs g cur _ h2
      exact Or.inr ⟨g, c, h1, h4, by omega⟩
  · rcases h.d with h | ⟨g, cur, h1, h2, h3⟩
    · exact Or.inl h
    · obtain ⟨c, h4, h5⟩ := hs g cur _ h2
      exact Or.inr ⟨g, c, h1, h4, by omega⟩
theorem RpOwn.sp {w : World} {v : Rp} (h : RpOwn w v) : SpOk w v := ⟨owns_block h.l, owns_block (show w.ownsRow 0 5 1 (.slice v.dp v.x.ds.length v.dc) v.x.ds.length (bv v.x.ds) from h.d), h.ne⟩
set_option maxHeartbeats 6400000 in
theorem spoilS_any (v : Rp) (w : World) (h : SpOk w v) (hb : v.x.ss.length ≤ 4611686018427387904 ∧ v.x.ds.length ≤ 4611686018427387904) :
    Calls Try.prog 55 #[v.agg] w fun e w' => e = .returned (.tuple #[]) ∧ Frm v.B w w' ∧ Shp w w' := by
  obtain ⟨PO, hPO⟩ : ∃ PO : Ending → World → Prop, (fun e w' => e = .returned (.tuple #[]) ∧ Frm v.B w w' ∧ Shp w w') = PO := ⟨_, rfl⟩
  rw [hPO]
  have HP : Hid (∀ w', Frm v.B w w' → Shp w w' → PO (.returned (.tuple #[])) w') := hid (fun w' h1 h2 => by rw [← hPO]; exact ⟨rfl, h1, h2⟩)
  obtain ⟨⟨s, id, er, nu, tx, ss, ds⟩, lp, lc, dp, dc⟩ := v
  unfold Rp.agg
  simp only at hb
  simp only [Rp.B] at HP
  simp only
  obtain ⟨n, hn⟩ : ∃ q, ss.length = q := ⟨_, rfl⟩
  obtain ⟨m, hm⟩ : ∃ q, ds.length = q := ⟨_, rfl⟩
  have hL := h.l
  have hD := h.d
  simp only at hD
  rw [hm] at hD
  simp only at hL
  have hne := h.ne
  simp only at hne
  rw [hn] at hL hb ⊢
  rw [hm] at hb ⊢
  obtain ⟨hb1, hb2⟩ := hb
  obtain ⟨bx, hbx⟩ : ∃ q, w.heap.size = q := ⟨_, rfl⟩
  obtain ⟨wa, hwa⟩ : ∃ q, w.alloc (.cells #[.int .i64 s, .int .i64 id, .int .i64 er, .int .i64 nu, .string tx, .slice lp n lc, .slice dp m dc] 61) = q := ⟨_, rfl⟩
  have hfx : Frm [] w wa := by rw [← hwa]; exact (Frm.refl _ _).alloc _
  have HX : Hid (wa.heap[bx]? = some (.cells #[.int .i64 s, .int .i64 id, .int .i64 er, .int .i64 nu, .string tx, .slice lp n lc, .slice dp m dc] 61 (0, 0))) := hid (by rw [← hwa]; exact heap_alloc_to _ _ hbx)
  have HLB : Hid (n = 0 ∨ ∃ g cur, lp = some ⟨g, 0, none⟩ ∧ wa.heap[g]? = some (.cells cur 9 (0, 0)) ∧ n ≤ cur.size) := hid (hL.imp (fun h => h) (fun ⟨g, cur, h1, h2, h3⟩ => ⟨g, cur, h1, hfx.heap h2 (by simp), h3⟩))
  have HDB : Hid (m = 0 ∨ ∃ g cur, dp = some ⟨g, 0, none⟩ ∧ wa.heap[g]? = some (.cells cur 5 (0, 0)) ∧ m ≤ cur.size) := hid (hD.imp (fun h => h) (fun ⟨g, cur, h1, h2, h3⟩ => ⟨g, cur, h1, hfx.heap h2 (by simp), h3⟩))
  have HLN : Hid (n ≠ 0 → ∀ k ∈ blk lp, k ≠ bx) := hid (fun h0 k hk e => by
    rcases hL with h | ⟨g, cur, h1, h2, h3⟩
    · exact h0 h
    · rw [h1] at hk; simp [blk] at hk; have := lt_of_heap h2; omega)
  have HDN : Hid (m ≠ 0 → ∀ k ∈ blk dp, k ≠ bx) := hid (fun h0 k hk e => by
    rcases hD with h | ⟨g, cur, h1, h2, h3⟩
    · exact h0 h
    · rw [h1] at hk; simp [blk] at hk; have := lt_of_heap h2; omega)
  have HNE := hid hne
  have HFX := hid hfx
  have HWA := hid hwa
  have HBX := hid hbx
  clear hPO h hL hD hne hn hm hbx hwa hfx
  go_enter Try.func55, Try.ntmps55
  go_upto_region 1 with fail
  rw [HBX.out, HWA.out]
  clear HWA
  go_wp2_with fail
  go_loopw [2] (fun i wr => ∃ t : Nat, t ≤ n ∧ i = .int .i64 (t : Int) ∧ Hid (Frm (blk lp) wa wr ∧ Shp wa wr ∧ wr.heap[bx]? = some (.cells #[.int .i64 s, .int .i64 id, .int .i64 er, .int .i64 nu, .string tx, .slice lp n lc, .slice dp m dc] 61 (0, 0)) ∧ (n = 0 ∨ ∃ g cur, lp = some ⟨g, 0, none⟩ ∧ wr.heap[g]? = some (.cells cur 9 (0, 0)) ∧ n ≤ cur.size))) (fun i _ => n - (intOf i).toNat)
  case atStart => exact ⟨0, Nat.zero_le _, rfl, hid ⟨Frm.refl _ _, Shp.refl _, HX.out, HLB.out⟩⟩
  case round =>
    obtain ⟨t, ht, rfl, hin⟩ := hrel
    have x5 : wr.cell? ⟨bx, 5, none⟩ = some (.slice lp n lc) := by rw [cell_of_row _ _ _ _ _ _ hin.out.2.2.1]; rfl
    by_cases hlt : t < n
    · have t1 : (t : Int) < (n : Int) := by omega
      obtain ⟨g, cur, rfl, hg, hcs⟩ : ∃ g cur, lp = some ⟨g, 0, none⟩ ∧ wr.heap[g]? = some (.cells cur 9 (0, 0)) ∧ n ≤ cur.size := by
        rcases hin.out.2.2.2 with h | h
        · omega
        · exact h
      have y0 : wr.cell? ⟨g, t, none⟩ = some cur[t] := by rw [cell_of_row _ _ _ _ _ _ hg]; simp
      have z0 := frozen_of_row wr g t _ _ hg
      have h2 := heap_setCell_same wr g t _ _ (.string { data := #[63] }) hg
      have HIN2 : Hid (Frm (blk (some ⟨g, 0, none⟩)) wa (wr.setCell ⟨g, t, none⟩ (.string { data := #[63] })) ∧ Shp wa (wr.setCell ⟨g, t, none⟩ (.string { data := #[63] })) ∧ (wr.setCell ⟨g, t, none⟩ (.string { data := #[63] })).heap[bx]? = some (.cells #[.int .i64 s, .int .i64 id, .int .i64 er, .int .i64 nu, .string tx, .slice (some ⟨g, 0, none⟩) n lc, .slice dp m dc] 61 (0, 0)) ∧ (n = 0 ∨ ∃ g' cur, (some ⟨g, 0, none⟩ : Option Addr) = some ⟨g', 0, none⟩ ∧ (wr.setCell ⟨g, t, none⟩ (.string { data := #[63] })).heap[g']? = some (.cells cur 9 (0, 0)) ∧ n ≤ cur.size)) := hid (by
        have hf : Frm (blk (some ⟨g, 0, none⟩)) wr (wr.setCell ⟨g, t, none⟩ (.string { data := #[63] })) := (Frm.refl _ _).setCell _ _ (by simp [blk])
        exact ⟨hin.out.1.trans hf (fun k hk _ => hk), hin.out.2.1.trans (Shp.set hg), hf.heap hin.out.2.2.1 (fun hm => HLN.out (by omega) bx hm rfl), Or.inr ⟨g, _, rfl, h2, by simpa using hcs⟩⟩)
      clear hg h2 hin
      go_wp2_with fail
      go_roundw
      case rel => exact ⟨t + 1, by omega, by go_num, HIN2⟩
      case measure => first | (simp [intOf]; done) | (simp [intOf]; omega)
    · obtain rfl : n = t := by omega
      have HF1 := hid hin.out.1
      have HSH1 := hid hin.out.2.1
      have HX1 := hid hin.out.2.2.1
      have HDB1 : Hid (m = 0 ∨ ∃ g cur, dp = some ⟨g, 0, none⟩ ∧ wr.heap[g]? = some (.cells cur 5 (0, 0)) ∧ m ≤ cur.size) := hid (by
        rcases HDB.out with h | ⟨g, cur, h1, h2, h3⟩
        · exact Or.inl h
        · by_cases hm0 : m = 0
          · exact Or.inl hm0
          · refine Or.inr ⟨g, cur, h1, hin.out.1.heap h2 (fun hm => HNE.out g hm (by rw [h1]; simp [blk])), h3⟩)
      clear hin HDB
      go_wp2_with fail
      clear x5
      obtain ⟨wm, rfl⟩ : ∃ q, q = wr := ⟨_, rfl⟩
      go_loopw [3] (fun i w2 => ∃ t : Nat, t ≤ m ∧ i = .int .i64 (t : Int) ∧ Hid (Frm (blk dp) wm w2 ∧ Shp wm w2 ∧ w2.heap[bx]? = some (.cells #[.int .i64 s, .int .i64 id, .int .i64 er, .int .i64 nu, .string tx, .slice lp n lc, .slice dp m dc] 61 (0, 0)) ∧ (m = 0 ∨ ∃ g cur, dp = some ⟨g, 0, none⟩ ∧ w2.heap[g]? = some (.cells cur 5 (0, 0)) ∧ m ≤ cur.size))) (fun i _ => m - (intOf i).toNat)
      case atStart => exact ⟨0, Nat.zero_le _, rfl, hid ⟨Frm.refl _ _, Shp.refl _, HX1.out, HDB1.out⟩⟩
      case round =>
        obtain ⟨t, ht, rfl, hin⟩ := hrel
        have x6 : wr.cell? ⟨bx, 6, none⟩ = some (.slice dp m dc) := by rw [cell_of_row _ _ _ _ _ _ hin.out.2.2.1]; rfl
        by_cases hlt2 : t < m
        · have t1 : (t : Int) < (m : Int) := by omega
          obtain ⟨g, cur, rfl, hg, hcs⟩ : ∃ g cur, dp = some ⟨g, 0, none⟩ ∧ wr.heap[g]? = some (.cells cur 5 (0, 0)) ∧ m ≤ cur.size := by
            rcases hin.out.2.2.2 with h | h
            · omega
            · exact h
          have y0 : wr.cell? ⟨g, t, none⟩ = some cur[t] := by rw [cell_of_row _ _ _ _ _ _ hg]; simp
          have z0 := frozen_of_row wr g t _ _ hg
          have h2 := heap_setCell_same wr g t _ _ (.int .u8 99) hg
          have HIN2 : Hid (Frm (blk (some ⟨g, 0, none⟩)) wm (wr.setCell ⟨g, t, none⟩ (.int .u8 99)) ∧ Shp wm (wr.setCell ⟨g, t, none⟩ (.int .u8 99)) ∧ (wr.setCell ⟨g, t, none⟩ (.int .u8 99)).heap[bx]? = some (.cells #[.int .i64 s, .int .i64 id, .int .i64 er, .int .i64 nu, .string tx, .slice lp n lc, .slice (some ⟨g, 0, none⟩) m dc] 61 (0, 0)) ∧ (m = 0 ∨ ∃ g' cur, (some ⟨g, 0, none⟩ : Option Addr) = some ⟨g', 0, none⟩ ∧ (wr.setCell ⟨g, t, none⟩ (.int .u8 99)).heap[g']? = some (.cells cur 5 (0, 0)) ∧ m ≤ cur.size)) := hid (by
            have hf : Frm (blk (some ⟨g, 0, none⟩)) wr (wr.setCell ⟨g, t, none⟩ (.int .u8 99)) := (Frm.refl _ _).setCell _ _ (by simp [blk])
            exact ⟨hin.out.1.trans hf (fun k hk _ => hk), hin.out.2.1.trans (Shp.set hg), hf.heap hin.out.2.2.1 (fun hm => HDN.out (by omega) bx hm rfl), Or.inr ⟨g, _, rfl, h2, by simpa using hcs⟩⟩)
          clear hg h2 hin
          go_wp2_with fail
          go_roundw
          case rel => exact ⟨t + 1, by omega, by go_num, HIN2⟩
          case measure => first | (simp [intOf]; done) | (simp [intOf]; omega)
        · have HF2 := hid hin.out.1
          have HSH2 := hid hin.out.2.1
          clear hin
          go_wp2_with fail
          first | go_returns | skip
          exact HP.out _ (((HFX.out.mono (by simp)).trans (HF1.out.mono (fun k hk _ => by simp [hk])) (fun k hk _ => hk)).trans (HF2.out.mono (T := blk lp ++ blk dp) (fun k hk _ => by simp [hk])) (fun k hk _ => hk)) ((Shp.of HFX.out).trans (HSH1.out.trans HSH2.out))
/-- A list of replies that is spoiled from the front on: those from t on are as they were. -/
structure SpL (w wr : World) (p : Option Addr) (ls : List Rp) (t : Nat) : Prop where
  fr : Frm (blk p ++ ls.flatMap Rp.B) w wr
  sh : Shp w wr
  at_ : ls = [] ∨ ∃ g cur, p = some ⟨g, 0, none⟩ ∧ wr.heap[g]? = some (.cells cur 61 (0, 0)) ∧ ∀ i v, t ≤ i → ls[i]? = some v → ∀ j u, v.row[j]? = some u → cur[i * 7 + j]? = some u
theorem SpL.start {w : World} {p : Option Addr} {n c : Nat} {ls : List Rp} (h : OwnL w p n c ls) : SpL w w p ls 0 := by
  refine ⟨Frm.refl _ _, Shp.refl _, ?_⟩
  rcases h.1.2 with ⟨_, h0⟩ | ⟨g, c', cur, he, _, hg, hc, hm, hs, ht⟩
  · exact Or.inl (List.eq_nil_of_length_eq_zero (by rw [h.2]; exact h0))
  · simp only [Value.slice.injEq] at he
    refine Or.inr ⟨g, cur, he.1, hg, fun i v _ hv j u hu => ?_⟩
    have h1 := rowsR_get ls i v hv j u hu
    rw [← ht, List.getElem?_take] at h1
    split at h1
    · simpa using h1
    · cases h1
theorem SpL.at {w wr : World} {p : Option Addr} {ls : List Rp} {t : Nat} {v : Rp} (h : SpL w wr p ls t) (hv : ls[t]? = some v) : ∃ g cur, p = some ⟨g, 0, none⟩ ∧ wr.heap[g]? = some (.cells cur 61 (0, 0)) ∧ ∀ j u, v.row[j]? = some u → wr.cell? ⟨g, t * 7 + j, none⟩ = some u := by
  rcases h.at_ with h0 | ⟨g, cur, h1, h2, h3⟩
  · rw [h0] at hv; simp at hv
  · exact ⟨g, cur, h1, h2, fun j u hu => by rw [cell_of_row _ _ _ _ _ _ h2]; exact h3 t v (Nat.le_refl _) hv j u hu⟩
/-- One is spoiled, and one of its first cells written. -/
theorem SpL.next {w wr w1 : World} {p : Option Addr} {g : Nat} {cur : Array Value} {ls : List Rp} {t j0 : Nat} {v : Rp} {y : Value} (h : SpL w wr p ls t) (hv : ls[t]? = some v) (hp : p = some ⟨g, 0, none⟩) (hg : wr.heap[g]? = some (.cells cur 61 (0, 0))) (hj : j0 < 7) (hf : Frm v.B wr w1) (hs : Shp wr w1) (hB : ∀ k ∈ v.B, k ∉ blk p) :
    w1.heap[g]? = some (.cells cur 61 (0, 0)) ∧ SpL w (w1.setCell ⟨g, t * 7 + j0, none⟩ y) p ls (t + 1) := by
  have hg1 : w1.heap[g]? = some (.cells cur 61 (0, 0)) := hf.heap hg (fun hm => hB g hm (by rw [hp]; simp [blk]))
  have hF : Frm [g] w1 (w1.setCell ⟨g, t * 7 + j0, none⟩ y) := (Frm.refl _ _).setCell _ _ (by simp)
  refine ⟨hg1, (h.fr.trans (hf.mono (T := blk p ++ ls.flatMap Rp.B) (fun k hk _ => List.mem_append_right _ (List.mem_flatMap.2 ⟨v, List.mem_of_getElem? hv, hk⟩))) (fun k hk _ => hk)).trans (hF.mono (T := blk p ++ ls.flatMap Rp.B) (fun k hk _ => by rw [List.mem_singleton] at hk; subst hk; exact List.mem_append_left _ (by rw [hp]; simp [blk]))) (fun k hk _ => hk), h.sh.trans (hs.trans (Shp.set hg1)), ?_⟩
  rcases h.at_ with h0 | ⟨g', cur', h1, h2, h3⟩
  · exact Or.inl h0
  · have eg : g' = g := by rw [hp] at h1; simpa using h1.symm
    subst eg
    rw [hg] at h2
    simp only [Option.some.injEq, Obj.cells.injEq] at h2
    obtain ⟨rfl, _, _⟩ := h2
    refine Or.inr ⟨g', _, h1, heap_setCell_same w1 g' (t * 7 + j0) _ _ y hg1, fun i u hi hu j z hz => ?_⟩
    have hjz : j < 7 := (List.getElem?_eq_some_iff.1 hz).1
    have h4 := h3 i u (by omega) hu j z hz
    rw [Array.getElem?_setIfInBounds, if_neg (by omega)]
    exact h4
set_option maxHeartbeats 12800000 in
theorem does_all (w0 w : World) (x : PrD) (o : OpR) (h : PQ w0 w x) (hs : x.same) (hi : OpRIn w0 o) (hk0 : pickM o.kind 6 = 3) :
    Calls Try.prog 33 #[.pointer (some ⟨x.k, 0, none⟩), .agg o.row.toArray] w (DoesP w0 w x) := by
  obtain ⟨PO, hPO⟩ : ∃ PO : Ending → World → Prop, DoesP w0 w x = PO := ⟨_, rfl⟩
  rw [hPO]
  have HP : Hid (∀ x' w', Adv24 w0 w x w' x' → x'.same → PO (.returned (.bool true)) w') := hid (fun x' w' h1 h2 => by rw [← hPO]; exact ⟨rfl, x', h1, h2⟩)
  obtain ⟨xk, b, pl, vs, f, a, r, d, p, c, ls, f2, a2, r2⟩ := x
  obtain ⟨hal, h2f, h2a, h2r⟩ := hs
  simp only at hal h2f h2a h2r
  subst h2f h2a h2r
  have HAL := hid hal
  obtain ⟨kd, wh, ⟨⟨s, id, er, nu, tx, ss, ds⟩, lp, lc, dp, dc⟩, lq, ll, lr⟩ := o
  obtain ⟨hkd, hwh, hsb, hib, hok⟩ := hi
  simp only at hkd hsb hib hk0
  have HSB := hid hsb
  have HIB := hid hib
  have HOK := hid hok
  have HKB := hid hkd
  unfold OpR.row
  simp only
  obtain ⟨n, hn⟩ : ∃ q, ss.length = q := ⟨_, rfl⟩
  obtain ⟨m, hm⟩ : ∃ q, ds.length = q := ⟨_, rfl⟩
  have HN := hid hn
  have HM := hid hm
  rw [hn, hm]
  obtain ⟨bx, hbx⟩ : ∃ q, w.heap.size = q := ⟨_, rfl⟩
  obtain ⟨w1, hw1⟩ : ∃ q, w.alloc (.cells #[.int .i64 kd, .int .i64 wh, .int .i64 s, .int .i64 id, .int .i64 er, .int .i64 nu, .string tx, .slice lp n lc, .slice dp m dc, .slice lq ll lr] 63) = q := ⟨_, rfl⟩
  have hf1 : Frm [] w w1 := by rw [← hw1]; exact (Frm.refl _ _).alloc _
  have HX : Hid (w1.heap[bx]? = some (.cells #[.int .i64 kd, .int .i64 wh, .int .i64 s, .int .i64 id, .int .i64 er, .int .i64 nu, .string tx, .slice lp n lc, .slice dp m dc, .slice lq ll lr] 63 (0, 0))) := hid (by rw [← hw1]; exact heap_alloc_to _ _ hbx)
  have HA := hid ((Adv24.refl h).k0 hf1)
  have HNW := hid (fun j hj => (h.nw j hj).2)
  have HPK := hid (fun W => pick24_any kd 6 W HKB.out (by omega))
  have HW1 := hid hw1
  have HBX := hid hbx
  clear h hPO hal hkd hwh hsb hib hok hn hm hbx hw1 hf1
  go_enter Try.func33, Try.ntmps33
  go_upto_region 1 with fail
  rw [HBX.out, HW1.out]
  clear HW1
  have x0 : w1.cell? ⟨bx, 0, none⟩ = some (.int .i64 kd) := by rw [cell_of_row _ _ _ _ _ _ HX.out]; rfl
  go_wp2_with fail
  refine (HPK.out _).mono ?_
  rintro e w1' ⟨rfl, hww⟩
  subst hww
  clear x0
  rw [hk0]
  clear hk0
  have HAC := hid (all24_any b pl vs f2 a2 r2 w1' HA.out.q.t)
  have y0 : w1'.cell? ⟨xk, 0, none⟩ = some (.pointer (some ⟨b, 0, none⟩)) := by rw [cell_of_row _ _ _ _ _ _ HA.out.q.pb]; rfl
  go_wp2_with fail
  refine HAC.out.mono ?_
  rintro e w3 ⟨pl', p0, c0, ls', rfl, hx, ho, hfr, hp, hB, ht, hf, hnx⟩
  have HA3 := hid (HA.out.prog ht hf hnx (fun v hv => Or.inl hv))
  obtain ⟨n0, hn0⟩ : ∃ q, ls'.length = q := ⟨_, rfl⟩
  have hlen : n0 ≤ 8 := by
    have h1 := congrArg List.length hx
    have h2 := congrArg List.length HAL.out.eq
    have h3 := HAL.out.len
    rw [List.length_map] at h1 h2
    omega
  rw [hn0] at ho ⊢
  have HN0 := hid hn0
  have HX3 := hid hx
  have HO3 := hid ho
  have HFR := hid hfr
  have hsz := hf.size
  have hsz1 := HA.out.sz
  have HNEW : Hid (∀ j ∈ blk p0 ++ ls'.flatMap Rp.B, w.heap.size ≤ j ∧ j ∉ PrD.foot ⟨xk, b, pl', vs, f2, a2, r2, d, p, c, ls, f2, a2, r2⟩) := hid (fun j hj => by
    have h1 : w1'.heap.size ≤ j ∧ j ∉ foot24 b pl' := by
      rcases List.mem_append.1 hj with h | h
      · exact hp j h
      · obtain ⟨v, hv, h⟩ := List.mem_flatMap.1 h
        exact ⟨((hfr v hv).2.2 j h).1, hB v hv j h⟩
    refine ⟨by omega, fun hm => ?_⟩
    rcases PrD.mem_foot.1 hm with h | h | h | ⟨v, hv, h⟩
    · have := HNW.out j (PrD.mem_foot.2 (Or.inl h)); omega
    · exact h1.2 h
    · have := HNW.out j (PrD.mem_foot.2 (Or.inr (Or.inr (Or.inl h)))); omega
    · have := HNW.out j (PrD.mem_foot.2 (Or.inr (Or.inr (Or.inr ⟨v, hv, h⟩)))); omega)
  clear hx ho hfr hp hB ht hf hnx HAC y0 hn0 hsz hsz1
  have hq := HA3.out.q
  have y1 : w3.cell? ⟨xk, 1, none⟩ = some (.pointer (some ⟨d, 0, none⟩)) := by rw [cell_of_row _ _ _ _ _ _ hq.pb]; rfl
  obtain ⟨m0, hm0⟩ : ∃ q, ls.length = q := ⟨_, rfl⟩
  have hmn : m0 = n0 := by
    have h1 := congrArg List.length HX3.out
    have h2 := congrArg List.length HAL.out.eq
    rw [List.length_map] at h1 h2
    have := HN0.out
    omega
  subst hmn
  have y2 : w3.cell? ⟨d, 0, none⟩ = some (.slice p m0 c) := by rw [← hm0]; exact hq.rt.cells.1
  have hal := alls24_any p0 p m0 c0 c ls' ls w3 HO3.out.rv hq.rt.own.rv HN0.out hm0 (fun v hv => (HFR.out v hv).1) hq.rt.ok (by rw [HX3.out, HAL.out.eq]) (by omega)
  have HALS := hid hal
  clear hq hal hm0
  go_wp2_with fail
  refine HALS.out.mono ?_
  rintro e w4 ⟨rfl, hf4⟩
  have HA4 := hid (HA3.out.k0 hf4)
  have HSP0 := hid (SpL.start (HO3.out.kept hf4 (by simp)))
  have HSO := hid (fun v hv => (((HFR.out v hv).2.1).kept hf4 (by simp)).sp)
  have HRL := hid (fun v hv => (HFR.out v hv).1)
  have HRB := hid (fun v hv j hj => ((HFR.out v hv).2.2 j hj).2.2)
  clear y1 y2 HA3 HO3 HFR HALS hf4
  go_wp2_with fail
  go_loopw [17] (fun i wr => ∃ t : Nat, t ≤ m0 ∧ i = .int .i64 (t : Int) ∧ Hid (SpL w4 wr p0 ls' t)) (fun i _ => m0 - (intOf i).toNat)
  case atStart => exact ⟨0, Nat.zero_le _, rfl, HSP0⟩
  case round =>
    obtain ⟨t, ht, rfl, hin⟩ := hrel
    by_cases hlt : t < m0
    · have t1 : (t : Int) < (m0 : Int) := by omega
      obtain ⟨v, hv⟩ : ∃ v, ls'[t]? = some v := ⟨_, List.getElem?_eq_getElem (by rw [HN0.out]; exact hlt)⟩
      obtain ⟨g, cur, rfl, hg, hcs⟩ := hin.out.at hv
      have hsp := spoilS_any v wr ((HSO.out v (List.mem_of_getElem? hv)).kept hin.out.sh) ⟨by have := (HRL.out v (List.mem_of_getElem? hv)).lb; omega, by have := (HRL.out v (List.mem_of_getElem? hv)).db; omega⟩
      have HNX := hid (fun w1 (y : Value) hf hs => hin.out.next (w1 := w1) (j0 := 1) (y := y) hv rfl hg (by omega) hf hs (HRB.out v (List.mem_of_getElem? hv)))
      obtain ⟨⟨s1, id1, er1, nu1, tx1, ss1, ds1⟩, vp, vc, vq, vd⟩ := v
      have q0 : wr.cell? ⟨g, t * 7, none⟩ = some (.int .i64 s1) := hcs 0 _ rfl
      have q1 : wr.cell? ⟨g, t * 7 + 1, none⟩ = some (.int .i64 id1) := hcs 1 _ rfl
      have q2 : wr.cell? ⟨g, t * 7 + 2, none⟩ = some (.int .i64 er1) := hcs 2 _ rfl
      have q3 : wr.cell? ⟨g, t * 7 + 3, none⟩ = some (.int .i64 nu1) := hcs 3 _ rfl
      have q4 : wr.cell? ⟨g, t * 7 + 4, none⟩ = some (.string tx1) := hcs 4 _ rfl
      have q5 : wr.cell? ⟨g, t * 7 + 5, none⟩ = some (.slice vp ss1.length vc) := hcs 5 _ rfl
      have q6 : wr.cell? ⟨g, t * 7 + 6, none⟩ = some (.slice vq ds1.length vd) := hcs 6 _ rfl
      have HB := hid (fun w1 (hf : Frm (Rp.B ⟨⟨s1, id1, er1, nu1, tx1, ss1, ds1⟩, vp, vc, vq, vd⟩) wr w1) => (hf.cell (p := ⟨g, t * 7 + 1, none⟩) (World.block_lt_of_cell? wr _ q1) (fun hm => HRB.out _ (List.mem_of_getElem? hv) g hm (by simp [blk]))).trans q1)
      unfold Rp.agg at hsp
      simp only at hsp
      have HSPC := hid hsp
      clear hsp hcs hv hg
      go_wp2_with fail
      refine HSPC.out.mono ?_
      rintro e w5 ⟨rfl, hf5, hs5⟩
      obtain ⟨hg5, hn5⟩ := HNX.out w5 (.int .i64 (-1)) hf5 hs5
      have z1 : w5.frozen? ⟨g, t * 7 + 1, none⟩ = false := frozen_of_row _ _ _ _ _ hg5
      have q1' := HB.out w5 hf5
      have HN5 := hid hn5
      clear hf5 hs5 hg5 hn5 HNX HB HSPC q0 q1 q2 q3 q4 q5 q6
      go_wp2_with fail
      go_roundw
      case rel => exact ⟨t + 1, by omega, by go_num, HN5⟩
      case measure => first | (simp [intOf]; done) | (simp [intOf]; omega)
    · have HFIN := hid (HA4.out.spoil hin.out.fr HNEW.out)
      clear hin
      go_wp2_with fail
      first | go_returns | skip
      exact HP.out _ _ HFIN.out ⟨HAL.out, rfl, rfl, rfl⟩
end Go.Proofs.Ytbgochkmplacaaa
