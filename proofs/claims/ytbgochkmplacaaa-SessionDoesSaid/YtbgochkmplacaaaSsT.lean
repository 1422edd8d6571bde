/- The document's table of sessions: is, Of. -/
import Derived.Test.YtbgochkmplacaaaSsS
namespace Go.Proofs.Ytbgochkmplacaaa
open Go.RowKit Go.Lib
set_option maxRecDepth 100000

/-- Whether these are numbers of a request. -/
def is24 (s id : Int) : Bool := decide (1 ≤ s ∧ s ≤ 8 ∧ 1 ≤ id ∧ id ≤ 1073741824)
set_option maxHeartbeats 1600000 in
theorem is24_any (s id : Int) (w : World) : Calls Try.prog 73 #[.int .i64 s, .int .i64 id] w fun e w' => e = .returned (.bool (is24 s id)) ∧ w' = w := by
  obtain ⟨B, hB⟩ : ∃ q, is24 s id = q := ⟨_, rfl⟩
  rw [hB]
  have HB := hid hB
  clear hB
  go_enter Try.func73, Try.ntmps73
  by_cases h1 : 1 ≤ s
  · by_cases h2 : s ≤ 8
    · by_cases h3 : 1 ≤ id
      · by_cases h4 : id ≤ 1073741824
        · have HE : Hid (B = true) := hid (by rw [← HB.out]; simp [is24]; omega)
          rw [HE.out]
          go_wp2_with fail
          first | go_returns | skip
          exact ⟨rfl, rfl⟩
        · have HE : Hid (B = false) := hid (by rw [← HB.out]; simp [is24]; omega)
          rw [HE.out]
          go_wp2_with fail
          first | go_returns | skip
          exact ⟨rfl, rfl⟩
      · have HE : Hid (B = false) := hid (by rw [← HB.out]; simp [is24]; omega)
        rw [HE.out]
        go_wp2_with fail
        first | go_returns | skip
        exact ⟨rfl, rfl⟩
    · have HE : Hid (B = false) := hid (by rw [← HB.out]; simp [is24]; omega)
      rw [HE.out]
      go_wp2_with fail
      first | go_returns | skip
      exact ⟨rfl, rfl⟩
  · have HE : Hid (B = false) := hid (by rw [← HB.out]; simp [is24]; omega)
    rw [HE.out]
    go_wp2_with fail
    first | go_returns | skip
    exact ⟨rfl, rfl⟩
/-- The blocks that a reply's lists are read from. -/
def Rp.Bn (v : Rp) : List Nat := (if v.x.ss = [] then [] else blk v.lp) ++ (if v.x.ds = [] then [] else blk v.dp)
theorem Rp.bn_l {v : Rp} (h : v.x.ss ≠ []) {k : Nat} (hk : k ∈ blk v.lp) : k ∈ v.Bn := by unfold Rp.Bn; rw [if_neg h]; simp [hk]
theorem Rp.bn_d {v : Rp} (h : v.x.ds ≠ []) {k : Nat} (hk : k ∈ blk v.dp) : k ∈ v.Bn := by unfold Rp.Bn; rw [if_neg (show ¬ v.x.ds = [] from h)]; simp [hk]
theorem RpOk.keptN {w w' : World} {v : Rp} {S : List Nat} (h : RpOk w v) (hf : Frm S w w') (hn : ∀ k ∈ v.Bn, k ∉ S) : RpOk w' v := by
  refine ⟨?_, ?_, h.ln, h.dn, h.lb, h.db⟩
  · by_cases e : v.x.ss = []
    · exact Or.inl (by simp [strs, e])
    · exact h.l.kept hf (fun k hk => hn k (Rp.bn_l e hk))
  · by_cases e : v.x.ds = []
    · exact Or.inl e
    · exact h.d.kept hf (fun k hk => hn k (Rp.bn_d e hk))
theorem RpOk.lowN {w : World} {v : Rp} (h : RpOk w v) : ∀ k ∈ v.Bn, k < w.heap.size := fun k hk => by
  unfold Rp.Bn at hk
  rcases List.mem_append.1 hk with hk | hk
  · split at hk
    · cases hk
    · rename_i e
      obtain ⟨s, l, hs⟩ := List.exists_cons_of_ne_nil e
      rcases h.l with h0 | ⟨g, o, hp, hc⟩
      · rw [hs] at h0; simp [strs] at h0
      · have := hc 0 (.string s) (by rw [hs]; rfl)
        have hb := World.block_lt_of_cell? w _ this
        rw [hp] at hk; simp [blk] at hk; subst hk; exact hb
  · split at hk
    · cases hk
    · rename_i e
      exact h.d.lows e k hk
def footR (d : Nat) (p : Option Addr) : List Nat := d :: blk p
/-- A table of the document's: its block, its list, its counts. -/
structure RT (w : World) (d : Nat) (p : Option Addr) (c : Nat) (ls : List Rp) (f a r : Int) : Prop where
  st : w.heap[d]? = some (.cells #[.slice p ls.length c, .int .i64 f, .int .i64 a, .int .i64 r] 54 (0, 0))
  own : OwnL w p ls.length c ls
  ok : ∀ v ∈ ls, RpOk w v
  ap : d ∉ blk p
  bn : ∀ v ∈ ls, ∀ k ∈ v.Bn, k ∉ footR d p
theorem RT.kept {w w' : World} {d : Nat} {p : Option Addr} {c : Nat} {ls : List Rp} {f a r : Int} {T : List Nat} (h : RT w d p c ls f a r) (hf : Frm T w w') (h1 : ∀ k ∈ footR d p, k ∉ T) (h2 : ∀ v ∈ ls, ∀ k ∈ v.Bn, k ∉ T) : RT w' d p c ls f a r :=
  ⟨hf.heap h.st (h1 d (by simp [footR])), h.own.kept hf (fun k hk => h1 k (by simp [footR, hk])), fun v hv => (h.ok v hv).keptN hf (h2 v hv), h.ap, h.bn⟩
theorem RT.k0 {w w' : World} {d : Nat} {p : Option Addr} {c : Nat} {ls : List Rp} {f a r : Int} (h : RT w d p c ls f a r) (hf : Frm [] w w') : RT w' d p c ls f a r := h.kept hf (by simp) (by simp)
/-- A reply of an own list. -/
theorem OwnL.at {w : World} {p : Option Addr} {n c : Nat} {ls : List Rp} (h : OwnL w p n c ls) {t : Nat} {v : Rp} (hv : ls[t]? = some v) : ∃ g, p = some ⟨g, 0, none⟩ ∧ ∀ j u, v.row[j]? = some u → w.cell? ⟨g, t * 7 + j, none⟩ = some u := by
  have hlt := (List.getElem?_eq_some_iff.1 hv).1
  rw [h.2] at hlt
  rcases h.1.2 with ⟨_, h0⟩ | ⟨g, c', cur, he, _⟩
  · omega
  · have he' := he
    simp only [Value.slice.injEq] at he
    obtain ⟨rfl, _, _⟩ := he
    refine ⟨g, rfl, fun j u hu => ?_⟩
    have hj : j < 7 := (List.getElem?_eq_some_iff.1 hu).1
    rw [World.ownsRow.cellAt h.1 (t * 7 + j) (by omega)]
    exact rowsR_get ls t v hv j u hu
/-- What is kept of a session. -/
def of24 (ls : List Rp) (s : Int) : Rp := (ls.find? (fun v => decide (v.x.s = s))).getD rp0
theorem of24_drop {ls : List Rp} {t : Nat} {v : Rp} (h : ls[t]? = some v) (s : Int) : of24 (ls.drop t) s = if v.x.s = s then v else of24 (ls.drop (t + 1)) s := by
  rw [List.drop_eq_getElem_cons (List.getElem?_eq_some_iff.1 h).1, (List.getElem?_eq_some_iff.1 h).2]
  unfold of24
  by_cases e : v.x.s = s <;> simp [e]
set_option maxHeartbeats 6400000 in
theorem of24_any (d : Nat) (p : Option Addr) (c : Nat) (ls : List Rp) (f a r s0 : Int) (w : World) (h : RT w d p c ls f a r) (hb : ls.length ≤ 4611686018427387904) :
    Calls Try.prog 61 #[.pointer (some ⟨d, 0, none⟩), .int .i64 s0] w fun e w' => e = .returned (of24 ls s0).agg ∧ Frm [] w w' := by
  obtain ⟨PO, hPO⟩ : ∃ PO : Ending → World → Prop, (fun e w' => e = .returned (of24 ls s0).agg ∧ Frm [] w w') = PO := ⟨_, rfl⟩
  rw [hPO]
  have HP : Hid (∀ v w', of24 ls s0 = v → Frm [] w w' → PO (.returned v.agg) w') := hid (fun v w' h1 h2 => by rw [← hPO, ← h1]; exact ⟨rfl, h2⟩)
  obtain ⟨n, hn⟩ : ∃ q, ls.length = q := ⟨_, rfl⟩
  rw [hn] at hb
  have HN := hid hn
  obtain ⟨rb, hrb⟩ : ∃ q, w.heap.size = q := ⟨_, rfl⟩
  obtain ⟨w0, hw0⟩ : ∃ q, w.alloc (.cells #[.int .i64 0, .int .i64 0, .int .i64 0, .int .i64 0, .string { data := #[] }, .slice none 0 0, .slice none 0 0] 61) = q := ⟨_, rfl⟩
  have hf0 : Frm [] w w0 := by rw [← hw0]; exact (Frm.refl _ _).alloc _
  have HR0 : Hid (w0.heap[rb]? = some (.cells #[.int .i64 0, .int .i64 0, .int .i64 0, .int .i64 0, .string { data := #[] }, .slice none 0 0, .slice none 0 0] 61 (0, 0))) := hid (by rw [← hw0]; exact heap_alloc_to _ _ hrb)
  have H := hid (h.k0 hf0)
  have hst := (h.k0 hf0).st
  rw [hn] at hst
  have HST := hid hst
  have HF0 := hid hf0
  have HRB := hid hrb
  have HW0 := hid hw0
  clear h hPO hn hrb hw0 hf0 hst
  go_enter Try.func61, Try.ntmps61
  go_upto_region 1 with fail
  rw [HRB.out, HW0.out]
  clear HW0
  have c0 : w0.cell? ⟨d, 0, none⟩ = some (.slice p n c) := by rw [cell_of_row _ _ _ _ _ _ HST.out]; rfl
  go_wp2_with fail
  go_loopw [5] (fun i wr => ∃ t : Nat, t ≤ n ∧ i = .int .i64 (t : Int) ∧ Hid (wr = w0 ∧ of24 ls s0 = of24 (ls.drop t) s0)) (fun i _ => n - (intOf i).toNat)
  case atStart => exact ⟨0, Nat.zero_le _, rfl, hid ⟨rfl, rfl⟩⟩
  case round =>
    obtain ⟨t, ht, rfl, hin⟩ := hrel
    have hwr := hin.out.1
    have HEQ := hid hin.out.2
    subst hwr
    clear hin
    by_cases hlt : t < n
    · have t1 : (t : Int) < (n : Int) := by omega
      obtain ⟨v, hv⟩ : ∃ v, ls[t]? = some v := ⟨_, List.getElem?_eq_getElem (by rw [HN.out]; exact hlt)⟩
      obtain ⟨g, hg, hcs⟩ := H.out.own.at hv
      have HDR := hid (of24_drop hv s0)
      subst hg
      obtain ⟨⟨s, id, er, nu, tx, ss, ds⟩, lp, lc, dp, dc⟩ := v
      have q0 : wr.cell? ⟨g, t * 7, none⟩ = some (.int .i64 s) := hcs 0 _ rfl
      have q1 : wr.cell? ⟨g, t * 7 + 1, none⟩ = some (.int .i64 id) := hcs 1 _ rfl
      have q2 : wr.cell? ⟨g, t * 7 + 2, none⟩ = some (.int .i64 er) := hcs 2 _ rfl
      have q3 : wr.cell? ⟨g, t * 7 + 3, none⟩ = some (.int .i64 nu) := hcs 3 _ rfl
      have q4 : wr.cell? ⟨g, t * 7 + 4, none⟩ = some (.string tx) := hcs 4 _ rfl
      have q5 : wr.cell? ⟨g, t * 7 + 5, none⟩ = some (.slice lp ss.length lc) := hcs 5 _ rfl
      have q6 : wr.cell? ⟨g, t * 7 + 6, none⟩ = some (.slice dp ds.length dc) := hcs 6 _ rfl
      clear hcs hv
      by_cases he : s = s0
      · subst he
        go_upto_region 5 with fail
        have yy0 : wr.cell? ⟨rb, 0, none⟩ = some (.int .i64 0) := by rw [cell_of_row _ _ _ _ _ _ HR0.out]; rfl
        have zz0 := frozen_of_row wr rb 0 _ _ HR0.out
        have yy1 : wr.cell? ⟨rb, 1, none⟩ = some (.int .i64 0) := by rw [cell_of_row _ _ _ _ _ _ HR0.out]; rfl
        have zz1 := frozen_of_row wr rb 1 _ _ HR0.out
        have yy2 : wr.cell? ⟨rb, 2, none⟩ = some (.int .i64 0) := by rw [cell_of_row _ _ _ _ _ _ HR0.out]; rfl
        have zz2 := frozen_of_row wr rb 2 _ _ HR0.out
        have yy3 : wr.cell? ⟨rb, 3, none⟩ = some (.int .i64 0) := by rw [cell_of_row _ _ _ _ _ _ HR0.out]; rfl
        have zz3 := frozen_of_row wr rb 3 _ _ HR0.out
        have yy4 : wr.cell? ⟨rb, 4, none⟩ = some (.string { data := #[] }) := by rw [cell_of_row _ _ _ _ _ _ HR0.out]; rfl
        have zz4 := frozen_of_row wr rb 4 _ _ HR0.out
        have yy5 : wr.cell? ⟨rb, 5, none⟩ = some (.slice none 0 0) := by rw [cell_of_row _ _ _ _ _ _ HR0.out]; rfl
        have zz5 := frozen_of_row wr rb 5 _ _ HR0.out
        have yy6 : wr.cell? ⟨rb, 6, none⟩ = some (.slice none 0 0) := by rw [cell_of_row _ _ _ _ _ _ HR0.out]; rfl
        have zz6 := frozen_of_row wr rb 6 _ _ HR0.out
        go_wp2_with fail
        obtain ⟨h4, f4⟩ := sets_row rb 61 [(0, .int .i64 s), (1, .int .i64 id), (2, .int .i64 er), (3, .int .i64 nu), (4, .string tx), (5, .slice lp ss.length lc), (6, .slice dp ds.length dc)] wr _ HR0.out
        simp only [List.foldl, List.setIfInBounds_toArray, List.set_cons_zero, List.set_cons_succ] at h4
        obtain ⟨wz, hwz⟩ : ∃ wz, sets wr rb [(0, .int .i64 s), (1, .int .i64 id), (2, .int .i64 er), (3, .int .i64 nu), (4, .string tx), (5, .slice lp ss.length lc), (6, .slice dp ds.length dc)] = wz := ⟨_, rfl⟩
        rw [hwz] at h4 f4
        have hwz' : (((((((wr.setCell ⟨rb, 0, none⟩ (.int .i64 s)).setCell ⟨rb, 1, none⟩ (.int .i64 id)).setCell ⟨rb, 2, none⟩ (.int .i64 er)).setCell ⟨rb, 3, none⟩ (.int .i64 nu)).setCell ⟨rb, 4, none⟩ (.string tx)).setCell ⟨rb, 5, none⟩ (.slice lp ss.length lc)).setCell ⟨rb, 6, none⟩ (.slice dp ds.length dc)) = wz := hwz
        rw [hwz']
        have gg0 : wz.cell? ⟨rb, 0, none⟩ = some (.int .i64 s) := by rw [cell_of_row wz _ _ _ _ _ h4]; rfl
        have gg1 : wz.cell? ⟨rb, 1, none⟩ = some (.int .i64 id) := by rw [cell_of_row wz _ _ _ _ _ h4]; rfl
        have gg2 : wz.cell? ⟨rb, 2, none⟩ = some (.int .i64 er) := by rw [cell_of_row wz _ _ _ _ _ h4]; rfl
        have gg3 : wz.cell? ⟨rb, 3, none⟩ = some (.int .i64 nu) := by rw [cell_of_row wz _ _ _ _ _ h4]; rfl
        have gg4 : wz.cell? ⟨rb, 4, none⟩ = some (.string tx) := by rw [cell_of_row wz _ _ _ _ _ h4]; rfl
        have gg5 : wz.cell? ⟨rb, 5, none⟩ = some (.slice lp ss.length lc) := by rw [cell_of_row wz _ _ _ _ _ h4]; rfl
        have gg6 : wz.cell? ⟨rb, 6, none⟩ = some (.slice dp ds.length dc) := by rw [cell_of_row wz _ _ _ _ _ h4]; rfl
        have hFZ : Frm [] w wz := HF0.out.trans f4 (fun k hk hkl => by rw [List.mem_singleton] at hk; have := HRB.out; omega)
        exact bodyPost_ret (v := .agg #[.int .i64 s, .int .i64 id, .int .i64 er, .int .i64 nu, .string tx, .slice lp ss.length lc, .slice dp ds.length dc]) (by simp [results, Try.results61, go_sem, gg0, gg1, gg2, gg3, gg4, gg5, gg6]) rfl (HP.out ⟨⟨s, id, er, nu, tx, ss, ds⟩, lp, lc, dp, dc⟩ wz (by have h := HEQ.out.trans HDR.out; simpa using h) hFZ)
      · have HEQ2 : Hid (of24 ls s0 = of24 (ls.drop (t + 1)) s0) := hid (by rw [HEQ.out, HDR.out, if_neg he])
        go_wp2_with fail
        go_roundw
        case rel => exact ⟨t + 1, by omega, by go_num, hid ⟨by first | trivial | rfl, HEQ2.out⟩⟩
        case measure => first | (simp [intOf]; done) | (simp [intOf]; omega)
    · obtain rfl : t = n := by omega
      go_upto_region 6 with fail
      have yy0 : wr.cell? ⟨rb, 0, none⟩ = some (.int .i64 0) := by rw [cell_of_row _ _ _ _ _ _ HR0.out]; rfl
      have zz0 := frozen_of_row wr rb 0 _ _ HR0.out
      have yy1 : wr.cell? ⟨rb, 1, none⟩ = some (.int .i64 0) := by rw [cell_of_row _ _ _ _ _ _ HR0.out]; rfl
      have zz1 := frozen_of_row wr rb 1 _ _ HR0.out
      have yy2 : wr.cell? ⟨rb, 2, none⟩ = some (.int .i64 0) := by rw [cell_of_row _ _ _ _ _ _ HR0.out]; rfl
      have zz2 := frozen_of_row wr rb 2 _ _ HR0.out
      have yy3 : wr.cell? ⟨rb, 3, none⟩ = some (.int .i64 0) := by rw [cell_of_row _ _ _ _ _ _ HR0.out]; rfl
      have zz3 := frozen_of_row wr rb 3 _ _ HR0.out
      have yy4 : wr.cell? ⟨rb, 4, none⟩ = some (.string { data := #[] }) := by rw [cell_of_row _ _ _ _ _ _ HR0.out]; rfl
      have zz4 := frozen_of_row wr rb 4 _ _ HR0.out
      have yy5 : wr.cell? ⟨rb, 5, none⟩ = some (.slice none 0 0) := by rw [cell_of_row _ _ _ _ _ _ HR0.out]; rfl
      have zz5 := frozen_of_row wr rb 5 _ _ HR0.out
      have yy6 : wr.cell? ⟨rb, 6, none⟩ = some (.slice none 0 0) := by rw [cell_of_row _ _ _ _ _ _ HR0.out]; rfl
      have zz6 := frozen_of_row wr rb 6 _ _ HR0.out
      go_wp2_with fail
      obtain ⟨h4, f4⟩ := sets_row rb 61 [(0, .int .i64 0), (1, .int .i64 0), (2, .int .i64 0), (3, .int .i64 0), (4, .string { data := #[] }), (5, .slice none 0 0), (6, .slice none 0 0)] wr _ HR0.out
      simp only [List.foldl, List.setIfInBounds_toArray, List.set_cons_zero, List.set_cons_succ] at h4
      obtain ⟨wz, hwz⟩ : ∃ wz, sets wr rb [(0, .int .i64 0), (1, .int .i64 0), (2, .int .i64 0), (3, .int .i64 0), (4, .string { data := #[] }), (5, .slice none 0 0), (6, .slice none 0 0)] = wz := ⟨_, rfl⟩
      rw [hwz] at h4 f4
      have hwz' : (((((((wr.setCell ⟨rb, 0, none⟩ (.int .i64 0)).setCell ⟨rb, 1, none⟩ (.int .i64 0)).setCell ⟨rb, 2, none⟩ (.int .i64 0)).setCell ⟨rb, 3, none⟩ (.int .i64 0)).setCell ⟨rb, 4, none⟩ (.string { data := #[] })).setCell ⟨rb, 5, none⟩ (.slice none 0 0)).setCell ⟨rb, 6, none⟩ (.slice none 0 0)) = wz := hwz
      rw [hwz']
      have gg0 : wz.cell? ⟨rb, 0, none⟩ = some (.int .i64 0) := by rw [cell_of_row wz _ _ _ _ _ h4]; rfl
      have gg1 : wz.cell? ⟨rb, 1, none⟩ = some (.int .i64 0) := by rw [cell_of_row wz _ _ _ _ _ h4]; rfl
      have gg2 : wz.cell? ⟨rb, 2, none⟩ = some (.int .i64 0) := by rw [cell_of_row wz _ _ _ _ _ h4]; rfl
      have gg3 : wz.cell? ⟨rb, 3, none⟩ = some (.int .i64 0) := by rw [cell_of_row wz _ _ _ _ _ h4]; rfl
      have gg4 : wz.cell? ⟨rb, 4, none⟩ = some (.string { data := #[] }) := by rw [cell_of_row wz _ _ _ _ _ h4]; rfl
      have gg5 : wz.cell? ⟨rb, 5, none⟩ = some (.slice none 0 0) := by rw [cell_of_row wz _ _ _ _ _ h4]; rfl
      have gg6 : wz.cell? ⟨rb, 6, none⟩ = some (.slice none 0 0) := by rw [cell_of_row wz _ _ _ _ _ h4]; rfl
      have hFZ : Frm [] w wz := HF0.out.trans f4 (fun k hk hkl => by rw [List.mem_singleton] at hk; have := HRB.out; omega)
      exact bodyPost_ret (v := .agg #[.int .i64 0, .int .i64 0, .int .i64 0, .int .i64 0, .string { data := #[] }, .slice none 0 0, .slice none 0 0]) (by simp [results, Try.results61, go_sem, gg0, gg1, gg2, gg3, gg4, gg5, gg6]) rfl (HP.out rp0 wz (by rw [HEQ.out, List.drop_of_length_le (by rw [HN.out]; exact Nat.le_refl _)]; rfl) hFZ)
end Go.Proofs.Ytbgochkmplacaaa
