/- A session's table: All. -/
import Derived.Test.YtbgochkmplacaaaSsK
namespace Go.Proofs.Ytbgochkmplacaaa
open Go.RowKit Go.Lib
set_option maxRecDepth 100000

/-- A list of replies in a block of its own. -/
def OwnL (w : World) (p : Option Addr) (n c : Nat) (ls : List Rp) : Prop := w.ownsRow 0 61 7 (.slice p n c) n (rowsR ls) ∧ ls.length = n
theorem OwnL.kept {w w' : World} {p : Option Addr} {n c : Nat} {ls : List Rp} {S : List Nat} (h : OwnL w p n c ls) (hf : Frm S w w') (hn : ∀ k ∈ blk p, k ∉ S) : OwnL w' p n c ls := ⟨ownsRow_kept h.1 hf hn, h.2⟩
theorem rowsR_app : ∀ a b : List Rp, rowsR (a ++ b) = rowsR a ++ rowsR b
  | [], b => rfl
  | v :: a, b => by simp [rowsR, rowsR_app a b]
/-- Replies, each with lists of its own, made since a world, and apart from a list's block. -/
def Fresh (w0 w : World) (p : Option Addr) (ls : List Rp) : Prop := ∀ v ∈ ls, RpOk w v ∧ RpOwn w v ∧ ∀ k ∈ v.B, w0.heap.size ≤ k ∧ k < w.heap.size ∧ k ∉ blk p
/-- What is kept, by sessions. -/
def kept24 (vs : List Rp) : List Rs := (vs.filter (fun v => decide (0 < v.x.id))).map Rp.x
theorem kept24_app (a b : List Rp) : kept24 (a ++ b) = kept24 a ++ kept24 b := by simp [kept24]
theorem kept24_take (vs : List Rp) (t : Nat) (v : Rp) (h : vs[t]? = some v) : kept24 (vs.take (t + 1)) = kept24 (vs.take t) ++ (if 0 < v.x.id then [v.x] else []) := by
  rw [List.take_add_one, h, Option.toList_some, kept24_app]
  congr 1
  by_cases hp : 0 < v.x.id <;> simp [kept24, hp]
theorem kept24_len (vs : List Rp) : (kept24 vs).length ≤ vs.length := by
  rw [kept24, List.length_map]; exact List.length_filter_le _ _
set_option maxHeartbeats 12800000 in
theorem all24_any (b : Nat) (pl : Option Nat) (vs : List Rp) (f a r : Int) (w : World) (h : TS w b pl vs f a r) :
    Calls Try.prog 59 #[.pointer (some ⟨b, 0, none⟩)] w fun e w' => ∃ pl' p c ls, e = .returned (.slice p ls.length c) ∧ ls.map Rp.x = kept24 vs ∧ OwnL w' p ls.length c ls ∧ Fresh w w' p ls ∧ (∀ k ∈ blk p, w.heap.size ≤ k ∧ k ∉ foot24 b pl') ∧ (∀ v ∈ ls, ∀ k ∈ v.B, k ∉ foot24 b pl') ∧ TS w' b pl' vs f a r ∧ Frm (foot24 b pl) w w' ∧ Nx w pl pl' := by
  obtain ⟨PO, hPO⟩ : ∃ PO : Ending → World → Prop, (fun e w' => ∃ pl' p c ls, e = .returned (.slice p ls.length c) ∧ ls.map Rp.x = kept24 vs ∧ OwnL w' p ls.length c ls ∧ Fresh w w' p ls ∧ (∀ k ∈ blk p, w.heap.size ≤ k ∧ k ∉ foot24 b pl') ∧ (∀ v ∈ ls, ∀ k ∈ v.B, k ∉ foot24 b pl') ∧ TS w' b pl' vs f a r ∧ Frm (foot24 b pl) w w' ∧ Nx w pl pl') = PO := ⟨_, rfl⟩
  rw [hPO]
  have HP : Hid (∀ pl' p n c ls w', ls.length = n → ls.map Rp.x = kept24 vs → OwnL w' p n c ls → Fresh w w' p ls → (∀ k ∈ blk p, w.heap.size ≤ k ∧ k ∉ foot24 b pl') → (∀ v ∈ ls, ∀ k ∈ v.B, k ∉ foot24 b pl') → TS w' b pl' vs f a r → Frm (foot24 b pl) w w' → Nx w pl pl' → PO (.returned (.slice p n c)) w') := hid (fun pl' p n c ls w' h0 h1 h2 h3 h4 h5 h6 h7 h8 => by subst h0; rw [← hPO]; exact ⟨pl', p, c, ls, rfl, h1, h2, h3, h4, h5, h6, h7, h8⟩)
  have HK := hid (kept_any b pl vs f a r w h)
  clear h hPO
  go_enter Try.func59, Try.ntmps59
  go_wp2_with fail
  refine HK.out.mono ?_
  rintro e w1 ⟨g, rfl, ht1, hf1, hx1⟩
  have HT1 := hid ht1
  have HF1 := hid hf1
  have HX1 := hid hx1
  clear ht1 hf1 hx1 HK
  go_wp2_with fail
  go_loopw [9, 3] (fun i s3 wr => ∃ (t n : Nat) (p : Option Addr) (c : Nat) (ls : List Rp), t ≤ 9 ∧ n ≤ t ∧ i = .int .i64 (t : Int) ∧ s3 = .slice p n c ∧ Hid (ls.map Rp.x = kept24 (vs.take t) ∧ OwnL wr p n c ls ∧ Fresh w1 wr p ls ∧ (∀ k ∈ blk p, w1.heap.size ≤ k) ∧ Frm [] w1 wr)) (fun i _ _ => 9 - (intOf i).toNat)
  case atStart => exact ⟨0, 0, none, 0, [], by omega, by omega, rfl, rfl, hid ⟨rfl, ⟨⟨rfl, Or.inl ⟨rfl, rfl⟩⟩, rfl⟩, by simp [Fresh], by simp [blk], Frm.refl _ _⟩⟩
  case round =>
    obtain ⟨t, n, p, c, ls, ht, hnt, rfl, rfl, hin⟩ := hrel
    by_cases hlt : t < 9
    · have t1 : (t : Int) < 9 := by omega
      obtain ⟨v, hv⟩ : ∃ v, vs[t]? = some v := ⟨_, List.getElem?_eq_getElem (by rw [HT1.out.ln]; exact hlt)⟩
      have HTK := hid (kept24_take vs t v hv)
      have htr := HT1.out.k0 hin.out.2.2.2.2
      have HOK := hid (fun W (hf : Frm [] wr W) => ((htr.ok v (List.mem_of_getElem? hv)).1).kept hf (by simp))
      obtain ⟨⟨s, id, er, nu, tx, ss, ds⟩, lp, lc, dp, dc⟩ := v
      have q0 : wr.cell? ⟨g, t * 7, none⟩ = some (.int .i64 s) := htr.at hv 0 _ rfl
      have q1 : wr.cell? ⟨g, t * 7 + 1, none⟩ = some (.int .i64 id) := htr.at hv 1 _ rfl
      have q2 : wr.cell? ⟨g, t * 7 + 2, none⟩ = some (.int .i64 er) := htr.at hv 2 _ rfl
      have q3 : wr.cell? ⟨g, t * 7 + 3, none⟩ = some (.int .i64 nu) := htr.at hv 3 _ rfl
      have q4 : wr.cell? ⟨g, t * 7 + 4, none⟩ = some (.string tx) := htr.at hv 4 _ rfl
      have q5 : wr.cell? ⟨g, t * 7 + 5, none⟩ = some (.slice lp ss.length lc) := htr.at hv 5 _ rfl
      have q6 : wr.cell? ⟨g, t * 7 + 6, none⟩ = some (.slice dp ds.length dc) := htr.at hv 6 _ rfl
      obtain ⟨bx, hbx⟩ : ∃ q, wr.heap.size = q := ⟨_, rfl⟩
      obtain ⟨w5, hw5⟩ : ∃ q, wr.alloc (.cells #[.int .i64 s, .int .i64 id, .int .i64 er, .int .i64 nu, .string tx, .slice lp ss.length lc, .slice dp ds.length dc] 61) = q := ⟨_, rfl⟩
      have h5 : Frm [] wr w5 := by rw [← hw5]; exact (Frm.refl _ _).alloc _
      have hx : w5.heap[bx]? = some (.cells #[.int .i64 s, .int .i64 id, .int .i64 er, .int .i64 nu, .string tx, .slice lp ss.length lc, .slice dp ds.length dc] 61 (0, 0)) := by rw [← hw5]; exact heap_alloc_to _ _ hbx
      have x0 : w5.cell? ⟨bx, 0, none⟩ = some (.int .i64 s) := by rw [cell_of_row _ _ _ _ _ _ hx]; rfl
      have x1 : w5.cell? ⟨bx, 1, none⟩ = some (.int .i64 id) := by rw [cell_of_row _ _ _ _ _ _ hx]; rfl
      have x2 : w5.cell? ⟨bx, 2, none⟩ = some (.int .i64 er) := by rw [cell_of_row _ _ _ _ _ _ hx]; rfl
      have x3 : w5.cell? ⟨bx, 3, none⟩ = some (.int .i64 nu) := by rw [cell_of_row _ _ _ _ _ _ hx]; rfl
      have x4 : w5.cell? ⟨bx, 4, none⟩ = some (.string tx) := by rw [cell_of_row _ _ _ _ _ _ hx]; rfl
      have x5 : w5.cell? ⟨bx, 5, none⟩ = some (.slice lp ss.length lc) := by rw [cell_of_row _ _ _ _ _ _ hx]; rfl
      have x6 : w5.cell? ⟨bx, 6, none⟩ = some (.slice dp ds.length dc) := by rw [cell_of_row _ _ _ _ _ _ hx]; rfl
      have HCP := hid (copyOfO_any _ w5 (HOK.out w5 h5))
      unfold Rp.agg at HCP
      simp only at HCP
      have HW5 := hid hw5
      have HBX := hid hbx
      have H5 := hid h5
      have HIN := hid hin.out
      clear hw5 hbx h5 hx hv htr hin HOK
      go_upto_region 5 with fail
      rw [HBX.out, HW5.out]
      clear HW5 q0 q1 q2 q3 q4 q5 q6
      by_cases hp : 0 < id
      · go_upto_region 6 with fail
        go_wp2_with fail
        refine HCP.out.mono ?_
        rintro e w6 ⟨v6, rfl, hx6, hr6, hf6, hb6, ho6⟩
        have HX6 := hid hx6
        have HR6 := hid hr6
        have HF6 := hid hf6
        have HB6 := hid hb6
        have HO6 := hid ho6
        clear hx6 hr6 hf6 hb6 ho6 HCP
        obtain ⟨⟨s6, id6, er6, nu6, tx6, ss6, ds6⟩, lp6, lc6, dp6, dc6⟩ := v6
        simp only
        have ha := (Frm.refl [] w6).alloc (.cells #[.int .i64 s6, .int .i64 id6, .int .i64 er6, .int .i64 nu6, .string tx6, .slice lp6 ss6.length lc6, .slice dp6 ds6.length dc6] 61)
        have HRV := hid (rv_block (heap_alloc_new w6 (.cells #[.int .i64 s6, .int .i64 id6, .int .i64 er6, .int .i64 nu6, .string tx6, .slice lp6 ss6.length lc6, .slice dp6 ds6.length dc6] 61)))
        have HA := hid ha
        have HOW := hid (ownsRow_kept HIN.out.2.1.1 ((H5.out.trans HF6.out (by simp)).trans ha (by simp)) (by simp))
        clear ha
        go_wp2_with (at_builtin; refine wpList_appV rfl _ _ 52 rfl 61 7 96 _ Try.underlying52 infoRp rfl (by decide) p n c (rowsR ls) rfl HOW.out (some ⟨w6.heap.size, 0, none⟩) 1 1 [.int .i64 s6, .int .i64 id6, .int .i64 er6, .int .i64 nu6, .string tx6, .slice lp6 ss6.length lc6, .slice dp6 ds6.length dc6] rfl rfl (by simp) HRV.out (by intro u hu; simp at hu; rcases hu with rfl | rfl | rfl | rfl | rfl | rfl | rfl <;> rfl) (by unfold maxLen; omega) (by omega) ?_)
        intro p7 c7 w7 ho7 hf7 hb7
        have HIN7 : Hid ((ls ++ [(⟨⟨s6, id6, er6, nu6, tx6, ss6, ds6⟩, lp6, lc6, dp6, dc6⟩ : Rp)]).map Rp.x = kept24 (vs.take (t + 1)) ∧ OwnL w7 p7 (n + 1) c7 (ls ++ [(⟨⟨s6, id6, er6, nu6, tx6, ss6, ds6⟩, lp6, lc6, dp6, dc6⟩ : Rp)]) ∧ Fresh w1 w7 p7 (ls ++ [(⟨⟨s6, id6, er6, nu6, tx6, ss6, ds6⟩, lp6, lc6, dp6, dc6⟩ : Rp)]) ∧ (∀ k ∈ blk p7, w1.heap.size ≤ k) ∧ Frm [] w1 w7) := hid (by
          obtain ⟨a1, a2, a3, a4, a5⟩ := HIN.out
          have hz5 := H5.out.size
          have hz6 := HF6.out.size
          have hza := HA.out.size
          have hz7 := hf7.out.size
          have hz1 := a5.size
          have hzn : (w6.alloc (.cells #[.int .i64 s6, .int .i64 id6, .int .i64 er6, .int .i64 nu6, .string tx6, .slice lp6 ss6.length lc6, .slice dp6 ds6.length dc6] 61)).heap.size = w6.heap.size + 1 := by simp
          have hlow := ownsRow_low a2.1
          have hbk : ∀ k ∈ blk p7, k ∈ blk p ∨ w6.heap.size ≤ k := fun k hk => (hb7.out k hk).imp (fun h => h) (fun h => by omega)
          have hF : Frm (blk p) wr w7 := (((H5.out.trans HF6.out (by simp)).trans HA.out (by simp)).mono (by simp)).trans hf7.out (fun k hk _ => hk)
          refine ⟨?_, ⟨by rw [rowsR_app]; exact ho7.out, by rw [List.length_append, a2.2]; rfl⟩, fun u hu => ?_, fun k hk => ?_, ?_⟩
          · rw [HTK.out, if_pos hp, List.map_append, a1, List.map_singleton]; exact congrArg (fun q => _ ++ [q]) HX6.out
          · rcases List.mem_append.1 hu with hu | hu
            · obtain ⟨b1, b2, b3⟩ := a3 u hu
              exact ⟨b1.kept hF (fun k hk hm => (b3 k hk).2.2 hm), b2.kept hF (fun k hk hm => (b3 k hk).2.2 hm), fun k hk => ⟨(b3 k hk).1, by have := (b3 k hk).2.1; omega, fun hm => by
                rcases hbk k hm with h | h
                · exact (b3 k hk).2.2 h
                · have := (b3 k hk).2.1; omega⟩⟩
            · rw [List.mem_singleton] at hu
              subst hu
              have hF6 : Frm (blk p) w6 w7 := (HA.out.mono (by simp)).trans hf7.out (fun k hk _ => hk)
              have hnp : ∀ k ∈ Rp.B ⟨⟨s6, id6, er6, nu6, tx6, ss6, ds6⟩, lp6, lc6, dp6, dc6⟩, k ∉ blk p := fun k hk hm => by have := (HB6.out k hk).1; have := hlow k hm; omega
              exact ⟨HR6.out.kept hF6 hnp, HO6.out.kept hF6 hnp, fun k hk => ⟨by have := (HB6.out k hk).1; omega, by have := (HB6.out k hk).2; omega, fun hm => by
                rcases hbk k hm with h | h
                · exact hnp k hk h
                · have := (HB6.out k hk).2; omega⟩⟩
          · rcases hbk k hk with h | h
            · exact a4 k h
            · omega
          · exact a5.trans hF (fun k hk hkl => by have := a4 k hk; omega))
        clear ho7 hf7 hb7 HOW HRV HA HIN
        go_wp2_with fail
        go_roundw
        case rel => exact ⟨t + 1, n + 1, p7, c7, _, by omega, by omega, by go_num, by go_num, HIN7⟩
        case measure => first | (simp [intOf]; done) | (simp [intOf]; omega)
      · have HIN7 : Hid (ls.map Rp.x = kept24 (vs.take (t + 1)) ∧ OwnL w5 p n c ls ∧ Fresh w1 w5 p ls ∧ (∀ k ∈ blk p, w1.heap.size ≤ k) ∧ Frm [] w1 w5) := hid (by
          obtain ⟨a1, a2, a3, a4, a5⟩ := HIN.out
          have hz5 := H5.out.size
          exact ⟨by rw [HTK.out, if_neg hp, a1, List.append_nil], a2.kept H5.out (by simp), fun u hu => ⟨(a3 u hu).1.kept H5.out (by simp), (a3 u hu).2.1.kept H5.out (by simp), fun k hk => ⟨((a3 u hu).2.2 k hk).1, by have := ((a3 u hu).2.2 k hk).2.1; omega, ((a3 u hu).2.2 k hk).2.2⟩⟩, a4, a5.trans H5.out (by simp)⟩)
        clear HIN HCP
        go_wp2_with fail
        go_roundw
        case rel => exact ⟨t + 1, n, p, c, ls, by omega, by omega, by go_num, by go_num, HIN7⟩
        case measure => first | (simp [intOf]; done) | (simp [intOf]; omega)
    · obtain rfl : t = 9 := by omega
      go_wp2_with fail
      first | go_returns | skip
      obtain ⟨a1, a2, a3, a4, a5⟩ := hin.out
      have hl := HT1.out.low
      have hz := HF1.out.size
      exact HP.out (some g) p n c ls wr a2.2 (by rw [a1, List.take_of_length_le (by rw [HT1.out.ln]; exact Nat.le_refl _)]) a2 (fun v hv => ⟨(a3 v hv).1, (a3 v hv).2.1, fun k hk => ⟨by have := ((a3 v hv).2.2 k hk).1; omega, ((a3 v hv).2.2 k hk).2⟩⟩) (fun k hk => ⟨by have := a4 k hk; omega, fun hm => by have := a4 k hk; have := hl k hm; omega⟩) (fun v hv k hk hm => by have := ((a3 v hv).2.2 k hk).1; have := hl k hm; omega) (HT1.out.k0 a5) (HF1.out.trans a5 (by simp)) HX1.out
end Go.Proofs.Ytbgochkmplacaaa
