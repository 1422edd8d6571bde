/- Inputs as they come in, of a bounded bulk: lists of bytes. FrameFeeds for any pieces. -/
import Derived.Test.YtignoocdeghiaaaDoorQad
import Derived.Test.YtignoocdeghiaaaDoorQav
namespace Go.Proofs.YtignoocdeghiaaaDoor
section
set_option maxRecDepth 100000
open Go.ChangeShapes Go.WideShapes Go.ChangeAt Go.RowKit Go.Deep
/-- A list of bytes that came in, each of so many at most. -/
def CameBU (w : World) (p : Option Addr) (len cap : Nat) : Prop :=
  len ≤ cap ∧ cap ≤ 9223372036854775807 ∧ (len = 0 ∨ ∃ g o, p = some ⟨g, o, none⟩ ∧ ∀ i, i < len → ∃ q n c, w.cell? ⟨g, o + i, none⟩ = some (.slice q n c) ∧ Came w q n c ∧ n ≤ 1048576)
theorem CameBU.at {w w' : World} {p : Option Addr} {len cap i : Nat} (h : CameBU w p len cap) (hf : Frm [] w w') (hi : i < len) : ∃ g o q n c bs, p = some ⟨g, o, none⟩ ∧ w'.cell? ⟨g, o + i, none⟩ = some (.slice q n c) ∧ bs.length = n ∧ Rd w' q bs ∧ (∀ z ∈ bs, 0 ≤ z ∧ z < 256) ∧ (bs = [] → q = none → c = 0) ∧ n ≤ c ∧ c ≤ 9223372036854775807 ∧ n ≤ 1048576 := by
  rcases h.2.2 with h0 | ⟨g, o, hp, hc⟩
  · omega
  · obtain ⟨q, n, c, h1, ⟨bs, h2, h3, h4, h5, h6, h7⟩, h8⟩ := hc i hi
    exact ⟨g, o, q, n, c, bs, hp, (hf.cell (p := ⟨g, o + i, none⟩) (World.block_lt_of_cell? _ _ h1) (by simp)).trans h1, h2, h3.kept hf (by simp), h4, h5, h6, h7, h8⟩
section
variable {H : Type} {enc : TypeId × Value → H} {W : World}
theorem bulk_pos : ∀ (d : DataW H), 1 ≤ Rows.uptoBulk d := by
  intro d
  cases d with
  | lit l => cases l <;> simp [Rows.uptoBulk]
  | nil => simp [Rows.uptoBulk]
  | ptr d => simp [Rows.uptoBulk]
  | slice a b => simp [Rows.uptoBulk]
  | agg a => simp [Rows.uptoBulk]
  | iface t d => simp [Rows.uptoBulk]
  | map e => simp [Rows.uptoBulk]
  | held h => simp [Rows.uptoBulk]
theorem bulk_len : ∀ (l : List (DataW H)), l.length ≤ Rows.uptoBulkAll l := by
  intro l
  induction l with
  | nil => simp [Rows.uptoBulkAll]
  | cons d l ih => have := bulk_pos d; simp only [Rows.uptoBulkAll, List.length_cons]; omega
theorem bulk_mem {d : DataW H} : ∀ {l : List (DataW H)}, d ∈ l → Rows.uptoBulk d ≤ Rows.uptoBulkAll l := by
  intro l
  induction l with
  | nil => intro h; cases h
  | cons a l ih =>
    intro h
    simp only [Rows.uptoBulkAll]
    rcases List.mem_cons.1 h with rfl | h
    · omega
    · have := ih h; omega
theorem lits_length (k : IntKind) (zs : List Int) : (lits k zs : List (DataW H)).length = zs.length := by simp [lits]
theorem came_bulk {fuel : Nat} {cs : List Value} {x : DataW H × List MemPlace} {M : Nat} (h : DataW.trod enc Tryd.prog W 0 (fun _ => true) true fuel 22 cs = some x) (hb : Rows.uptoBulk x.1 ≤ M) : ∃ p len cap, cs = [.slice p len cap] ∧ Came W p len cap ∧ len ≤ M := by
  rcases open_ints Tryd.underlying22 Tryd.underlying5 (by kernel_rfl) h with ⟨hcs, _⟩ | ⟨a, l, c, zs, hcs, _, hl, hm, hz, hx, hcell, hwz⟩
  · exact ⟨none, 0, 0, hcs, ⟨[], rfl, Or.inl rfl, by simp, fun _ _ => rfl, by omega, by omega⟩, by omega⟩
  · simp only [if_true] at hz
    refine ⟨some a, l, c, hcs, came_of hl hm hz hcell hwz, ?_⟩
    have e := congrArg Prod.fst hx
    simp only at e
    rw [e, Rows.uptoBulk] at hb
    have := bulk_len (lits .u8 (zs.take l) : List (DataW H))
    rw [lits_length, List.length_take] at this
    omega
theorem cameBU_cells {fuel : Nat} {cs : List Value} {x : DataW H × List MemPlace} (h : DataW.trod enc Tryd.prog W 0 (fun _ => true) true fuel 46 cs = some x) (hw : Rows.uptoBulk x.1 ≤ 1048576) :
    ∃ p len cap, cs = [.slice p len cap] ∧ CameBU W p len cap := by
  rcases open_slice Tryd.underlying46 h with ⟨hcs, _⟩ | ⟨a, len, cap, m, n, D, Pl, rfl, hb, hl, hm, hmm, rfl, hx⟩
  · exact ⟨none, 0, 0, hcs, by omega, by omega, Or.inl rfl⟩
  · refine ⟨some a, len, cap, rfl, hl, by unfold maxLen at hm; omega, ?_⟩
    simp only [if_true] at hmm
    subst hmm
    by_cases h0 : len = 0
    · exact Or.inl h0
    · have each : ∀ i, i < len → ∃ q n c, W.cell? (a.add i) = some (.slice q n c) ∧ Came W q n c ∧ n ≤ 1048576 := by
        intro i hi
        obtain ⟨cs', h1, h2⟩ := hx i (by omega)
        have hbi : Rows.uptoBulk (D i) ≤ 1048576 := by
          have := bulk_mem (d := D i) (l := (List.range len).map D) (List.mem_map.2 ⟨i, List.mem_range.2 hi, rfl⟩)
          simp only [Rows.uptoBulk] at hw
          omega
        rw [cellsB, Nat.mul_one] at h1
        obtain ⟨_, hlen, hcell⟩ := World.cells?_some h1
        obtain ⟨q, n, c, rfl, hc, hn⟩ := came_bulk h2 hbi
        refine ⟨q, n, c, ?_, hc, hn⟩
        have := hcell 0 (by omega)
        simpa [Addr.add] using this
      have hs : a.spot = none := by
        obtain ⟨q, n, c, h1, _⟩ := each 0 (by omega)
        exact spot_of_cell (by simpa [Addr.add] using h1)
      refine Or.inr ⟨a.block, a.off, by obtain ⟨g, o, sp⟩ := a; simp only at hs; subst hs; rfl, fun i hi => ?_⟩
      obtain ⟨q, n, c, h1, h2⟩ := each i hi
      rw [add_of hs] at h1
      exact ⟨q, n, c, h1, h2⟩
end
end
section
open Go.RowKit Go.Lib
set_option maxRecDepth 100000

theorem feedR_count : ∀ (m : Nat) (a : List Int), a.length ≤ m → (feedR a).1.length * 13 ≤ a.length
  | m, a, hm => by
    by_cases h4 : a.length < 4
    · rw [feedR_short h4]; simp
    · by_cases hb : leV (a.take 4) < 9 ∨ 65532 < leV (a.take 4)
      · rw [feedR_bad h4 hb]; simp
      · by_cases hs : (a.length : Int) < 4 + leV (a.take 4)
        · rw [feedR_wait h4 hb hs]; simp
        · rw [feedR_next h4 hb hs]
          match m, hm with
          | 0, hm => omega
          | m + 1, hm =>
            have ih := feedR_count m (a.drop (4 + (leV (a.take 4)).toNat)) (by rw [List.length_drop]; omega)
            rw [List.length_drop] at ih
            simp only [List.length_cons]
            omega
theorem LnsF.next {w wr w1 w2 w3 w4 w5 w6 : World} {lb yb : Nat} {p p1 p2 p3 : Option Addr} {n c n2 c2 n3 c3 : Nat} {p' : Option Addr} {n' c' : Nat} {zs zs2 : List Int} {ls : List Bk} (h : LnsF w wr lb yb p n c p' n' c' zs)
    (hf1 : Frm [] wr w1) (hb1 : ∀ k ∈ blk p1, wr.heap.size ≤ k ∧ k < w1.heap.size) (hf2 : Frm (lb :: ft p c) w1 w2) (hln : IsLn w2 lb p2 n2 c2 zs2) (hap : ∀ k ∈ ft p2 c2, k ∈ ft p c ∨ w1.heap.size ≤ k) (hf3 : Frm (blk p1) w2 w3) (hf4 : Frm [yb] w3 w4) (hld : IsLnD w4 yb p3 n3 c3 zs2) (hb4 : ∀ k ∈ blk p3, w3.heap.size ≤ k) (hf5 : Frm [] w4 w5) (hf6 : Frm (footF ls) w5 w6) (hnk : ∀ x ∈ ls, ∀ k ∈ blk x.p, w1.heap.size ≤ k ∧ k < w2.heap.size) (hax : ∀ x ∈ ls, ∀ k ∈ blk x.p, k ∉ ft p2 c2) (hbd : ∀ z ∈ zs2, 0 ≤ z ∧ z < 256) (hmx : n2 ≤ 65536) : LnsF w w6 lb yb p2 n2 c2 p3 n3 c3 zs2 := by
  have s0 := h.fr.size
  have s1 := hf1.size
  have s2 := hf2.size
  have s3 := hf3.size
  have hlb := lt_of_heap h.ln.row
  have hyb := lt_of_heap h.ld.row
  have hlo := h.lo
  have hftl : ∀ k ∈ ft p c, k < wr.heap.size := fun k hk => h.ln.wt.low k hk
  have hft2 : ∀ k ∈ ft p2 c2, k < w2.heap.size := fun k hk => hln.wt.low k hk
  have hn2 : ∀ k ∈ ft p2 c2, w.heap.size ≤ k ∧ k ≠ yb ∧ k ∉ blk p1 := fun k hk => by
    rcases hap k hk with h1 | h1
    · exact ⟨(h.fp k h1).1, (h.fp k h1).2.1, fun hm => by have := hb1 k hm; have := hftl k h1; omega⟩
    · exact ⟨by omega, by omega, fun hm => by have := hb1 k hm; omega⟩
  have hfoot : ∀ k ∈ footF ls, w1.heap.size ≤ k ∧ k < w2.heap.size ∧ k ∉ ft p2 c2 := fun k hk => by
    obtain ⟨x, hx, hk⟩ := footF_mem.1 hk
    exact ⟨(hnk x hx k hk).1, (hnk x hx k hk).2, hax x hx k hk⟩
  refine ⟨?_, ?_, ?_, hlo, fun k hk => ⟨(hn2 k hk).1, (hn2 k hk).2.1, fun hm => by have := hb4 k hm; have := hft2 k hk; omega⟩, fun k hk => ⟨by have := hb4 k hk; omega, by have := hb4 k hk; omega⟩, hbd, hmx⟩
  · refine (((((h.fr.trans hf1 (by simp)).trans hf2 (fun i hi hl => ?_)).trans hf3 (fun i hi hl => ?_)).trans hf4 (fun i hi hl => ?_)).trans hf5 (by simp)).trans hf6 (fun i hi hl => ?_)
    · rcases List.mem_cons.1 hi with h1 | h1
      · omega
      · have := (h.fp i h1).1; omega
    · have := hb1 i hi; omega
    · rw [List.mem_singleton] at hi; omega
    · have := hfoot i hi; omega
  · refine (((hln.kept hf3 (fun hm => by have := hb1 lb hm; omega) (fun k hk hm => (hn2 k hk).2.2 hm)).kept hf4 (by simpa using hlo.2.2) (fun k hk hm => by rw [List.mem_singleton] at hm; exact (hn2 k hk).2.1 hm)).k0 hf5).kept hf6 (fun hm => by have := hfoot lb hm; omega) (fun k hk hm => (hfoot k hm).2.2 hk)
  · refine (hld.kept hf5 (by simp) (by simp)).kept hf6 (fun hm => by have := hfoot yb hm; omega) (fun k hk hm => by have := hfoot k hm; have := hb4 k hk; omega)
set_option maxHeartbeats 25600000 in
theorem feedsLaw_any (b0 : Option Addr) (l0 c0 : Nat) (W : World) (hC : CameBU W b0 l0 c0) (hpr : Primes W) :
    Calls Tryd.prog 7 #[.slice b0 l0 c0] W fun e w' => e = .returned (.bool true) ∧ Frm [] W w' := by
  obtain ⟨PO, hPO⟩ : ∃ PO : Ending → World → Prop, (fun e w' => e = .returned (.bool true) ∧ Frm [] W w') = PO := ⟨_, rfl⟩
  rw [hPO]
  have HP : Hid (∀ w', Frm [] W w' → PO (.returned (.bool true)) w') := hid (fun w' h => by rw [← hPO]; exact ⟨rfl, h⟩)
  have HAW := hid (awakeF_any W hpr)
  have HC := hid hC
  have hl0 : l0 ≤ 9223372036854775807 := Nat.le_trans hC.1 hC.2.1
  clear hPO hC hpr
  have hbld : ∀ V, (Instr.build 51 #[]).run Tryd.prog V = .ok (.agg #[.slice none 0 0]) V := fun V => run_build V _ _ _ (by kernel_rfl)
  go_enter Tryd.func7, Tryd.ntmps7
  go_wp2_with fail
  refine HAW.out.mono ?_
  rintro e w1 ⟨rfl, hf1⟩
  have HF1 := hid hf1
  clear hf1 HAW
  go_wp2_with fail
  refine (newLine_any w1).mono ?_
  rintro e w2 ⟨lb, rfl, hl2, hf2, hlb⟩
  obtain ⟨yb, hyb⟩ : ∃ z, w2.heap.size = z := ⟨_, rfl⟩
  obtain ⟨w3, hw3⟩ : ∃ z, w2.alloc (.cells #[.slice none 0 0] 51) = z := ⟨_, rfl⟩
  have hrow := heap_alloc_new w2 (.cells #[.slice none 0 0] 51)
  rw [hw3, hyb] at hrow
  have hf3 : Frm [] w2 w3 := by rw [← hw3]; exact (Frm.refl _ _).alloc _
  have HS : Hid (LnsF W w3 lb yb none 0 0 none 0 0 []) := hid ⟨(HF1.out.trans hf2 (by simp)).trans hf3 (by simp), hl2.k0 hf3, ⟨hrow, Own.nil _ _, rfl, by simp [blk]⟩, ⟨by have := HF1.out.size; omega, by have := HF1.out.size; have := hf2.size; omega, by have := lt_of_heap hl2.row; omega⟩, by simp [ft], by simp [blk], by simp, by omega⟩
  have HW3 := hid hw3
  have HYB := hid hyb
  clear hl2 hf2 hlb hyb hw3 hrow hf3 HF1
  go_upto_region 4 with fail
  first | rw [HYB.out] | skip
  first | rw [HW3.out] | skip
  clear HW3 HYB hbld
  go_wp2_with fail
  go_loopw [6] (fun i wr => ∃ (t : Nat) (p : Option Addr) (n c : Nat) (p' : Option Addr) (n' c' : Nat) (zs : List Int), t ≤ l0 ∧ i = .int .i64 (t : Int) ∧ Hid (LnsF W wr lb yb p n c p' n' c' zs)) (fun i _ => l0 - (intOf i).toNat)
  case atStart => exact ⟨0, none, 0, 0, none, 0, 0, [], Nat.zero_le _, rfl, HS⟩
  case round =>
    clear HS
    obtain ⟨t, p, n, c, p', n', c', zs, ht, rfl, hin⟩ := hrel
    have HIN := hid hin.out
    clear hin
    by_cases hlt : t < l0
    case neg =>
      obtain rfl : t = l0 := by omega
      go_wp2_with fail
      first | go_returns | skip
      exact HP.out _ HIN.out.fr
    have t1 : (t : Int) < (l0 : Int) := by omega
    obtain ⟨g0, o0, q, m, d, bs, rfl, hcell, hbl, hbr, hbz, hbn, hmd, hd1, hm1⟩ := HC.out.at (Frm.refl [] W) hlt
    have HBL := hid hbl
    have HBZ := hid hbz
    have HBN := hid hbn
    have HCE : Hid (∀ V, Frm [] W V → V.cell? ⟨g0, o0 + t, none⟩ = some (.slice q m d) ∧ Rd V q bs) := hid (fun V hf => ⟨(hf.cell (p := ⟨g0, o0 + t, none⟩) (World.block_lt_of_cell? _ _ hcell) (by simp)).trans hcell, hbr.kept hf (by simp)⟩)
    have q0 := (HCE.out wr HIN.out.fr).1
    clear hbl hbr hbz hbn hcell
    go_wp2_with (at_builtin; refine wpList_appB rfl _ _ 22 rfl 5 Tryd.underlying22 infoB none 0 0 [] rfl rfl (Own.nil _ _) q m d bs rfl HBL.out.symm HBN.out (HCE.out wr HIN.out.fr).2 (by rw [HBL.out]; simp; omega) ?_)
    intro xs p1 c1 v1 hxs ho1 hf1 hb1
    obtain rfl : xs = bs := by simpa using hxs.out
    rw [HBL.out]
    have ho := ho1.out
    rw [HBL.out] at ho
    have HF1 : Hid (Frm [] wr v1) := hid (hf1.out.mono (by simp [blk]))
    have HB1 : Hid (∀ k ∈ blk p1, wr.heap.size ≤ k ∧ k < v1.heap.size) := hid (fun k hk => ⟨(hb1.out k hk).elim (fun h => by simp [blk] at h) id, own_lowF ho1.out k hk⟩)
    have HO1 : Hid (Own v1 5 (.slice p1 m c1) xs) := hid (by rw [HBL.out] at ho1; exact ho1.out)
    have hnb := HIN.out.mx
    have HZA : Hid (∀ z ∈ zs ++ xs, 0 ≤ z ∧ z < 256) := hid (fun z hz => (List.mem_append.1 hz).elim (HIN.out.bd z) (HBZ.out z))
    have hfd := feed_any v1 lb p n c zs (HIN.out.ln.k0 HF1.out) p1 m c1 xs HO1.out.rd HBL.out (fun h => by have h1 := (own_capD HO1.out).2.2 h; have h2 := (own_capD HO1.out).2.1; omega) HZA.out (by omega)
    have HFD := hid hfd
    have hc1 := own_cpD HO1.out
    have HFN := hid (feedR_rest _ (zs ++ xs) (Nat.le_refl _))
    have HCN := hid (feedR_count _ (zs ++ xs) (Nat.le_refl _))
    have HLA : Hid ((zs ++ xs).length ≤ 1114112) := hid (by rw [List.length_append, HBL.out, HIN.out.ln.wt.ln]; omega)
    clear hxs ho1 hf1 hb1 hfd q0
    go_wp2_with fail
    refine HFD.out.mono ?_
    rintro e v2 ⟨qf, s, cf, ls, p2, n2, c2, rfl, how, hls, hnk, hln, hf2, hap, hax, haq⟩
    have HFDD : Hid (∀ V, Frm [] W V → IsLnD V yb p' n' c' zs → Calls Tryd.prog 23 #[.pointer (some ⟨yb, 0, none⟩), .slice q m d] V (FeedD V yb (zs ++ xs))) := hid (fun V hV hL => refFeed_any V yb p' n' c' zs hL q m d xs (HCE.out V hV).2 HBL.out HBN.out HZA.out (by have := hL.len; have h2 := HIN.out.ld.len; have h3 := HIN.out.ln.wt.ln; omega))
    obtain ⟨R, hR⟩ : ∃ R, feedR (zs ++ xs) = R := ⟨_, rfl⟩
    have HR := hid hR
    rw [hR] at hls hln HFN HCN ⊢
    obtain ⟨fs, zs2, E⟩ := R
    simp only at hls hln HFN HCN ⊢
    have HOW := hid how
    have HLS := hid hls
    have HNK := hid hnk
    have HLN2 := hid hln
    have HF2 := hid hf2
    have HAP := hid hap
    have HAX := hid hax
    have hsb : s ≤ 100000 := by have h1 := HCN.out; have h2 := HLA.out; rw [← HLS.out, List.length_map, HOW.out.ln] at h1; omega
    have HN2 : Hid (n2 ≤ 65536) := hid (by rw [← HLN2.out.wt.ln]; exact HFN.out.1)
    have HO2 : Hid (Own v2 5 (.slice p1 m c1) xs) := hid (HO1.out.kept HF2.out (by
      rw [own_blk]
      intro k hk hm
      have h1 := HB1.out k hk
      rcases List.mem_cons.1 hm with h2 | h2
      · have := lt_of_heap HIN.out.ln.row; omega
      · have := HIN.out.ln.wt.low k h2; omega))
    clear how hls hnk hln hf2 hap hax haq hR HFD
    go_wp2_with fail
    go_loopw [10] (fun i wr => ∃ (j : Nat) (ys : List Int), j ≤ m ∧ i = .int .i64 (j : Int) ∧ Hid (ys.length = m) ∧ Hid (Own wr 5 (.slice p1 m c1) ys) ∧ Hid (Frm (blk p1) v2 wr)) (fun i _ => m - (intOf i).toNat)
    case atStart => exact ⟨0, xs, Nat.zero_le _, rfl, HBL, HO2, hid (Frm.refl _ _)⟩
    case round =>
      obtain ⟨j, ys, hj, rfl, hy, ho, hf⟩ := hrel
      by_cases hltj : j < m
      case pos =>
        have j1 : (j : Int) < (m : Int) := by omega
        obtain ⟨g, rfl, hg, hc, hz, hset⟩ := ho.out.setAt hy.out hltj
        have HSET := hid hset
        clear hset
        go_wp2_with fail
        go_roundw
        case rel => exact ⟨j + 1, ys.set j 98, by omega, by go_num, hid (by rw [List.length_set]; exact hy.out), hid (HSET.out 98), hid (hf.out.setCell _ _ (by simp [blk]))⟩
        case measure => first | (simp [intOf]; done) | (simp [intOf]; omega)
      obtain rfl : j = m := by omega
      have HF3 := hid hf.out
      clear hy ho hf hltj hj
      generalize wr = v3 at *
      have HWV : Hid (Frm [] W v3) := hid (((HIN.out.fr.trans HF1.out (by simp)).trans HF2.out (fun i hi hl => by
        rcases List.mem_cons.1 hi with h | h
        · have := HIN.out.lo.1; omega
        · have := (HIN.out.fp i h).1; omega)).trans HF3.out (fun i hi hl => by have h1 := HB1.out i hi; have h2 := HIN.out.fr.size; omega))
      have HLD3 : Hid (IsLnD v3 yb p' n' c' zs) := hid (((HIN.out.ld.kept HF1.out (by simp) (by simp)).kept HF2.out (fun hm => by
        rcases List.mem_cons.1 hm with h | h
        · exact HIN.out.lo.2.2 h.symm
        · exact (HIN.out.fp yb h).2.1 rfl) (fun k hk hm => by
        rcases List.mem_cons.1 hm with h | h
        · exact (HIN.out.fd k hk).2 h
        · exact (HIN.out.fp k h).2.2 hk)).kept HF3.out (fun hm => by have h1 := HB1.out yb hm; have h2 := lt_of_heap HIN.out.ld.row; omega) (fun k hk hm => by have h1 := HB1.out k hm; have h2 := own_lowF HIN.out.ld.own k hk; omega))
      have q3 := (HCE.out v3 HWV.out).1
      have HFE := hid (HFDD.out v3 HWV.out HLD3.out)
      go_wp2_with fail
      refine HFE.out.mono ?_
      rintro e v4 ⟨qg, sg, cg, lsg, p3, n3, c3, rfl, hrk, hls4, hld4, hf4, hb4, hq4⟩
      rw [HR.out] at hls4 hld4 ⊢
      simp only at hls4 hld4 ⊢
      have hlen := congrArg List.length (hls4.trans HLS.out.symm)
      rw [List.length_map, List.length_map] at hlen
      obtain rfl : sg = s := by rw [← hrk.ln, ← HOW.out.ln]; exact hlen
      clear hlen
      have hlst : ∀ x ∈ ls, ∀ k ∈ blk x.p, v1.heap.size ≤ k ∧ k < v2.heap.size := fun x hx k hk => ⟨HNK.out.2 x hx k hk, (HOW.out.it x hx).1.lo k hk⟩
      have HLST := hid hlst
      have HOW4 : Hid (OwnK v4 qf sg cf ls) := hid ((HOW.out.kept HF3.out (fun k hk hm => by have h1 := HB1.out k hm; have h2 := HNK.out.1 k hk; omega) (fun x hx k hk hm => by have h1 := HB1.out k hm; have h2 := HLST.out x hx k hk; omega)).kept hf4 (fun k hk hm => by
        rw [List.mem_singleton] at hm
        have h1 := HNK.out.1 k hk; have h2 := lt_of_heap HIN.out.ld.row; have h3 := HF1.out.size; omega) (fun x hx k hk hm => by
        rw [List.mem_singleton] at hm
        have h1 := HLST.out x hx k hk; have h2 := lt_of_heap HIN.out.ld.row; have h3 := HF1.out.size; omega))
      have HF4 := hid hf4
      have HLD4 := hid hld4
      have HB4 := hid hb4
      have HSM := hid (sameF_any qf qg sg cf cg ls lsg v4 HOW4.out hrk (by rw [hls4, HLS.out]) (by omega))
      clear hrk hls4 hld4 hf4 hb4 hq4 hlst HFE q3
      go_wp2_with fail
      refine HSM.out.mono ?_
      rintro e v5 ⟨rfl, hf5⟩
      have HF5 := hid hf5
      have HLN5 : Hid (IsLn v5 lb p2 n2 c2 zs2) := hid (((HLN2.out.kept HF3.out (fun hm => by have h1 := HB1.out lb hm; have h2 := lt_of_heap HIN.out.ln.row; omega) (fun k hk hm => by
        have h1 := HB1.out k hm
        rcases HAP.out k hk with h | h
        · have := HIN.out.ln.wt.low k h; omega
        · omega)).kept HF4.out (by simpa using HIN.out.lo.2.2) (fun k hk hm => by
        rw [List.mem_singleton] at hm
        rcases HAP.out k hk with h | h
        · exact (HIN.out.fp k h).2.1 hm
        · have h2 := lt_of_heap HIN.out.ld.row; have h3 := HF1.out.size; omega)).k0 hf5)
      have HLL := hid (lineLeft_any v5 lb p2 n2 c2 zs2 HLN5.out)
      have HOW5 : Hid (FillF v5 v5 qf sg cf ls ls) := hid ⟨HOW4.out.k0 hf5, Frm.refl _ _, fun i y hy => ⟨y, hy, rfl, rfl, rfl⟩⟩
      clear hf5 HSM
      go_wp2_with fail
      refine HLL.out.mono ?_
      rintro e v5' ⟨rfl, rfl⟩
      clear HLL
      generalize v5' = v5 at *
      go_wp2_with fail
      go_loopw [15] (fun i wr => ∃ (u : Nat) (ks : List Bk), u ≤ sg ∧ i = .int .i64 (u : Int) ∧ Hid (FillF v5 wr qf sg cf ls ks)) (fun i _ => sg - (intOf i).toNat)
      case atStart => exact ⟨0, ls, Nat.zero_le _, rfl, HOW5⟩
      case round =>
        clear HOW5
        obtain ⟨u, ks, hu, rfl, hin⟩ := hrel
        have HFI := hid hin.out
        clear hin
        by_cases hltu : u < sg
        case pos =>
          have u1 : (u : Int) < (sg : Int) := by omega
          obtain ⟨x, hx⟩ : ∃ x, ks[u]? = some x := ⟨_, List.getElem?_eq_getElem (by rw [HFI.out.ow.ln]; exact hltu)⟩
          obtain ⟨xl, hxl⟩ : ∃ z, x.bs.length = z := ⟨_, rfl⟩
          obtain ⟨xp, hxp⟩ : ∃ z, x.p = z := ⟨_, rfl⟩
          obtain ⟨xc, hxc⟩ : ∃ z, x.c = z := ⟨_, rfl⟩
          have hxcp := (HFI.out.ow.it x (List.mem_of_getElem? hx)).1.cp
          have hxb : xl ≤ 9223372036854775807 := by omega
          have HIX : Hid (FillF v5 wr qf sg cf ls ks ∧ ∃ x' : Bk, ks[u]? = some x' ∧ x'.p = xp ∧ x'.c = xc ∧ x'.bs.length = xl) := hid ⟨HFI.out, x, hx, hxp, hxc, hxl⟩
          clear HFI hx hxl hxp hxc hxcp
          go_wp2_with fail
          go_loopw [16] (fun j wr => ∃ (k : Nat) (ks : List Bk), k ≤ xl ∧ j = .int .i64 (k : Int) ∧ Hid (FillF v5 wr qf sg cf ls ks ∧ ∃ x' : Bk, ks[u]? = some x' ∧ x'.p = xp ∧ x'.c = xc ∧ x'.bs.length = xl)) (fun j _ => xl - (intOf j).toNat)
          case atStart => exact ⟨0, ks, Nat.zero_le _, rfl, HIX⟩
          case round =>
            clear HIX
            obtain ⟨k, ks, hk, rfl, hin⟩ := hrel
            have HFI := hid hin.out
            clear hin
            obtain ⟨y, hy, hyp, hyc, hyl⟩ := HFI.out.2
            obtain ⟨ga, cura, hqa, _, z0⟩ := HFI.out.1.ow.at hy
            rw [hyp, hyc, hyl] at z0
            subst hqa
            by_cases hlt2 : k < xl
            · have k1 : (k : Int) < (xl : Int) := by omega
              obtain ⟨b, hb⟩ : ∃ b, y.bs[k]? = some b := ⟨_, List.getElem?_eq_getElem (by rw [hyl]; exact hlt2)⟩
              obtain ⟨g, cur, hgp, hg, hc⟩ := (HFI.out.1.ow.it y (List.mem_of_getElem? hy)).1.at hb
              have hzf := frozen_of_row wr g k _ _ hg
              have hput := HFI.out.1.put hy hgp (by rw [hyl]; exact hlt2) 97
              have HNX : Hid (FillF v5 (wr.setCell ⟨g, k, none⟩ (.int .u8 97)) (some ⟨ga, 0, none⟩) sg cf ls (ks.set u ⟨y.p, y.c, y.bs.set k 97⟩) ∧ ∃ x' : Bk, (ks.set u ⟨y.p, y.c, y.bs.set k 97⟩)[u]? = some x' ∧ x'.p = xp ∧ x'.c = xc ∧ x'.bs.length = xl) := hid ⟨hput, _, List.getElem?_set_self (List.getElem?_eq_some_iff.1 hy).1, hyp, hyc, by simpa using hyl⟩
              rw [hgp] at hyp
              subst hyp
              clear hput hy hgp hg hyc hyl hb
              go_wp2_with fail
              go_roundw
              case rel => exact ⟨k + 1, _, by omega, by go_num, HNX⟩
              case measure => first | (simp [intOf]; done) | (simp [intOf]; omega)
            · obtain rfl : k = xl := by omega
              have HNX : Hid (FillF v5 wr (some ⟨ga, 0, none⟩) sg cf ls ks) := hid HFI.out.1
              clear hy hyp hyc hyl HFI
              go_wp2_with fail
              go_roundw
              case rel => exact ⟨u + 1, ks, by omega, by go_num, HNX⟩
              case measure => first | (simp [intOf]; done) | (simp [intOf]; omega)
        obtain rfl : u = sg := by omega
        have HNXT : Hid (LnsF W wr lb yb p2 n2 c2 p3 n3 c3 zs2) := hid (HIN.out.next HF1.out HB1.out HF2.out HLN2.out HAP.out HF3.out HF4.out HLD4.out HB4.out HF5.out HFI.out.fr HLST.out (fun x hx k hk => HAX.out x hx k hk) (fun z hz => HZA.out z (HFN.out.2 z hz)) HN2.out)
        have hn3 : n3 = n2 := by rw [← HNXT.out.ld.len, HNXT.out.ln.wt.ln]
        have z3 : wr.cell? ⟨yb, 0, none⟩ = some (.slice p3 n3 c3) := by rw [cell_of_row _ _ _ _ _ _ HNXT.out.ld.row]; rfl
        subst hn3
        clear hltu hu
        go_wp2_with fail
        go_roundw
        case rel => exact ⟨t + 1, p2, n3, c2, p3, n3, c3, zs2, by omega, by go_num, HNXT⟩
        case measure => first | (simp [intOf]; done) | (simp [intOf]; omega)
end
end Go.Proofs.YtignoocdeghiaaaDoor
