/- The document's disks: New. -/
import Derived.Test.YtfclamndjnoopaaRfF
namespace Go.Proofs.Ytfclamndjnoopaa
open Go.RowKit Go.Lib
set_option maxRecDepth 100000

/-- Where New stands behind j sectors. -/
structure InM (w : World) (φ : Nat → Rl) (H : RHp) (db j : Nat) (pp : Option Addr) (pc : Nat) (ss : List SecR) (ψ : Nat → Rl) (w' : World) : Prop where
  r : IsRf w' ψ H
  x : ∀ k, k < w.heap.size → ψ k = φ k
  l : ss.length = j
  b : w'.heap[db]? = some (.cells #[.slice pp j pc, .bool false] 82 (0, 0))
  o : w'.ownsRow 0 22 1 (.slice pp j pc) j (ss.map SecR.v)
  s : ∀ s ∈ ss, SecOk w' ψ s ∧ s.bs = List.replicate 128 0
  rd : ψ db = .disk H.ds.length
  rp : ∀ k ∈ blk pp, ψ k = .plat H.ds.length ∧ w.heap.size ≤ k
  n : w.heap.size ≤ db
  f : Frm [] w w'
set_option maxHeartbeats 3200000 in
theorem refNewBad_any (v : Value) (n : Int) (hn : n < 1 ∨ 8192 < n) (w : World) :
    Calls Try.prog 35 #[v, .int .i64 n] w fun e w' => e = .returned (.tuple #[.int .i64 (-1), .int .i64 1]) ∧ w' = w := by
  go_enter Try.func35, Try.ntmps35
  by_cases h1 : n < 1
  · go_wp2_with fail
    go_returns
    exact ⟨rfl, rfl⟩
  · have h2 : 8192 < n := by omega
    go_wp2_with fail
    go_returns
    exact ⟨rfl, rfl⟩
set_option maxHeartbeats 6400000 in
theorem refNew_any (φ : Nat → Rl) (H : RHp) (n : Nat) (h1 : 1 ≤ n) (h2 : n ≤ 8192) (w : World) (h : IsRf w φ H) (hd6 : H.ds.length < 6) :
    Calls Try.prog 35 #[.pointer (some ⟨H.rb, 0, none⟩), .int .i64 (n : Int)] w fun e w' => e = .returned (.tuple #[.int .i64 (H.ds.length : Int), .int .i64 0]) ∧ ∃ H' φ' d, d.failed = false ∧ d.ss.length = n ∧ (∀ s ∈ d.ss, s.bs = List.replicate 128 0) ∧ H' = { H with dp := H'.dp, dc := H'.dc, ds := H.ds ++ [d] } ∧ RStp w φ H H' φ' w' := by
  have HH := hid h
  obtain ⟨PO, hPO⟩ : ∃ PO : Ending → World → Prop, (fun e w' => e = .returned (.tuple #[.int .i64 (H.ds.length : Int), .int .i64 0]) ∧ ∃ H' φ' d, d.failed = false ∧ d.ss.length = n ∧ (∀ s ∈ d.ss, s.bs = List.replicate 128 0) ∧ H' = { H with dp := H'.dp, dc := H'.dc, ds := H.ds ++ [d] } ∧ RStp w φ H H' φ' w') = PO := ⟨_, rfl⟩
  rw [hPO]
  have HPO := hid hPO
  have hfa : Frm [] w (w.alloc (.cells #[.slice none 0 0, .bool false] 82)) := (Frm.refl _ _).alloc _
  have HST : Hid (∃ ψ, InM w φ H w.heap.size 0 none 0 [] ψ (w.alloc (.cells #[.slice none 0 0, .bool false] 82))) := hid ⟨fun k => if k = w.heap.size then .disk H.ds.length else φ k, h.kept hfa.size (fun k hk _ => hfa.block k hk (by simp)) (fun k hk => if_neg (by omega)), fun k hk => if_neg (by omega), rfl, heap_alloc_new _ _, ⟨rfl, Or.inl ⟨rfl, rfl⟩⟩, by simp, if_pos rfl, by simp [blk], Nat.le_refl _, hfa⟩
  obtain ⟨db, hdb⟩ : ∃ b, w.heap.size = b := ⟨_, rfl⟩
  have HDB := hid hdb
  clear h hPO hfa
  go_enter Try.func35, Try.ntmps35
  go_wp2_with fail
  rw [hdb] at HST
  try rw [hdb]
  clear hdb
  go_loopw [7, 8] (fun t s8 wr => ∃ (j : Nat) (pp : Option Addr) (pc : Nat) (ss : List SecR) (ψ : Nat → Rl), j ≤ n ∧ t = .int .i64 (j : Int) ∧ Hid (InM w φ H db j pp pc ss ψ wr)) (fun t _ _ => n - (intOf t).toNat)
  case atStart => obtain ⟨ψ, hs⟩ := HST.out; exact ⟨0, none, 0, [], ψ, by omega, rfl, hid hs⟩
  case round =>
    clear HST
    obtain ⟨j, pp, pc, ss, ψ, hj, rfl, hin⟩ := hrel
    by_cases hlt : j < n
    · have t1 : (j : Int) < (n : Int) := by omega
      have HNO := hid (refNoughts_any wr)
      obtain ⟨ZZ, hZZ⟩ : ∃ Z, (Obj.cells (bv (List.replicate 128 0)).toArray 5 (0, 0)) = Z := ⟨_, rfl⟩
      rw [hZZ] at HNO
      have HZZ := hid hZZ
      clear hZZ
      go_wp2_with fail
      refine HNO.out.mono ?_
      rintro e w3 ⟨rfl, hw3⟩
      have hf3 : Frm [] wr w3 := by rw [hw3]; exact (Frm.refl _ _).alloc _
      have hg3 : w3.heap[wr.heap.size]? = some (.cells (bv (List.replicate 128 0)).toArray 5 (0, 0)) := by rw [hw3, HZZ.out]; exact heap_alloc_new _ _
      obtain ⟨gs, hgs⟩ : ∃ g, wr.heap.size = g := ⟨_, rfl⟩
      rw [hgs] at hg3 ⊢
      have hdr := hf3.heap hin.out.b (by simp)
      have k0 : w3.cell? ⟨db, 0, none⟩ = some (.slice pp j pc) := by rw [cell_of_row _ _ _ _ _ _ hdr]; rfl
      have y0 : w3.frozen? ⟨db, 0, none⟩ = false := frozen_of_row _ _ 0 _ _ hdr
      have hfb : Frm [] w3 (w3.alloc (.cells #[.slice (some ⟨gs, 0, none⟩) 128 128] 22)) := (Frm.refl _ _).alloc _
      have HOW := hid (ownsRow_kept (ownsRow_kept hin.out.o hf3 (by simp)) hfb (by simp))
      have HRV : Hid (Rv (w3.alloc (.cells #[.slice (some ⟨gs, 0, none⟩) 128 128] 22)) (some ⟨w3.heap.size, 0, none⟩) [.slice (some ⟨gs, 0, none⟩) 128 128]) := hid (rv_block (heap_alloc_new w3 _))
      have HF3 := hid hf3
      have HFB := hid hfb
      have HG3 := hid hg3
      have HGS := hid hgs
      have HDR := hid hdr
      have hj8 : j ≤ 8192 := by omega
      clear hw3 hf3 hg3 hgs hfb hdr HNO HZZ
      go_wp2_with (at_builtin; refine wpList_appV rfl _ _ 80 rfl 22 1 24 _ Try.underlying80 infoSl rfl (by decide) pp j pc (ss.map SecR.v) rfl HOW.out (some ⟨w3.heap.size, 0, none⟩) 1 1 [.slice (some ⟨gs, 0, none⟩) 128 128] rfl rfl (by simp) HRV.out (by intro u hu; simp at hu; subst hu; rfl) (by unfold maxLen; omega) (by omega) ?_)
      intro p7 c7 w7 ho7 hf7 hb7
      have hdbn : db ∉ blk pp := fun hm => by
        have h1 := (hin.out.rp _ hm).1
        rw [hin.out.rd] at h1
        cases h1
      have hf37 := (HFB.out.mono (T := blk pp) (by simp)).trans hf7.out (fun k hk _ => hk)
      have hdlt := lt_of_heap HDR.out
      have q0 := (hf37.cell (p := ⟨db, 0, none⟩) hdlt hdbn).trans k0
      have qz := (hf37.frozen (p := ⟨db, 0, none⟩) hdlt hdbn).trans y0
      have HIN : Hid (∃ ψ', InM w φ H db (j + 1) p7 c7 (ss ++ [⟨gs, 128, List.replicate 128 0⟩]) ψ' (w7.setCell ⟨db, 0, none⟩ (.slice p7 (j + 1) c7))) := hid (by
        have hi := hin.out
        have hsz1 := hi.f.size
        have hsz3 := HF3.out.size
        have hsz4 := HFB.out.size
        have hgs := HGS.out
        have hgl := lt_of_heap HG3.out
        have hlow : ∀ k ∈ blk pp, k < wr.heap.size := fun k hk => ownsRow_low hi.o k hk
        have hdl : db < wr.heap.size := lt_of_heap hi.b
        have hp7 : ∀ k ∈ blk p7, k ∈ blk pp ∨ w3.heap.size < k := fun k hk => (hb7.out k hk).imp id (fun h => by first | omega | (simp at h; omega))
        have hf38 : Frm (db :: blk pp) w3 (w7.setCell ⟨db, 0, none⟩ (.slice p7 (j + 1) c7)) := (hf37.mono (fun k hk _ => by simp [hk])).trans ((Frm.refl [db] _).setCell _ _ (by simp)) (fun k hk _ => by simp at hk; simp [hk])
        have hfr : Frm (db :: blk pp) wr (w7.setCell ⟨db, 0, none⟩ (.slice p7 (j + 1) c7)) := (HF3.out.mono (by simp)).trans hf38 (fun k hk _ => hk)
        obtain ⟨ψ', hψ⟩ : ∃ ψ' : Nat → Rl, ψ' = fun k => if k = gs then .sec else if k ∈ blk p7 then .plat H.ds.length else ψ k := ⟨_, rfl⟩
        have hold : ∀ k, k < wr.heap.size → ψ' k = ψ k := fun k hk => by
          rw [hψ]
          show (if k = gs then Rl.sec else if k ∈ blk p7 then .plat H.ds.length else ψ k) = ψ k
          rw [if_neg (by omega)]
          by_cases hm : k ∈ blk p7
          · rw [if_pos hm]
            rcases hp7 k hm with h | h
            · exact ((hi.rp k h).1).symm
            · omega
          · rw [if_neg hm]
        have hfw : Frm [] w (w7.setCell ⟨db, 0, none⟩ (.slice p7 (j + 1) c7)) := hi.f.trans hfr (fun k hk hkl => by
          rcases List.mem_cons.1 hk with rfl | hm
          · have := hi.n; omega
          · have := (hi.rp k hm).2; omega)
        have hdp7 : db ∉ blk p7 := fun hm => (hp7 db hm).elim hdbn (fun h => by omega)
        have hfd : Frm [db] w7 (w7.setCell ⟨db, 0, none⟩ (.slice p7 (j + 1) c7)) := (Frm.refl _ _).setCell _ _ (by simp)
        have hxx : ∀ k, k < w.heap.size → ψ' k = φ k := fun k hk => (hold k (by omega)).trans (hi.x k hk)
        refine ⟨ψ', ⟨HH.out.kept hfw.size (fun k hk _ => hfw.block k hk (by simp)) hxx, hxx, by rw [List.length_append, hi.l]; rfl, ?_, ?_, fun s hs => ?_, (hold db hdl).trans hi.rd, fun k hk => ?_, hi.n, hfw⟩⟩
        · rw [heap_setCell_same w7 db 0 _ _ _ (hf37.heap HDR.out hdbn)]
          rfl
        · rw [List.map_append]
          exact ownsRow_kept ho7.out hfd (fun k hk hm => by simp at hm; subst hm; exact hdp7 hk)
        · rcases List.mem_append.1 hs with h | h
          · obtain ⟨h1, h2⟩ := hi.s s h
            refine ⟨h1.kept hfr.size (hfr.block _ h1.lt (fun hm => ?_)) (hold _ h1.lt), h2⟩
            rcases List.mem_cons.1 hm with e | hm
            · have := h1.rl; rw [e, hi.rd] at this; cases this
            · have := h1.rl; rw [(hi.rp _ hm).1] at this; cases this
          · obtain rfl := List.mem_singleton.1 h
            have hg8 := hf38.heap HG3.out (fun hm => by
              rcases List.mem_cons.1 hm with e | hm
              · omega
              · have := hlow _ hm; omega)
            exact ⟨⟨rd_blockD hg8, by simp, by show 128 ≤ 128; omega, rep_bd 128, by rw [hψ]; exact if_pos rfl, lt_of_heap hg8⟩, rfl⟩
        · refine ⟨?_, ?_⟩
          · rw [hψ]
            show (if k = gs then Rl.sec else if k ∈ blk p7 then .plat H.ds.length else ψ k) = _
            rw [if_neg (fun e => by
              rcases hp7 k hk with h | h
              · have := hlow k h; omega
              · omega), if_pos hk]
          · rcases hp7 k hk with h | h
            · exact (hi.rp k h).2
            · omega)
      clear ho7 hf7 hb7 hdbn hf37 hdlt k0 y0 HF3 HFB HG3 HGS HDR HOW HRV hin
      go_wp2_with fail
      go_roundw
      case rel => obtain ⟨ψ', hh⟩ := HIN.out; exact ⟨j + 1, p7, c7, _, ψ', by omega, by go_num, hid hh⟩
      case measure => first | (simp [intOf]; done) | (simp [intOf]; omega)
    · obtain rfl : j = n := by omega
      obtain ⟨c0, _, _, _, _⟩ := hin.out.r.cells
      have z0 := hin.out.r.froz 0
      have hfb : Frm [] wr (wr.alloc (.cells #[.pointer (some ⟨db, 0, none⟩)] 83)) := (Frm.refl _ _).alloc _
      have HOW := hid (ownsRow_kept hin.out.r.dsk hfb (by simp))
      have HRV : Hid (Rv (wr.alloc (.cells #[.pointer (some ⟨db, 0, none⟩)] 83)) (some ⟨wr.heap.size, 0, none⟩) [.pointer (some ⟨db, 0, none⟩)]) := hid (rv_block (heap_alloc_new wr _))
      have HFB := hid hfb
      have HN6 := hid hd6
      clear hfb hd6
      go_wp2_with (at_builtin; refine wpList_appV rfl _ _ 76 rfl 83 1 8 _ Try.underlying76 infoPd rfl (by decide) H.dp H.ds.length H.dc (H.ds.map (fun d => .pointer (some ⟨d.db, 0, none⟩))) rfl HOW.out (some ⟨wr.heap.size, 0, none⟩) 1 1 [.pointer (some ⟨db, 0, none⟩)] rfl rfl (by simp) HRV.out (by intro u hu; simp at hu; subst hu; rfl) (by have := HN6.out; unfold maxLen; omega) (by have := HN6.out; omega) ?_)
      intro p7 c7 w7 ho7 hf7 hb7
      have hrbn : H.rb ∉ blk H.dp := fun hm => by
        have h1 := hin.out.r.rD _ hm
        rw [hin.out.r.rP] at h1
        cases h1
      have hf57 := (HFB.out.mono (T := blk H.dp) (by simp)).trans hf7.out (fun k hk _ => hk)
      have hrlt := lt_of_heap hin.out.r.row
      have q0 := (hf57.cell (p := ⟨H.rb, 0, none⟩) hrlt hrbn).trans c0
      have qz := (hf57.frozen (p := ⟨H.rb, 0, none⟩) hrlt hrbn).trans z0
      have HFIN : Hid (∃ (H' : RHp) (φ' : Nat → Rl) (d : RDk), d.failed = false ∧ d.ss.length = j ∧ (∀ s ∈ d.ss, s.bs = List.replicate 128 0) ∧ H' = { H with dp := H'.dp, dc := H'.dc, ds := H.ds ++ [d] } ∧ RStp w φ H H' φ' (w7.setCell ⟨H.rb, 0, none⟩ (.slice p7 (H.ds.length + 1) c7))) := hid (by
        have hi := hin.out
        have hr := hi.r
        have hdlt := lt_of_heap hi.b
        have hp7 : ∀ k ∈ blk p7, k ∈ blk H.dp ∨ wr.heap.size < k := fun k hk => (hb7.out k hk).imp id (fun h => by first | omega | (simp at h; omega))
        have hf1 : Frm [H.rb] w7 (w7.setCell ⟨H.rb, 0, none⟩ (.slice p7 (H.ds.length + 1) c7)) := (Frm.refl _ _).setCell _ _ (by simp)
        have hf58 : Frm (H.rb :: blk H.dp) wr (w7.setCell ⟨H.rb, 0, none⟩ (.slice p7 (H.ds.length + 1) c7)) := (hf57.mono (fun k hk _ => by simp [hk])).trans hf1 (fun k hk _ => by simp at hk; simp [hk])
        have nb : ∀ {k : Nat} {r : Rl}, ψ k = r → r ≠ .pow → r ≠ .dsk → k ∉ H.rb :: blk H.dp := fun {k r} e h1 h2 hm => by
          rcases List.mem_cons.1 hm with rfl | hm
          · rw [hr.rP] at e; exact h1 e.symm
          · rw [hr.rD k hm] at e; exact h2 e.symm
        obtain ⟨φ', hφ⟩ : ∃ φ' : Nat → Rl, φ' = fun k => if k ∈ blk p7 then .dsk else ψ k := ⟨_, rfl⟩
        have rl : ∀ {k : Nat} {r : Rl}, ψ k = r → r ≠ .dsk → k < wr.heap.size → φ' k = r := fun {k r} e h1 hk => by
          rw [hφ]
          show (if k ∈ blk p7 then Rl.dsk else ψ k) = r
          rw [if_neg (fun hm => by
            rcases hp7 k hm with h | h
            · rw [hr.rD k h] at e; exact h1 e.symm
            · omega), e]
        have sk : ∀ t, SecOk wr ψ t → SecOk (w7.setCell ⟨H.rb, 0, none⟩ (.slice p7 (H.ds.length + 1) c7)) φ' t := fun t ht =>
          ht.kept hf58.size (hf58.block _ ht.lt (nb ht.rl (by intro e; cases e) (by intro e; cases e))) ((rl ht.rl (by intro e; cases e) ht.lt).trans ht.rl.symm)
        have hrlt := lt_of_heap hr.row
        have hlen : (H.ds ++ [(⟨db, pp, pc, false, ss⟩ : RDk)]).length = H.ds.length + 1 := by simp
        have get : ∀ (i : Nat) (e : RDk), (H.ds ++ [(⟨db, pp, pc, false, ss⟩ : RDk)])[i]? = some e → H.ds[i]? = some e ∨ (i = H.ds.length ∧ e = ⟨db, pp, pc, false, ss⟩) := fun i e hie => by
          by_cases hlt2 : i < H.ds.length
          · rw [List.getElem?_append_left hlt2] at hie; exact Or.inl hie
          · rw [List.getElem?_append_right (by omega)] at hie
            by_cases h0 : i - H.ds.length = 0
            · rw [h0] at hie; simp at hie; exact Or.inr ⟨by omega, hie.symm⟩
            · obtain ⟨m, hm⟩ : ∃ m, i - H.ds.length = m + 1 := ⟨i - H.ds.length - 1, by omega⟩
              rw [hm] at hie; simp at hie
        have hlow : ∀ {E : TypeId} {sz m : Nat} {q : Option Addr} {cq : Nat} {xs : List Value}, wr.ownsRow 0 E sz (.slice q m cq) m xs → ∀ k ∈ blk q, k < wr.heap.size := fun ho k hk => ownsRow_low ho k hk
        have hfw : FrR φ w (w7.setCell ⟨H.rb, 0, none⟩ (.slice p7 (H.ds.length + 1) c7)) := (FrR.of hi.f (by simp)).trans (FrR.of (φ := ψ) hf58 (fun k hk _ => by
          rcases List.mem_cons.1 hk with rfl | hm
          · rw [hr.rP]; trivial
          · rw [hr.rD k hm]; trivial)) hi.x
        refine ⟨{ H with dp := p7, dc := c7, ds := H.ds ++ [⟨db, pp, pc, false, ss⟩] }, φ', ⟨db, pp, pc, false, ss⟩, rfl, hi.l, fun t ht => (hi.s t ht).2, rfl, ⟨⟨?_, ?_, ownsRow_kept hr.wts hf58 (fun k hk => nb (hr.rW k hk) (by intro e; cases e) (by intro e; cases e)), ?_, ?_, fun x hx => sk _ (hr.secW x hx), rl hr.rP (by intro e; cases e) hrlt, fun k hk => ?_, fun k hk => rl (hr.rW k hk) (by intro e; cases e) (hlow hr.wts k hk), ?_, ?_, ?_, ?_, hr.lb, hr.wb⟩, rfl, fun k hk => ?_, hfw⟩⟩
        · rw [heap_setCell_same w7 H.rb 0 _ _ _ (hf57.heap hr.row hrbn)]
          unfold RHp.powRow
          simp
        · show (w7.setCell _ _).ownsRow 0 _ 1 (.slice p7 (H.ds ++ [_]).length c7) (H.ds ++ [_]).length _
          rw [hlen, List.map_append]
          refine ownsRow_kept ho7.out hf1 (fun k hk hm => ?_)
          simp at hm
          subst hm
          rcases hp7 _ hk with h | h
          · exact hrbn h
          · omega
        · intro i e hie
          rcases get i e hie with h | ⟨_, rfl⟩
          · exact ⟨hf58.heap (hr.dr i e h).1 (nb (hr.rI i e h).1 (by intro e; cases e) (by intro e; cases e)), ownsRow_kept (hr.dr i e h).2 hf58 (fun k hk => nb ((hr.rI i e h).2 k hk) (by intro e; cases e) (by intro e; cases e))⟩
          · have ho := hi.o
            have hl := hi.l
            refine ⟨?_, ?_⟩
            · have := hf58.heap hi.b (nb hi.rd (by intro e; cases e) (by intro e; cases e))
              unfold RDk.row
              simp only [hl]
              exact this
            · simp only [hl]
              exact ownsRow_kept ho hf58 (fun k hk => nb (hi.rp k hk).1 (by intro e; cases e) (by intro e; cases e))
        · intro i e hie t ht
          rcases get i e hie with h | ⟨_, rfl⟩
          · exact sk t (hr.secD i e h t ht)
          · exact sk t (hi.s t ht).1
        · rw [hφ]; exact if_pos hk
        · intro i e hie
          rcases get i e hie with h | ⟨hil, rfl⟩
          · exact ⟨rl (hr.rI i e h).1 (by intro e; cases e) (lt_of_heap (hr.dr i e h).1), fun k hk => rl ((hr.rI i e h).2 k hk) (by intro e; cases e) (hlow (hr.dr i e h).2 k hk)⟩
          · rw [hil]
            exact ⟨rl hi.rd (by intro e; cases e) hdlt, fun k hk => rl (hi.rp k hk).1 (by intro e; cases e) (hlow hi.o k hk)⟩
        · intro x hx
          obtain ⟨e, he, hxa⟩ := hr.wd x hx
          exact ⟨e, by rw [List.getElem?_append_left (List.getElem?_eq_some_iff.1 he).1]; exact he, hxa⟩
        · intro i e hie
          rcases get i e hie with h | ⟨_, rfl⟩
          · exact hr.nb i e h
          · show ss.length ≤ 8192
            rw [hi.l]; omega
        · rw [hlen]; have := HN6.out; omega
        · by_cases hm : k ∈ blk p7
          · rcases hp7 k hm with h | h
            · rw [← hi.x k hk, hr.rD k h, hφ]
              exact if_pos hm
            · have := hi.f.size; omega
          · rw [hφ]
            show (if k ∈ blk p7 then Rl.dsk else ψ k) = φ k
            rw [if_neg hm, hi.x k hk])
      clear ho7 hf7 hb7 hrbn hf57 hrlt c0 z0 HOW HRV HFB hin
      have hn5 : (H.ds.length : Int) ≤ 6 := by have := HN6.out; omega
      go_wp2_with fail
      rw [← HPO.out]
      exact ⟨by first | rfl | (congr 1), HFIN.out⟩
end Go.Proofs.Ytfclamndjnoopaa
