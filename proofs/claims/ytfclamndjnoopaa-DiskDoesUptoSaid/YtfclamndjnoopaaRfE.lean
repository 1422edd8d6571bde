/- The document's disks: what waits of one disk goes: without. -/
import Derived.Test.YtfclamndjnoopaaRfD
import Derived.StillTailTactics
namespace Go.Proofs.Ytfclamndjnoopaa
open Go.RowKit Go.Lib
set_option maxRecDepth 100000

/-- A platter behind what waits of its disk; what waits of other disks. -/
def overS (i : Nat) (ss : List SecR) (ws : List RWt) : List SecR := ws.foldl (fun ss x => if x.d = i then ss.set x.at_ x.s else ss) ss
def restR (i : Nat) (ws : List RWt) : List RWt := ws.filter (fun x => !(x.d == i))
theorem overS_app (i : Nat) (ss : List SecR) (a b : List RWt) : overS i ss (a ++ b) = overS i (overS i ss a) b := by simp [overS]
theorem restR_app (i : Nat) (a b : List RWt) : restR i (a ++ b) = restR i a ++ restR i b := by simp [restR]
theorem take_succ_r {l : List RWt} {j : Nat} {x : RWt} (h : l[j]? = some x) : l.take (j + 1) = l.take j ++ [x] := by
  obtain ⟨h1, rfl⟩ := List.getElem?_eq_some_iff.1 h
  exact List.take_succ_eq_append_getElem h1
theorem overS_length (i : Nat) : ∀ (ws : List RWt) (ss : List SecR), (overS i ss ws).length = ss.length := by
  intro ws
  induction ws with
  | nil => intro ss; rfl
  | cons x ws ih =>
    intro ss
    show (overS i (if x.d = i then ss.set x.at_ x.s else ss) ws).length = _
    rw [ih]
    split <;> simp
theorem restR_le (i : Nat) (ws : List RWt) : (restR i ws).length ≤ ws.length := List.length_filter_le _ _
/-- Where without stands behind j of those that wait. -/
structure InX (w : World) (φ : Nat → Rl) (H : RHp) (i : Nat) (d : RDk) (keep : Bool) (j : Nat) (lp : Option Addr) (lc : Nat) (w' : World) : Prop where
  r : IsRf w' φ { H with ds := H.ds.set i { d with ss := if keep then overS i d.ss (H.ws.take j) else d.ss } }
  o : w'.ownsRow 0 86 3 (.slice lp (restR i (H.ws.take j)).length lc) (restR i (H.ws.take j)).length (rowsR (restR i (H.ws.take j)))
  n : ∀ k ∈ blk lp, w.heap.size ≤ k
  f : FrR φ w w'
theorem set_set_r {l : List RDk} {i : Nat} {a b : RDk} : (l.set i a).set i b = l.set i b := by simp
theorem set_self_r {l : List RDk} {i : Nat} {d : RDk} (h : l[i]? = some d) : l.set i d = l := by
  apply List.ext_getElem?
  intro j
  rw [List.getElem?_set]
  by_cases hij : i = j
  · subst hij; rw [if_pos rfl, if_pos (List.getElem?_eq_some_iff.1 h).1, h]
  · rw [if_neg hij]
set_option maxHeartbeats 6400000 in
theorem refWithout_any (φ0 : Nat → Rl) (H : RHp) (i : Nat) (d : RDk) (keep : Bool) (w : World) (h0 : IsRf w φ0 H) (hi : H.ds[i]? = some d) :
    Calls Try.prog 49 #[.pointer (some ⟨H.rb, 0, none⟩), .int .i64 (i : Int), .bool keep] w fun e w' => e = .returned (.tuple #[]) ∧ ∃ H' φ', H' = { H with wp := H'.wp, wc := H'.wc, ws := restR i H.ws, ds := H.ds.set i { d with ss := if keep then overS i d.ss H.ws else d.ss } } ∧ RStp w φ0 H H' φ' w' := by
  have h := h0.cut
  obtain ⟨φ, hφ⟩ : ∃ φ, cutφ φ0 w.heap.size = φ := ⟨_, rfl⟩
  have HOLD : Hid (∀ k, k < w.heap.size → φ k = φ0 k) := hid (fun k hk => by rw [← hφ]; exact cutφ_old hk)
  have HNEW : Hid (∀ k, w.heap.size ≤ k → φ k = .oth 9) := hid (fun k hk => by rw [← hφ]; exact cutφ_new hk)
  rw [hφ] at h
  have HH := hid h
  have HI := hid hi
  obtain ⟨c0, c1, c2, c3, c4⟩ := h.cells
  have hil : (i : Int) < (H.ds.length : Int) := by have := (List.getElem?_eq_some_iff.1 hi).1; omega
  have hdl := h.dl
  have hwb := h.wb
  obtain ⟨m, hm⟩ : ∃ m, H.ws.length = m := ⟨_, rfl⟩
  have hm2 : m ≤ 500000000000 := by omega
  rw [hm] at c1
  have HM := hid hm
  obtain ⟨PO, hPO⟩ : ∃ PO : Ending → World → Prop, (fun e w' => e = .returned (.tuple #[]) ∧ ∃ H' φ', H' = { H with wp := H'.wp, wc := H'.wc, ws := restR i H.ws, ds := H.ds.set i { d with ss := if keep then overS i d.ss H.ws else d.ss } } ∧ RStp w φ0 H H' φ' w') = PO := ⟨_, rfl⟩
  rw [hPO]
  have HPO := hid hPO
  have HST : Hid (InX w φ H i d keep 0 none 0 w) := hid ⟨by
    have e : (if keep then overS i d.ss (H.ws.take 0) else d.ss) = d.ss := by cases keep <;> simp [overS]
    rw [e, show ({ d with ss := d.ss } : RDk) = d from rfl, set_self_r hi]
    exact h, ⟨rfl, Or.inl ⟨rfl, rfl⟩⟩, by simp [blk], FrR.refl _ _⟩
  clear h0 h hi hφ hm hPO c0 c2 c3 c4 hwb
  go_enter Try.func49, Try.ntmps49
  go_wp2_with fail
  go_loopw [6, 7, 8] (fun l t s8 wr => ∃ (j : Nat) (lp : Option Addr) (ln lc : Nat), j ≤ m ∧ l = .slice lp ln lc ∧ t = .int .i64 (j : Int) ∧ Hid (ln = (restR i (H.ws.take j)).length) ∧ Hid (InX w φ H i d keep j lp lc wr)) (fun _ t _ _ => m - (intOf t).toNat)
  case atStart => exact ⟨0, none, 0, 0, by omega, rfl, rfl, hid rfl, HST⟩
  case round =>
    clear HST c1
    obtain ⟨j, lp, ln, lc, hj, rfl, rfl, hln, hin⟩ := hrel
    have hlt0 : i < H.ds.length := (List.getElem?_eq_some_iff.1 HI.out).1
    have hgi : (H.ds.set i { d with ss := if keep then overS i d.ss (H.ws.take j) else d.ss })[i]? = some { d with ss := if keep then overS i d.ss (H.ws.take j) else d.ss } := by rw [List.getElem?_set, if_pos rfl, if_pos hlt0]
    obtain ⟨c0, c1, _, _, _⟩ := hin.out.r.cells
    simp only [List.length_set, HM.out] at c0 c1
    by_cases hlt : j < m
    · have t1 : (j : Int) < (m : Int) := by omega
      obtain ⟨x, hx⟩ : ∃ x, H.ws[j]? = some x := ⟨_, List.getElem?_eq_getElem (by rw [HM.out]; exact hlt)⟩
      obtain ⟨gw, hgw, x0, x1, x2, _⟩ := hin.out.r.wait hx
      rw [hgw] at c1
      have htk := take_succ_r hx
      have HX := hid hx
      have HTK := hid htk
      unfold SecR.v at x2
      have hwd : x.at_ < d.ss.length ∨ x.d ≠ i := by
        obtain ⟨d', h1, h2⟩ := HH.out.wd x (List.mem_of_getElem? hx)
        by_cases e : x.d = i
        · rw [e, HI.out] at h1; cases h1; exact Or.inl h2
        · exact Or.inr e
      have hsx : SecOk wr φ x.s := hin.out.r.secW x (List.mem_of_getElem? hx)
      have HSX := hid hsx
      have hfa : Frm [] wr (wr.alloc (.cells #[.int .i64 (x.d : Int), .int .i64 (x.at_ : Int), .slice (some ⟨x.s.g, 0, none⟩) 128 x.s.c] 86)) := (Frm.refl _ _).alloc _
      have HFA := hid hfa
      have HJ : Hid (∀ w', Frm [] wr w' → InX w φ H i d keep j lp lc w') := hid (fun w' hf => ⟨hin.out.r.new hf, ownsRow_kept hin.out.o hf (by simp), hin.out.n, hin.out.f.trans (FrR.of hf (by simp)) (fun _ _ => rfl)⟩)
      by_cases hd : x.d = i
      · have b1 : ((x.d : Int) != (i : Int)) = false := by simp [hd]
        have HRE : Hid (restR i (H.ws.take (j + 1)) = restR i (H.ws.take j)) := hid (by rw [htk, restR_app]; simp [restR, hd])
        have HLN : Hid (ln = (restR i (H.ws.take (j + 1))).length) := hid (by rw [HRE.out]; exact hln.out)
        cases keep
        case false =>
          have HIN : Hid (InX w φ H i d false (j + 1) lp lc (wr.alloc (.cells #[.int .i64 (x.d : Int), .int .i64 (x.at_ : Int), .slice (some ⟨x.s.g, 0, none⟩) 128 x.s.c] 86))) := hid (by
            have hJ := HJ.out _ hfa
            exact ⟨hJ.r, by rw [HRE.out]; exact hJ.o, hJ.n, hJ.f⟩)
          clear hx htk hgi hgw hlt0 hd hwd hsx hfa hin HJ
          go_wp2_with fail
          go_roundw
          case rel => exact ⟨j + 1, lp, ln, lc, by omega, rfl, by go_num, HLN, HIN⟩
          case measure => first | (simp [intOf]; done) | (simp [intOf]; omega)
        case true =>
          simp only [if_true] at hgi
          have hDl : (overS i d.ss (H.ws.take j)).length = d.ss.length := overS_length _ _ _
          have hat : x.at_ < d.ss.length := hwd.elim id (fun h => absurd hd h)
          obtain ⟨so, hso⟩ : ∃ so, (overS i d.ss (H.ws.take j))[x.at_]? = some so := ⟨_, List.getElem?_eq_getElem (by rw [hDl]; exact hat)⟩
          have hin2 := (HJ.out _ hfa).r
          simp only [if_true] at hin2
          obtain ⟨gd, hgd, g0, g1, _⟩ := hin2.at hgi
          obtain ⟨gp, hgp, p0, pz⟩ := hin2.sec hgi hso
          have hgd' : H.dp = some ⟨gd, 0, none⟩ := hgd
          have hgp' : d.pp = some ⟨gp, 0, none⟩ := hgp
          rw [hgd'] at c0
          simp only [hgp', hDl] at g1
          have c0' := (hfa.cell (p := ⟨H.rb, 0, none⟩) (World.block_lt_of_cell? wr _ c0) (by simp)).trans c0
          have tA : (x.at_ : Int) < (d.ss.length : Int) := by omega
          have hn8 := HH.out.nb i d HI.out
          obtain ⟨L, hL⟩ : ∃ L, d.ss.length = L := ⟨_, rfl⟩
          rw [hL] at g1 tA hn8
          obtain ⟨wa, hwa⟩ : ∃ W, wr.alloc (.cells #[.int .i64 (x.d : Int), .int .i64 (x.at_ : Int), .slice (some ⟨x.s.g, 0, none⟩) 128 x.s.c] 86) = W := ⟨_, rfl⟩
          have hgn := heap_alloc_new wr (.cells #[.int .i64 (x.d : Int), .int .i64 (x.at_ : Int), .slice (some ⟨x.s.g, 0, none⟩) 128 x.s.c] 86)
          rw [hwa] at hgn g0 g1 p0 pz c0' hfa hin2
          rw [hwa] at HFA
          have n0 : wa.cell? ⟨wr.heap.size, 0, none⟩ = some (.int .i64 (x.d : Int)) := by rw [cell_of_row _ _ _ _ _ _ hgn]; rfl
          have n1 : wa.cell? ⟨wr.heap.size, 1, none⟩ = some (.int .i64 (x.at_ : Int)) := by rw [cell_of_row _ _ _ _ _ _ hgn]; rfl
          have n2 : wa.cell? ⟨wr.heap.size, 2, none⟩ = some (.slice (some ⟨x.s.g, 0, none⟩) 128 x.s.c) := by rw [cell_of_row _ _ _ _ _ _ hgn]; rfl
          have HIN : Hid (InX w φ H i d true (j + 1) lp lc (wa.drew.setCell ⟨gp, x.at_, none⟩ (.slice (some ⟨x.s.g, 0, none⟩) 128 x.s.c))) := hid (by
            have hfd : Frm [] wr wa.drew := hfa.drew
            have hJ := HJ.out _ hfd
            have hr := hJ.r
            simp only [if_true] at hr
            obtain ⟨r1, r2, r3⟩ := hr.setSec (k := x.at_) hgi hgp (hsx.far hfd (by simp))
            have hgpl : gp < w.heap.size := by
              rcases Nat.lt_or_ge gp w.heap.size with h | h
              · exact h
              · rw [HNEW.out gp h] at r3; cases r3
            refine ⟨?_, ?_, hJ.n, hJ.f.trans (FrR.of r2 (fun k hk _ => by simp at hk; subst hk; rw [r3]; trivial)) (fun _ _ => rfl)⟩
            · simp only [if_true]
              have e : overS i d.ss (H.ws.take (j + 1)) = (overS i d.ss (H.ws.take j)).set x.at_ x.s := by rw [htk, overS_app]; simp [overS, hd]
              rw [e]
              have r1' := r1
              simp only [set_set_r] at r1'
              exact r1'
            · rw [HRE.out]
              exact ownsRow_kept hJ.o r2 (fun k hk hm => by simp at hm; subst hm; have := hJ.n _ hk; omega))
          clear hx htk hgi hgw hlt0 hd hwd hsx hfa hin HJ hin2 hso hgd hgp hgd' hgp' hDl hat hL hgn
          go_wp2_with fail
          go_still_tail 15, (by kernel_rfl)
          change wpList _ _ _ _ _ wa.drew
          have q0 : wa.drew.cell? ⟨gp, x.at_, none⟩ = some so.v := p0
          have qz : wa.drew.frozen? ⟨gp, x.at_, none⟩ = false := pz
          obtain ⟨wb, hwb⟩ : ∃ W, wa.drew = W := ⟨_, rfl⟩
          rw [hwb] at q0 qz HIN ⊢
          clear hwb n0 n1 n2 c0' c0 g0 g1 p0 pz
          go_wp2_with fail
          go_roundw
          case rel => exact ⟨j + 1, lp, ln, lc, by omega, rfl, by go_num, HLN, HIN⟩
          case measure => first | (simp [intOf]; done) | (simp [intOf]; omega)
      · have b1 : ((x.d : Int) != (i : Int)) = true := by simpa using fun h : (x.d : Int) = i => hd (by omega)
        have HD := hid hd
        clear hx htk hgi hgw hlt0 hwd hsx hd
        obtain ⟨AA, hAA⟩ : ∃ A, A = (Obj.cells #[.int .i64 (x.d : Int), .int .i64 (x.at_ : Int), .slice (some ⟨x.s.g, 0, none⟩) 128 x.s.c] 86 (0, 0)) := ⟨_, rfl⟩
        have hfb : Frm [] wr ((wr.alloc AA).alloc AA) := ((Frm.refl _ _).alloc _).alloc _
        have HI5 := hid (HJ.out _ hfb)
        have HRV : Hid (Rv ((wr.alloc AA).alloc AA) (some ⟨wr.heap.size + 1, 0, none⟩) x.row) := hid (by
          have h := rv_block (w := (wr.alloc AA).alloc AA) (g := wr.heap.size + 1) (cs := x.row.toArray) (E := 86) (by rw [hAA]; exact heap_alloc_to _ _ (by simp))
          simpa using h)
        rw [hAA] at HI5 HRV
        have HON : Hid (∀ u ∈ x.row, u.oneCell' = true) := hid (fun u hu => by
          simp only [RWt.row, List.mem_cons, List.not_mem_nil, or_false] at hu
          rcases hu with rfl | rfl | rfl <;> rfl)
        have hlnb : ln ≤ 500000000000 := by have := restR_le i (H.ws.take j); have h2 := hln.out; rw [List.length_take] at this; omega
        have HLNB := hid hlnb
        have ho5 := HI5.out.o
        rw [← hln.out] at ho5
        have HO5 := hid ho5
        clear hAA hfb hlnb hfa ho5
        go_wp2_with (at_builtin; refine wpList_appV rfl _ _ 77 rfl 86 3 40 _ Try.underlying77 infoWr rfl (by decide) lp ln lc (rowsR (restR i (H.ws.take j))) rfl HO5.out (some ⟨wr.heap.size + 1, 0, none⟩) 1 1 x.row rfl rfl (by simp) HRV.out HON.out (by have := HLNB.out; unfold maxLen; omega) (by have := HLNB.out; omega) ?_)
        intro p2 c2 w6 ho6 hf6 hb6
        have HRE : Hid (restR i (H.ws.take (j + 1)) = restR i (H.ws.take j) ++ [x]) := hid (by rw [HTK.out, restR_app]; congr 1; simp [restR, HD.out])
        have HLN : Hid (ln + 1 = (restR i (H.ws.take (j + 1))).length) := hid (by rw [HRE.out, List.length_append, ← hln.out]; rfl)
        have HIN : Hid (InX w φ H i d keep (j + 1) p2 c2 w6) := hid (by
          have h5 := HI5.out
          have hov : (if keep then overS i d.ss (H.ws.take (j + 1)) else d.ss) = (if keep then overS i d.ss (H.ws.take j) else d.ss) := by
            cases keep
            · rfl
            · simp only [if_true]; rw [HTK.out, overS_app]; simp [overS, HD.out]
          have hsz : w.heap.size ≤ wr.heap.size := hin.out.f.size
          have hlo : ∀ k ∈ blk lp, φ k = .oth 9 := fun k hk => HNEW.out k (h5.n k hk)
          refine ⟨by rw [hov]; exact h5.r.far hf6.out (fun k hk => ⟨9, hlo k hk⟩), ?_, fun k hk => (hb6.out k hk).elim (h5.n k) (fun h => by first | omega | (simp at h; omega)), ⟨hf6.out.os.trans h5.f.os, hf6.out.tape.trans h5.f.tape, hf6.out.output.trans h5.f.output, Nat.le_trans h5.f.size hf6.out.size, fun k hk hm => (hf6.out.block k (Nat.lt_of_lt_of_le hk h5.f.size) (fun hkm => by have := h5.n k hkm; omega)).trans (h5.f.block k hk hm)⟩⟩
          · rw [← HLN.out, HRE.out, rowsR_app, show rowsR [x] = x.row by simp [rowsR]]
            exact ho6.out)
        clear ho6 hf6 hb6 HI5 HRV HON HO5 HJ hin
        go_wp2_with fail
        go_roundw
        case rel => exact ⟨j + 1, p2, ln + 1, c2, by omega, rfl, by go_num, HLN, HIN⟩
        case measure => first | (simp [intOf]; done) | (simp [intOf]; omega)
    · obtain rfl : j = m := by omega
      have htj : H.ws.take j = H.ws := List.take_of_length_le (by rw [HM.out]; omega)
      have z1 := hin.out.r.froz 1
      have HW := hid (by
        have h := hin.out
        rw [htj] at hln
        have ho := h.o
        have hr := h.r
        rw [htj] at ho hr
        have hlo : ∀ k ∈ blk lp, φ k = .oth 9 := fun k hk => HNEW.out k (h.n k hk)
        have hwb := HH.out.wb
        have hle := restR_le i H.ws
        exact hr.setWs ho (fun k hk => Or.inr ⟨9, hlo k hk⟩) (fun x hx => ⟨hr.secW x (List.mem_filter.1 hx).1, hr.wd x (List.mem_filter.1 hx).1⟩) (by show H.written + ((restR i H.ws).length : Int) ≤ 500000000000; omega))
      rw [htj] at hln
      rw [← hln.out] at HW
      have HLN := hid hln.out
      have HIN := hid hin.out
      clear htj hln hin hgi
      go_wp2_with fail
      go_returns
      rw [← HPO.out]
      obtain ⟨r1, r2⟩ := HW.out
      refine ⟨rfl, { H with wp := lp, wc := lc, ws := restR i H.ws, ds := H.ds.set i { d with ss := if keep then overS i d.ss H.ws else d.ss } }, fun k => if k ∈ blk lp then .wts else φ k, rfl, ⟨by rw [HLN.out] at r1 ⊢; exact r1, rfl, fun k hk => ?_, ?_⟩⟩
      · show (if k ∈ blk lp then Rl.wts else φ k) = φ0 k
        rw [if_neg (fun hm => by have := HIN.out.n k hm; omega)]
        exact HOLD.out k hk
      · exact (HIN.out.f.trans (FrR.one r2 HH.out.rP) (fun _ _ => rfl)).conv HOLD.out
end Go.Proofs.Ytfclamndjnoopaa
