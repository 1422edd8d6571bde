/- The document's disks: Up. -/
import Derived.Test.YtfclamndjnoopaaRfE
namespace Go.Proofs.Ytfclamndjnoopaa
open Go.RowKit Go.Lib
set_option maxRecDepth 100000

/-- The writes that stay. -/
def keptR (stay : List Bool) (ws : List RWt) : List RWt := (ws.zipIdx.filter (fun x => stay.getD x.2 false)).map Prod.fst
theorem keptR_succ (stay : List Bool) {ws : List RWt} {j : Nat} {x : RWt} (h : ws[j]? = some x) : keptR stay (ws.take (j + 1)) = keptR stay (ws.take j) ++ (if stay.getD j false then [x] else []) := by
  obtain ⟨h1, _⟩ := List.getElem?_eq_some_iff.1 h
  have hl : (ws.take j).length = j := by rw [List.length_take]; omega
  rw [take_succ_r h]
  unfold keptR
  rw [List.zipIdx_append, List.filter_append, List.map_append, hl]
  congr 1
  simp only [List.zipIdx_cons, List.zipIdx_nil, Nat.zero_add, List.filter_cons, List.filter_nil]
  cases stay.getD j false <;> rfl
/-- All platters behind writes that stay. -/
def putR (ds : List RDk) (ws : List RWt) : List RDk := ws.foldl (fun ds x => ds.modify x.d (fun d => { d with ss := d.ss.set x.at_ x.s })) ds
theorem putR_app (ds : List RDk) (a b : List RWt) : putR ds (a ++ b) = putR (putR ds a) b := by simp [putR]
/-- Each disk's platter by itself. -/
theorem putR_get : ∀ (ws : List RWt) (ds : List RDk) (i : Nat), (putR ds ws)[i]? = (ds[i]?).map (fun d => { d with ss := overS i d.ss ws }) := by
  intro ws
  induction ws with
  | nil => intro ds i; cases h : ds[i]? <;> simp [putR, overS, h]
  | cons x ws ih =>
    intro ds i
    show (putR (ds.modify x.d _) ws)[i]? = _
    rw [ih, List.getElem?_modify]
    cases h : ds[i]? with
    | none => simp
    | some d =>
      by_cases e : x.d = i
      · simp [e, overS]
      · simp [e, overS]
structure InUp (w : World) (φ : Nat → Rl) (H : RHp) (stay : List Bool) (j : Nat) (w' : World) : Prop where
  r : IsRf w' φ { H with ds := putR H.ds (keptR stay (H.ws.take j)) }
  f : FrR φ w w'
theorem putR_length (ds : List RDk) (ws : List RWt) : (putR ds ws).length = ds.length := by
  induction ws generalizing ds with
  | nil => rfl
  | cons x ws ih => show (putR (ds.modify x.d _) ws).length = _; rw [ih, List.length_modify]
set_option maxHeartbeats 6400000 in
theorem refUp_any (φ : Nat → Rl) (H : RHp) (p : Option Addr) (stay : List Bool) (cc : Nat) (w : World) (h : IsRf w φ H) (hst : Rv w p (stay.map Value.bool)) (hap : stay ≠ [] → ∀ k ∈ blk p, ∃ n, φ k = .oth n) (hlen : stay.length ≤ 140737488355328) :
    Calls Try.prog 26 #[.pointer (some ⟨H.rb, 0, none⟩), .slice p stay.length cc] w fun e w' => e = .returned (.tuple #[]) ∧ IsRf w' φ { H with wp := none, wc := 0, ws := [], left := -1, off := false, ds := putR H.ds (keptR stay H.ws) } ∧ FrR φ w w' := by
  have HH := hid h
  have HST := hid hst
  have HAP := hid hap
  obtain ⟨m, hm⟩ : ∃ m, H.ws.length = m := ⟨_, rfl⟩
  have HM := hid hm
  have hm2 : m ≤ 500000000000 := by have := h.wb; omega
  have hdl := h.dl
  obtain ⟨PO, hPO⟩ : ∃ PO : Ending → World → Prop, (fun e w' => e = .returned (.tuple #[]) ∧ IsRf w' φ { H with wp := none, wc := 0, ws := [], left := -1, off := false, ds := putR H.ds (keptR stay H.ws) } ∧ FrR φ w w') = PO := ⟨_, rfl⟩
  rw [hPO]
  have HPO := hid hPO
  have HI0 : Hid (InUp w φ H stay 0 w) := hid ⟨by simpa [keptR, putR] using h, FrR.refl _ _⟩
  clear h hst hap hm hPO
  go_enter Try.func26, Try.ntmps26
  go_wp2_with fail
  go_loopw [4, 5] (fun t s5 wr => ∃ j : Nat, j ≤ m ∧ t = .int .i64 (j : Int) ∧ Hid (InUp w φ H stay j wr)) (fun t _ _ => m - (intOf t).toNat)
  case atStart => exact ⟨0, by omega, rfl, HI0⟩
  case round =>
    clear HI0
    obtain ⟨j, hj, rfl, hin⟩ := hrel
    obtain ⟨c0, c1, _, _, _⟩ := hin.out.r.cells
    simp only [putR_length, HM.out] at c0 c1
    by_cases hlt : j < m
    · have t1 : (j : Int) < (m : Int) := by omega
      obtain ⟨x, hx⟩ : ∃ x, H.ws[j]? = some x := ⟨_, List.getElem?_eq_getElem (by rw [HM.out]; exact hlt)⟩
      obtain ⟨gw, hgw, x0, x1, x2, _⟩ := hin.out.r.wait hx
      rw [hgw] at c1
      unfold SecR.v at x2
      have HX := hid hx
      clear hgw
      by_cases hs : stay.getD j false = true
      · have hjs : j < stay.length := by
          rcases Nat.lt_or_ge j stay.length with h | h
          · exact h
          · simp [List.getD, List.getElem?_eq_none h] at hs
        obtain ⟨g, o, rfl, hc⟩ : ∃ g o, p = some ⟨g, o, none⟩ ∧ wr.cell? ⟨g, o + j, none⟩ = some (.bool true) := by
          rcases HST.out with e | ⟨g, o, rfl, hc⟩
          · simp at e; subst e; simp at hjs
          · refine ⟨g, o, rfl, ?_⟩
            obtain ⟨n, hn⟩ := HAP.out (by intro e; subst e; simp at hjs) g (by simp [blk])
            have hcj := hc j (.bool true) (by
              rw [List.getElem?_map, List.getElem?_eq_getElem hjs]
              simp [List.getD, List.getElem?_eq_getElem hjs] at hs
              simp [hs])
            rw [World.cell?_of_block (hin.out.f.block g (World.block_lt_of_cell? w _ hcj) (by rw [hn]; exact fun h => h))]
            exact hcj
        have t2 : (j : Int) < (stay.length : Int) := by omega
        obtain ⟨d, hd, hat⟩ := HH.out.wd x (List.mem_of_getElem? hx)
        obtain ⟨D, hD⟩ : ∃ D : RDk, D = { d with ss := overS x.d d.ss (keptR stay (H.ws.take j)) } := ⟨_, rfl⟩
        have hgi : (putR H.ds (keptR stay (H.ws.take j)))[x.d]? = some D := by rw [putR_get, hd, hD]; rfl
        have hDl : D.ss.length = d.ss.length := by rw [hD]; exact overS_length _ _ _
        obtain ⟨so, hso⟩ : ∃ so, D.ss[x.at_]? = some so := ⟨_, List.getElem?_eq_getElem (by rw [hDl]; exact hat)⟩
        have hfa : Frm [] wr (wr.alloc (.cells #[.int .i64 (x.d : Int), .int .i64 (x.at_ : Int), .slice (some ⟨x.s.g, 0, none⟩) 128 x.s.c] 86)) := (Frm.refl _ _).alloc _
        have hin2 := hin.out.r.new hfa
        obtain ⟨gd, hgd, g0, g1, _⟩ := hin2.at hgi
        obtain ⟨gp, hgp, p0, pz⟩ := hin2.sec hgi hso
        have hgd' : H.dp = some ⟨gd, 0, none⟩ := hgd
        rw [hgd'] at c0
        rw [hgp, hDl] at g1
        have c0' := (hfa.cell (p := ⟨H.rb, 0, none⟩) (World.block_lt_of_cell? wr _ c0) (by simp)).trans c0
        have tA : (x.at_ : Int) < (d.ss.length : Int) := by omega
        have hn8 := HH.out.nb x.d d hd
        have tD : (x.d : Int) < (H.ds.length : Int) := by have := (List.getElem?_eq_some_iff.1 hd).1; omega
        obtain ⟨L, hL⟩ : ∃ L, d.ss.length = L := ⟨_, rfl⟩
        rw [hL] at g1 tA hn8
        obtain ⟨wa, hwa⟩ : ∃ W, wr.alloc (.cells #[.int .i64 (x.d : Int), .int .i64 (x.at_ : Int), .slice (some ⟨x.s.g, 0, none⟩) 128 x.s.c] 86) = W := ⟨_, rfl⟩
        have hgn := heap_alloc_new wr (.cells #[.int .i64 (x.d : Int), .int .i64 (x.at_ : Int), .slice (some ⟨x.s.g, 0, none⟩) 128 x.s.c] 86)
        rw [hwa] at hgn g0 g1 p0 pz c0' hfa hin2
        have n0 : wa.cell? ⟨wr.heap.size, 0, none⟩ = some (.int .i64 (x.d : Int)) := by rw [cell_of_row _ _ _ _ _ _ hgn]; rfl
        have n1 : wa.cell? ⟨wr.heap.size, 1, none⟩ = some (.int .i64 (x.at_ : Int)) := by rw [cell_of_row _ _ _ _ _ _ hgn]; rfl
        have n2 : wa.cell? ⟨wr.heap.size, 2, none⟩ = some (.slice (some ⟨x.s.g, 0, none⟩) 128 x.s.c) := by rw [cell_of_row _ _ _ _ _ _ hgn]; rfl
        have HIN : Hid (InUp w φ H stay (j + 1) (wa.drew.setCell ⟨gp, x.at_, none⟩ (.slice (some ⟨x.s.g, 0, none⟩) 128 x.s.c))) := hid (by
          have hfd : Frm [] wr wa.drew := hfa.drew
          have hr := hin.out.r.new hfd
          obtain ⟨r1, r2, r3⟩ := hr.setSec (k := x.at_) hgi hgp ((hin.out.r.secW x (List.mem_of_getElem? hx)).far hfd (by simp))
          refine ⟨?_, (hin.out.f.trans (FrR.of hfd (by simp)) (fun _ _ => rfl)).trans (FrR.of r2 (fun k hk _ => by simp at hk; subst hk; rw [r3]; trivial)) (fun _ _ => rfl)⟩
          have e : putR H.ds (keptR stay (H.ws.take (j + 1))) = (putR H.ds (keptR stay (H.ws.take j))).set x.d { D with ss := D.ss.set x.at_ x.s } := by
            rw [keptR_succ stay hx, hs, if_pos rfl, putR_app]
            show (putR H.ds (keptR stay (H.ws.take j))).modify x.d _ = _
            apply List.ext_getElem?
            intro k
            rw [List.getElem?_modify, List.getElem?_set]
            by_cases ek : x.d = k
            · subst ek
              rw [if_pos rfl, if_pos (List.getElem?_eq_some_iff.1 hgi).1, hgi]
              simp
            · simp [ek]
          rw [e]
          exact r1)
        clear hx hs hjs hd hat hD hgi hDl hso hfa hin2 hgd hgp hgd' hL hgn hin
        go_wp2_with fail
        go_still_tail 16, (by kernel_rfl)
        change wpList _ _ _ _ _ wa.drew
        have q0 : wa.drew.cell? ⟨gp, x.at_, none⟩ = some so.v := p0
        have qz : wa.drew.frozen? ⟨gp, x.at_, none⟩ = false := pz
        obtain ⟨wb, hwb⟩ : ∃ W, wa.drew = W := ⟨_, rfl⟩
        rw [hwb] at q0 qz HIN ⊢
        clear hwb n0 n1 n2 c0' c0 g0 g1 p0 pz hwa
        go_wp2_with fail
        go_roundw
        case rel => exact ⟨j + 1, by omega, by go_num, HIN⟩
        case measure => first | (simp [intOf]; done) | (simp [intOf]; omega)
      · have HIN : Hid (InUp w φ H stay (j + 1) wr) := hid ⟨by rw [keptR_succ stay hx, if_neg hs, List.append_nil]; exact hin.out.r, hin.out.f⟩
        by_cases hjs : j < stay.length
        · obtain ⟨g, o, rfl, hc⟩ : ∃ g o, p = some ⟨g, o, none⟩ ∧ wr.cell? ⟨g, o + j, none⟩ = some (.bool false) := by
            rcases HST.out with e | ⟨g, o, rfl, hc⟩
            · simp at e; subst e; simp at hjs
            · refine ⟨g, o, rfl, ?_⟩
              obtain ⟨n, hn⟩ := HAP.out (by intro e; subst e; simp at hjs) g (by simp [blk])
              have hcj := hc j (.bool false) (by
                rw [List.getElem?_map, List.getElem?_eq_getElem hjs]
                simp [List.getD, List.getElem?_eq_getElem hjs] at hs
                simp [hs])
              rw [World.cell?_of_block (hin.out.f.block g (World.block_lt_of_cell? w _ hcj) (by rw [hn]; exact fun h => h))]
              exact hcj
          have t2 : (j : Int) < (stay.length : Int) := by omega
          clear hs hx hin
          go_wp2_with fail
          go_roundw
          case rel => exact ⟨j + 1, by omega, by go_num, HIN⟩
          case measure => first | (simp [intOf]; done) | (simp [intOf]; omega)
        · have t2 : ¬ (j : Int) < (stay.length : Int) := by omega
          clear hs hx hin
          go_wp2_with fail
          go_roundw
          case rel => exact ⟨j + 1, by omega, by go_num, HIN⟩
          case measure => first | (simp [intOf]; done) | (simp [intOf]; omega)
    · obtain rfl : j = m := by omega
      have htj : H.ws.take j = H.ws := List.take_of_length_le (by rw [HM.out]; omega)
      have z1 := hin.out.r.froz 1
      have z2 := hin.out.r.froz 2
      have z3 := hin.out.r.froz 3
      obtain ⟨_, _, c2, c3, _⟩ := hin.out.r.cells
      have hr := hin.out.r
      rw [htj] at hr
      have HR := hid hr
      have HF := hid hin.out.f
      clear htj hin hr
      go_wp2_with fail
      go_returns
      rw [← HPO.out]
      have hr := HR.out
      obtain ⟨r1, r2⟩ := hr.setWs (lp := none) (lc := 0) (ws := []) ⟨rfl, Or.inl ⟨rfl, rfl⟩⟩ (by simp [blk]) (by simp) (by have := HH.out.wb; show H.written + ((0 : Nat) : Int) ≤ 500000000000; omega)
      have e : (fun k => if k ∈ blk none then Rl.wts else φ k) = φ := by funext k; simp [blk]
      rw [e] at r1
      obtain ⟨s1, s2⟩ := sets_row H.rb 79 [(2, .int .i64 (-1)), (3, .bool false)] _ _ r1.row
      have r3 := r1.setPow (-1) false H.written (by omega) (by have := HH.out.wb; show 0 ≤ H.written ∧ H.written + ((0 : Nat) : Int) ≤ 500000000000; omega) (s1.trans rfl) s2
      exact ⟨rfl, r3, (HF.out.trans (FrR.one r2 hr.rP) (fun _ _ => rfl)).trans (FrR.one s2 r1.rP) (fun _ _ => rfl)⟩
end Go.Proofs.Ytfclamndjnoopaa
