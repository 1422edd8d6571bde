/- The document's Of and Check. -/
import Derived.Test.YtcnochabdhdlnaaDoorSumAg
import Derived.Test.YtcnochabdhdlnaaDoorSumAe
namespace Go.Proofs.YtcnochabdhdlnaaDoor
open Go.RowKit
set_option maxRecDepth 100000

set_option maxHeartbeats 1600000 in
theorem refOf_fl (p : Option Addr) (n c : Nat) (zs : List Int) (w : World) (hn : zs.length = n) (hnb : n + 100 ≤ 140737488355328) (hrd : Rd w p zs) (hb : ∀ z ∈ zs, 0 ≤ z ∧ z < 256) :
    Calls Tryd.prog 11 #[.int .i64 1, .slice p n c] w fun e w' => e = .returned (.tuple #[.agg (fletch zs).arr, .int .i64 0]) ∧ Frm [] w w' := by
  have hfa : Frm [] w (w.alloc (.cells #[.int .u64 0, .int .u64 0, .int .u64 0, .int .u64 0] 25)) := (Frm.refl _ _).alloc _
  have HA := hid (heap_alloc_new w (.cells #[.int .u64 0, .int .u64 0, .int .u64 0, .int .u64 0] 25))
  have HSH := hid (refFl_any p n c zs (w.alloc (.cells #[.int .u64 0, .int .u64 0, .int .u64 0, .int .u64 0] 25)) hn (by omega) (hrd.kept hfa (by simp)) hb)
  have HFA := hid hfa
  clear hrd hb hn hfa
  go_enter Tryd.func11, Tryd.ntmps11
  go_wp2_with fail
  refine HSH.out.mono ?_
  rintro e w6 ⟨rfl, hf6⟩
  have hco := hf6.heap HA.out (by simp)
  obtain ⟨S, hS⟩ : ∃ S, fletch zs = S := ⟨_, rfl⟩
  rw [hS]
  have HS := hid hS
  unfold S4.arr
  obtain ⟨sb, hsb⟩ : ∃ sb, w.heap.size = sb := ⟨_, rfl⟩
  have HSB := hid hsb
  rw [hsb] at hco ⊢
  have e0 : w6.cell? ⟨sb, 0, none⟩ = some (.int .u64 0) := by rw [cell_of_row w6 _ _ _ _ _ hco]; rfl
  have z0 : w6.frozen? ⟨sb, 0, none⟩ = false := frozen_of_row w6 _ 0 _ _ hco
  have e1 : w6.cell? ⟨sb, 1, none⟩ = some (.int .u64 0) := by rw [cell_of_row w6 _ _ _ _ _ hco]; rfl
  have z1 : w6.frozen? ⟨sb, 1, none⟩ = false := frozen_of_row w6 _ 1 _ _ hco
  have e2 : w6.cell? ⟨sb, 2, none⟩ = some (.int .u64 0) := by rw [cell_of_row w6 _ _ _ _ _ hco]; rfl
  have z2 : w6.frozen? ⟨sb, 2, none⟩ = false := frozen_of_row w6 _ 2 _ _ hco
  have e3 : w6.cell? ⟨sb, 3, none⟩ = some (.int .u64 0) := by rw [cell_of_row w6 _ _ _ _ _ hco]; rfl
  have z3 : w6.frozen? ⟨sb, 3, none⟩ = false := frozen_of_row w6 _ 3 _ _ hco
  have HS4 := hid (set4 (y0 := .int .u64 S.a) (y1 := .int .u64 S.b) (y2 := .int .u64 S.c) (y3 := .int .u64 S.d) hco)
  have HF6 := hid (HFA.out.trans hf6 (by simp))
  clear hco hf6 hS hsb HSH HA
  go_wp2_with fail
  obtain ⟨h4, f4⟩ := HS4.out
  obtain ⟨wz, hwz⟩ : ∃ wz, (((w6.setCell ⟨sb, 0, none⟩ (.int .u64 S.a)).setCell ⟨sb, 1, none⟩ (.int .u64 S.b)).setCell ⟨sb, 2, none⟩ (.int .u64 S.c)).setCell ⟨sb, 3, none⟩ (.int .u64 S.d) = wz := ⟨_, rfl⟩
  rw [hwz] at h4 f4 ⊢
  have g0 : wz.cell? ⟨sb, 0, none⟩ = some (.int .u64 S.a) := by rw [cell_of_row wz _ _ _ _ _ h4]; rfl
  have g1 : wz.cell? ⟨sb, 1, none⟩ = some (.int .u64 S.b) := by rw [cell_of_row wz _ _ _ _ _ h4]; rfl
  have g2 : wz.cell? ⟨sb, 2, none⟩ = some (.int .u64 S.c) := by rw [cell_of_row wz _ _ _ _ _ h4]; rfl
  have g3 : wz.cell? ⟨sb, 3, none⟩ = some (.int .u64 S.d) := by rw [cell_of_row wz _ _ _ _ _ h4]; rfl
  refine bodyPost_ret (v := .tuple #[.agg #[.int .u64 S.a, .int .u64 S.b, .int .u64 S.c, .int .u64 S.d], .int .i64 0]) (by simp [results, Tryd.results11, go_sem, g0, g1, g2, g3]) rfl ⟨by rw [HS.out]; rfl, HF6.out.trans f4 (fun i hi hl => by simp at hi; have := HSB.out; omega)⟩
set_option maxHeartbeats 1600000 in
theorem refOf_sha (p : Option Addr) (n c : Nat) (zs : List Int) (w : World) (hn : zs.length = n) (hp : zs = [] → p = none → c = 0) (hnb : n + 100 ≤ 140737488355328) (hrd : Rd w p zs) (hb : ∀ z ∈ zs, 0 ≤ z ∧ z < 256) (hv : Vars w) :
    Calls Tryd.prog 11 #[.int .i64 2, .slice p n c] w fun e w' => e = .returned (.tuple #[.agg (shaD zs).arr, .int .i64 0]) ∧ Frm [] w w' := by
  have hfa : Frm [] w (w.alloc (.cells #[.int .u64 0, .int .u64 0, .int .u64 0, .int .u64 0] 25)) := (Frm.refl _ _).alloc _
  have HA := hid (heap_alloc_new w (.cells #[.int .u64 0, .int .u64 0, .int .u64 0, .int .u64 0] 25))
  have HSH := hid (refSha_any p n c zs (w.alloc (.cells #[.int .u64 0, .int .u64 0, .int .u64 0, .int .u64 0] 25)) hn hp hnb (hrd.kept hfa (by simp)) hb (hv.kept hfa))
  have HFA := hid hfa
  clear hrd hb hn hfa hp hv
  go_enter Tryd.func11, Tryd.ntmps11
  go_wp2_with fail
  refine HSH.out.mono ?_
  rintro e w6 ⟨rfl, hf6⟩
  have hco := hf6.heap HA.out (by simp)
  obtain ⟨S, hS⟩ : ∃ S, shaD zs = S := ⟨_, rfl⟩
  rw [hS]
  have HS := hid hS
  unfold S4.arr
  obtain ⟨sb, hsb⟩ : ∃ sb, w.heap.size = sb := ⟨_, rfl⟩
  have HSB := hid hsb
  rw [hsb] at hco ⊢
  have e0 : w6.cell? ⟨sb, 0, none⟩ = some (.int .u64 0) := by rw [cell_of_row w6 _ _ _ _ _ hco]; rfl
  have z0 : w6.frozen? ⟨sb, 0, none⟩ = false := frozen_of_row w6 _ 0 _ _ hco
  have e1 : w6.cell? ⟨sb, 1, none⟩ = some (.int .u64 0) := by rw [cell_of_row w6 _ _ _ _ _ hco]; rfl
  have z1 : w6.frozen? ⟨sb, 1, none⟩ = false := frozen_of_row w6 _ 1 _ _ hco
  have e2 : w6.cell? ⟨sb, 2, none⟩ = some (.int .u64 0) := by rw [cell_of_row w6 _ _ _ _ _ hco]; rfl
  have z2 : w6.frozen? ⟨sb, 2, none⟩ = false := frozen_of_row w6 _ 2 _ _ hco
  have e3 : w6.cell? ⟨sb, 3, none⟩ = some (.int .u64 0) := by rw [cell_of_row w6 _ _ _ _ _ hco]; rfl
  have z3 : w6.frozen? ⟨sb, 3, none⟩ = false := frozen_of_row w6 _ 3 _ _ hco
  have HS4 := hid (set4 (y0 := .int .u64 S.a) (y1 := .int .u64 S.b) (y2 := .int .u64 S.c) (y3 := .int .u64 S.d) hco)
  have HF6 := hid (HFA.out.trans hf6 (by simp))
  clear hco hf6 hS hsb HSH HA
  go_wp2_with fail
  obtain ⟨h4, f4⟩ := HS4.out
  obtain ⟨wz, hwz⟩ : ∃ wz, (((w6.setCell ⟨sb, 0, none⟩ (.int .u64 S.a)).setCell ⟨sb, 1, none⟩ (.int .u64 S.b)).setCell ⟨sb, 2, none⟩ (.int .u64 S.c)).setCell ⟨sb, 3, none⟩ (.int .u64 S.d) = wz := ⟨_, rfl⟩
  rw [hwz] at h4 f4 ⊢
  have g0 : wz.cell? ⟨sb, 0, none⟩ = some (.int .u64 S.a) := by rw [cell_of_row wz _ _ _ _ _ h4]; rfl
  have g1 : wz.cell? ⟨sb, 1, none⟩ = some (.int .u64 S.b) := by rw [cell_of_row wz _ _ _ _ _ h4]; rfl
  have g2 : wz.cell? ⟨sb, 2, none⟩ = some (.int .u64 S.c) := by rw [cell_of_row wz _ _ _ _ _ h4]; rfl
  have g3 : wz.cell? ⟨sb, 3, none⟩ = some (.int .u64 S.d) := by rw [cell_of_row wz _ _ _ _ _ h4]; rfl
  refine bodyPost_ret (v := .tuple #[.agg #[.int .u64 S.a, .int .u64 S.b, .int .u64 S.c, .int .u64 S.d], .int .i64 0]) (by simp [results, Tryd.results11, go_sem, g0, g1, g2, g3]) rfl ⟨by rw [HS.out]; rfl, HF6.out.trans f4 (fun i hi hl => by simp at hi; have := HSB.out; omega)⟩
set_option maxHeartbeats 1600000 in
theorem refOf_no (kind : Int) (p : Option Addr) (n c : Nat) (w : World) (h1 : kind ≠ 1) (h2 : kind ≠ 2) :
    Calls Tryd.prog 11 #[.int .i64 kind, .slice p n c] w fun e w' => e = .returned (.tuple #[.agg Z4.arr, .int .i64 20]) ∧ Frm [] w w' := by
  have HA := hid (heap_alloc_new w (.cells #[.int .u64 0, .int .u64 0, .int .u64 0, .int .u64 0] 25))
  have HFA : Hid (Frm [] w (w.alloc (.cells #[.int .u64 0, .int .u64 0, .int .u64 0, .int .u64 0] 25))) := hid ((Frm.refl _ _).alloc _)
  have b1 : (kind == 1) = false := by simpa using h1
  have b2 : (kind == 2) = false := by simpa using h2
  go_enter Tryd.func11, Tryd.ntmps11
  go_wp2_with fail
  go_returns
  exact ⟨rfl, HFA.out⟩
theorem refOf_any (kind : Int) (p : Option Addr) (n c : Nat) (zs : List Int) (w : World) (hn : zs.length = n) (hp : zs = [] → p = none → c = 0) (hnb : n + 100 ≤ 140737488355328) (hrd : Rd w p zs) (hb : ∀ z ∈ zs, 0 ≤ z ∧ z < 256) (hv : Vars w) :
    Calls Tryd.prog 11 #[.int .i64 kind, .slice p n c] w fun e w' => e = .returned (.tuple #[.agg (ofS kind zs).1.arr, .int .i64 (ofS kind zs).2]) ∧ Frm [] w w' := by
  unfold ofS
  by_cases h1 : kind = 1
  · subst h1
    simp only [if_true]
    exact refOf_fl p n c zs w hn hnb hrd hb
  by_cases h2 : kind = 2
  · subst h2
    simp only [if_true, if_neg h1]
    exact refOf_sha p n c zs w hn hp hnb hrd hb hv
  simp only [if_neg h1, if_neg h2]
  exact refOf_no kind p n c w h1 h2
set_option maxHeartbeats 1600000 in
theorem refCheck_any (kind : Int) (s : S4) (p : Option Addr) (n c : Nat) (zs : List Int) (w : World) (hn : zs.length = n) (hp : zs = [] → p = none → c = 0) (hnb : n + 100 ≤ 140737488355328) (hrd : Rd w p zs) (hb : ∀ z ∈ zs, 0 ≤ z ∧ z < 256) (hv : Vars w) :
    Calls Tryd.prog 13 #[.int .i64 kind, .agg s.arr, .slice p n c] w fun e w' => e = .returned (.bool (chkB kind s zs)) ∧ Frm [] w w' := by
  unfold S4.arr
  have hfa : Frm [] w (w.alloc (.cells #[.int .u64 s.a, .int .u64 s.b, .int .u64 s.c, .int .u64 s.d] 25)) := (Frm.refl _ _).alloc _
  have HA := hid (heap_alloc_new w (.cells #[.int .u64 s.a, .int .u64 s.b, .int .u64 s.c, .int .u64 s.d] 25))
  have HOF := hid (refOf_any kind p n c zs (w.alloc (.cells #[.int .u64 s.a, .int .u64 s.b, .int .u64 s.c, .int .u64 s.d] 25)) hn hp hnb (hrd.kept hfa (by simp)) hb (hv.kept hfa))
  have HFA := hid hfa
  clear hrd hb hn hfa hp hnb hv
  unfold chkB
  obtain ⟨X, hX⟩ : ∃ X, ofS kind zs = X := ⟨_, rfl⟩
  rw [hX] at HOF ⊢
  obtain ⟨S, E⟩ := X
  simp only at HOF ⊢
  unfold S4.arr at HOF
  clear hX
  go_enter Tryd.func13, Tryd.ntmps13
  go_wp2_with fail
  refine HOF.out.mono ?_
  rintro e w6 ⟨rfl, hf6⟩
  have hco := hf6.heap HA.out (by simp)
  obtain ⟨sb, hsb⟩ : ∃ sb, w.heap.size = sb := ⟨_, rfl⟩
  rw [hsb] at hco ⊢
  have hlt : sb < w6.heap.size := lt_of_heap hco
  have e0 : w6.cell? ⟨sb, 0, none⟩ = some (.int .u64 s.a) := by rw [cell_of_row w6 _ _ _ _ _ hco]; rfl
  have e1 : w6.cell? ⟨sb, 1, none⟩ = some (.int .u64 s.b) := by rw [cell_of_row w6 _ _ _ _ _ hco]; rfl
  have e2 : w6.cell? ⟨sb, 2, none⟩ = some (.int .u64 s.c) := by rw [cell_of_row w6 _ _ _ _ _ hco]; rfl
  have e3 : w6.cell? ⟨sb, 3, none⟩ = some (.int .u64 s.d) := by rw [cell_of_row w6 _ _ _ _ _ hco]; rfl
  have HF6 := hid (HFA.out.trans hf6 (by simp))
  clear hco hf6 hsb HOF HA
  by_cases hE : E = 0
  · subst hE
    go_wp2_with fail
    all_goals (go_returns; refine ⟨?_, HF6.out.alloc _⟩; (try simp_all [S4.eqB]); try grind [S4.eqB])
  · have hb1 : (E == 0) = false := by simpa using hE
    go_wp2_with fail
    all_goals (go_returns; refine ⟨?_, HF6.out.alloc _⟩; (try simp_all [S4.eqB]); try grind [S4.eqB])
end Go.Proofs.YtcnochabdhdlnaaDoor
