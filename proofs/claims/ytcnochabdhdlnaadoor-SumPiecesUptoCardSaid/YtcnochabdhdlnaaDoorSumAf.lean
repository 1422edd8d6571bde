/- Contracts of package sum: Of and Check of any kind. -/
import Derived.Test.YtcnochabdhdlnaaDoorSumH
import Derived.Test.YtcnochabdhdlnaaDoorSumAd
namespace Go.Proofs.YtcnochabdhdlnaaDoor
open Go.RowKit
set_option maxRecDepth 100000

set_option maxHeartbeats 1600000 in
theorem of_sha2 (p : Option Addr) (n c : Nat) (zs : List Int) (w : World) (hn : zs.length = n) (hnc : n ≤ c) (hnb : n ≤ 9223372036854775807) (hrd : Rd w p zs) (hb : ∀ z ∈ zs, 0 ≤ z ∧ z < 256) (hpr : Primes w) :
    Calls Tryd.prog 10 #[.int .i64 2, .slice p n c] w fun e w' => e = .returned (.tuple #[.agg (shaD zs).arr, .int .i64 0]) ∧ Frm [] w w' := by
  have hfa : Frm [] w (w.alloc (.cells #[.int .u64 0, .int .u64 0, .int .u64 0, .int .u64 0] 25)) := (Frm.refl _ _).alloc _
  have HA := hid (heap_alloc_new w (.cells #[.int .u64 0, .int .u64 0, .int .u64 0, .int .u64 0] 25))
  have HSH := hid (sha_any p n c zs (w.alloc (.cells #[.int .u64 0, .int .u64 0, .int .u64 0, .int .u64 0] 25)) hn hnc hnb (hrd.kept hfa (by simp)) hb (hpr.kept hfa))
  have HFA := hid hfa
  rw [sha_same] at HSH
  clear hrd hb hn hpr hfa hnc hnb
  go_enter Tryd.func10, Tryd.ntmps10
  go_wp2_with fail
  refine HSH.out.mono ?_
  rintro e w6 ⟨rfl, hf6⟩
  have hco := hf6.heap HA.out (by simp)
  obtain ⟨S, hS⟩ : ∃ S, shaD zs = S := ⟨_, rfl⟩
  rw [hS]
  have HS := hid hS
  unfold S4.arr
  obtain ⟨sb, hsb⟩ : ∃ sb, w.heap.size = sb := ⟨_, rfl⟩
  have HSB := hid hsb
  rw [hsb] at hco ⊢
  have e0 : w6.cell? ⟨sb, 0, none⟩ = some (.int .u64 0) := by rw [cell_of_row w6 _ _ _ _ _ hco]; rfl
  have z0 : w6.frozen? ⟨sb, 0, none⟩ = false := frozen_of_row w6 _ 0 _ _ hco
  have e1 : w6.cell? ⟨sb, 1, none⟩ = some (.int .u64 0) := by rw [cell_of_row w6 _ _ _ _ _ hco]; rfl
  have z1 : w6.frozen? ⟨sb, 1, none⟩ = false := frozen_of_row w6 _ 1 _ _ hco
  have e2 : w6.cell? ⟨sb, 2, none⟩ = some (.int .u64 0) := by rw [cell_of_row w6 _ _ _ _ _ hco]; rfl
  have z2 : w6.frozen? ⟨sb, 2, none⟩ = false := frozen_of_row w6 _ 2 _ _ hco
  have e3 : w6.cell? ⟨sb, 3, none⟩ = some (.int .u64 0) := by rw [cell_of_row w6 _ _ _ _ _ hco]; rfl
  have z3 : w6.frozen? ⟨sb, 3, none⟩ = false := frozen_of_row w6 _ 3 _ _ hco
  have HS4 := hid (set4 (y0 := .int .u64 S.a) (y1 := .int .u64 S.b) (y2 := .int .u64 S.c) (y3 := .int .u64 S.d) hco)
  have HF6 := hid (HFA.out.trans hf6 (by simp))
  clear hco hf6 hS hsb HSH HA
  go_wp2_with fail
  obtain ⟨h4, f4⟩ := HS4.out
  obtain ⟨wz, hwz⟩ : ∃ wz, (((w6.setCell ⟨sb, 0, none⟩ (.int .u64 S.a)).setCell ⟨sb, 1, none⟩ (.int .u64 S.b)).setCell ⟨sb, 2, none⟩ (.int .u64 S.c)).setCell ⟨sb, 3, none⟩ (.int .u64 S.d) = wz := ⟨_, rfl⟩
  rw [hwz] at h4 f4 ⊢
  have g0 : wz.cell? ⟨sb, 0, none⟩ = some (.int .u64 S.a) := by rw [cell_of_row wz _ _ _ _ _ h4]; rfl
  have g1 : wz.cell? ⟨sb, 1, none⟩ = some (.int .u64 S.b) := by rw [cell_of_row wz _ _ _ _ _ h4]; rfl
  have g2 : wz.cell? ⟨sb, 2, none⟩ = some (.int .u64 S.c) := by rw [cell_of_row wz _ _ _ _ _ h4]; rfl
  have g3 : wz.cell? ⟨sb, 3, none⟩ = some (.int .u64 S.d) := by rw [cell_of_row wz _ _ _ _ _ h4]; rfl
  refine bodyPost_ret (v := .tuple #[.agg #[.int .u64 S.a, .int .u64 S.b, .int .u64 S.c, .int .u64 S.d], .int .i64 0]) (by simp [results, Tryd.results10, go_sem, g0, g1, g2, g3]) rfl ⟨by rw [HS.out]; rfl, HF6.out.trans f4 (fun i hi hl => by simp at hi; have := HSB.out; omega)⟩
set_option maxHeartbeats 1600000 in
theorem of_no (kind : Int) (p : Option Addr) (n c : Nat) (w : World) (h1 : kind ≠ 1) (h2 : kind ≠ 2) :
    Calls Tryd.prog 10 #[.int .i64 kind, .slice p n c] w fun e w' => e = .returned (.tuple #[.agg Z4.arr, .int .i64 20]) ∧ Frm [] w w' := by
  have HA := hid (heap_alloc_new w (.cells #[.int .u64 0, .int .u64 0, .int .u64 0, .int .u64 0] 25))
  have HFA : Hid (Frm [] w (w.alloc (.cells #[.int .u64 0, .int .u64 0, .int .u64 0, .int .u64 0] 25))) := hid ((Frm.refl _ _).alloc _)
  have b1 : (kind == 1) = false := by simpa using h1
  have b2 : (kind == 2) = false := by simpa using h2
  go_enter Tryd.func10, Tryd.ntmps10
  go_wp2_with fail
  go_returns
  exact ⟨rfl, HFA.out⟩
/-- What Of answers. -/
def ofS (kind : Int) (zs : List Int) : S4 × Int := if kind = 1 then (fletch zs, 0) else if kind = 2 then (shaD zs, 0) else (Z4, 20)
theorem of_any (kind : Int) (p : Option Addr) (n c : Nat) (zs : List Int) (w : World) (hn : zs.length = n) (hnc : n ≤ c) (hnb : n ≤ 9223372036854775807) (hrd : Rd w p zs) (hb : ∀ z ∈ zs, 0 ≤ z ∧ z < 256) (hpr : Primes w) :
    Calls Tryd.prog 10 #[.int .i64 kind, .slice p n c] w fun e w' => e = .returned (.tuple #[.agg (ofS kind zs).1.arr, .int .i64 (ofS kind zs).2]) ∧ Frm [] w w' := by
  unfold ofS
  by_cases h1 : kind = 1
  · subst h1
    simp only [if_true]
    exact of_fl p n c zs w hn hnc hnb hrd hb
  by_cases h2 : kind = 2
  · subst h2
    simp only [if_true, if_neg h1]
    exact of_sha2 p n c zs w hn hnc hnb hrd hb hpr
  simp only [if_neg h1, if_neg h2]
  exact of_no kind p n c w h1 h2
def chkB (kind : Int) (s : S4) (zs : List Int) : Bool := decide ((ofS kind zs).2 = 0) && (ofS kind zs).1.eqB s
set_option maxHeartbeats 1600000 in
theorem check_any (kind : Int) (s : S4) (p : Option Addr) (n c : Nat) (zs : List Int) (w : World) (hn : zs.length = n) (hnc : n ≤ c) (hnb : n ≤ 9223372036854775807) (hrd : Rd w p zs) (hb : ∀ z ∈ zs, 0 ≤ z ∧ z < 256) (hpr : Primes w) :
    Calls Tryd.prog 14 #[.int .i64 kind, .agg s.arr, .slice p n c] w fun e w' => e = .returned (.bool (chkB kind s zs)) ∧ Frm [] w w' := by
  unfold S4.arr
  have hfa : Frm [] w (w.alloc (.cells #[.int .u64 s.a, .int .u64 s.b, .int .u64 s.c, .int .u64 s.d] 25)) := (Frm.refl _ _).alloc _
  have HA := hid (heap_alloc_new w (.cells #[.int .u64 s.a, .int .u64 s.b, .int .u64 s.c, .int .u64 s.d] 25))
  have HOF := hid (of_any kind p n c zs (w.alloc (.cells #[.int .u64 s.a, .int .u64 s.b, .int .u64 s.c, .int .u64 s.d] 25)) hn hnc hnb (hrd.kept hfa (by simp)) hb (hpr.kept hfa))
  have HFA := hid hfa
  clear hrd hb hn hfa hnc hnb hpr
  unfold chkB
  obtain ⟨X, hX⟩ : ∃ X, ofS kind zs = X := ⟨_, rfl⟩
  rw [hX] at HOF ⊢
  obtain ⟨S, E⟩ := X
  simp only at HOF ⊢
  unfold S4.arr at HOF
  clear hX
  go_enter Tryd.func14, Tryd.ntmps14
  go_wp2_with fail
  refine HOF.out.mono ?_
  rintro e w6 ⟨rfl, hf6⟩
  have hco := hf6.heap HA.out (by simp)
  obtain ⟨sb, hsb⟩ : ∃ sb, w.heap.size = sb := ⟨_, rfl⟩
  rw [hsb] at hco ⊢
  have hlt : sb < w6.heap.size := lt_of_heap hco
  have e0 : w6.cell? ⟨sb, 0, none⟩ = some (.int .u64 s.a) := by rw [cell_of_row w6 _ _ _ _ _ hco]; rfl
  have e1 : w6.cell? ⟨sb, 1, none⟩ = some (.int .u64 s.b) := by rw [cell_of_row w6 _ _ _ _ _ hco]; rfl
  have e2 : w6.cell? ⟨sb, 2, none⟩ = some (.int .u64 s.c) := by rw [cell_of_row w6 _ _ _ _ _ hco]; rfl
  have e3 : w6.cell? ⟨sb, 3, none⟩ = some (.int .u64 s.d) := by rw [cell_of_row w6 _ _ _ _ _ hco]; rfl
  have HF6 := hid (HFA.out.trans hf6 (by simp))
  clear hco hf6 hsb HOF HA
  by_cases hE : E = 0
  · subst hE
    go_wp2_with fail
    all_goals (go_returns; refine ⟨?_, HF6.out.alloc _⟩; simp_all [S4.eqB])
  · have hb1 : (E == 0) = false := by simpa using hE
    go_wp2_with fail
    all_goals (go_returns; refine ⟨?_, HF6.out.alloc _⟩; simp_all [S4.eqB])
end Go.Proofs.YtcnochabdhdlnaaDoor
