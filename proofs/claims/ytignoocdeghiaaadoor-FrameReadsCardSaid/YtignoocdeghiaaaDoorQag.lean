/- Laws of no program: slices of structs: a part of one, copy, clear, append where there is room, append of noughts. Contracts of package sum: turns to the right, words. -/
import Derived.Test.YtignoocdeghiaaaDoorQaf
import Derived.Lib.AppendZerosOnto
import Derived.Lib.Overlaps
import Derived.Laws.BitsAllLaws
import Derived.BigQuiet
namespace Go.Proofs.YtignoocdeghiaaaDoor
section
open Go.RowKit Go.Lib
set_option maxRecDepth 100000
section
variable {P : Program} {w : World}

/-- A part of a list that can be read. -/
theorem Rv.dropV {p : Option Addr} {ns : List Value} {k : Nat} (h : Rv w p ns) : Rv w (p.map (·.add k)) (ns.drop k) := by
  rcases h with rfl | ⟨g, o, rfl, hc⟩
  · exact Or.inl (by simp)
  · refine Or.inr ⟨g, o + k, by simp [Addr.add], fun i u hu => ?_⟩
    rw [List.getElem?_drop] at hu
    have := hc (k + i) u hu
    rwa [Nat.add_assoc]
theorem Rv.takeV {p : Option Addr} {ns : List Value} {k : Nat} (h : Rv w p ns) : Rv w p (ns.take k) := by
  rcases h with rfl | ⟨g, o, rfl, hc⟩
  · exact Or.inl (by simp)
  · refine Or.inr ⟨g, o, rfl, fun i u hu => hc i u ?_⟩
    rw [List.getElem?_take] at hu
    split at hu
    · exact hu
    · cases hu
section
variable {t e : TypeId} (ht : P.underlying t = some (.slice e)) {z : Value} {sz bytes : Nat} (hI : (P.info? e).map (fun i => (i.zero, i.size, i.bytes)) = some (some z, sz, bytes))
include ht hI
omit ht in
theorem sizeOf_sl (w : World) : (sizeOf e).run P w = .ok sz w := by
  obtain ⟨i, hi, hz, h1, h2⟩ := info_parts hI
  simp [sizeOf, typeInfo, hi, h1, Result.andThen]
/-- s[:hi] -/
theorem sl_h (p : Option Addr) (n c hi : Nat) (hc : hi ≤ c) (w : World) : (Instr.slice t (.slice p n c) none (some (.int .i64 (hi : Int))) none).run P w = .ok (.slice p hi c) w := by
  have he : P.elem t = e := by simp [Program.elem, ht]
  rw [run_slice_h w t _ _ _ (by rw [he]; exact ht) .i64 (hi : Int) (by omega) (by omega), he, sizeOf_sl hI]
  simp only [Result.andThen, sliced, Int.toNat_natCast]
  cases p <;> simp [Addr.add]
/-- s[:hi:m] -/
theorem sl_hm (p : Option Addr) (n c hi m : Nat) (h1 : hi ≤ m) (hc : m ≤ c) (w : World) : (Instr.slice t (.slice p n c) none (some (.int .i64 (hi : Int))) (some (.int .i64 (m : Int)))).run P w = .ok (.slice p hi m) w := by
  have he : P.elem t = e := by simp [Program.elem, ht]
  rw [run_slice_hm w t _ _ _ (by rw [he]; exact ht) .i64 .i64 (hi : Int) (m : Int) (by omega) (by omega) (by omega), he, sizeOf_sl hI]
  simp only [Result.andThen, sliced, Int.toNat_natCast]
  cases p <;> simp [Addr.add]
/-- Where a part begins. -/
def partAt (p : Option Addr) (c lo sz : Nat) : Option Addr := if c = lo then p else p.map (·.add (lo * sz))
/-- s[lo:] -/
theorem sl_l (p : Option Addr) (n c lo : Nat) (hl : lo ≤ n) (w : World) : (Instr.slice t (.slice p n c) (some (.int .i64 (lo : Int))) none none).run P w = .ok (.slice (partAt p c lo sz) (n - lo) (c - lo)) w := by
  have he : P.elem t = e := by simp [Program.elem, ht]
  rw [run_slice_l w t _ _ _ (by rw [he]; exact ht) .i64 (lo : Int) (by omega) (by omega), he, sizeOf_sl hI]
  simp only [Result.andThen, sliced, Int.toNat_natCast, partAt]
/-- s[lo:hi] -/
theorem sl_lh (p : Option Addr) (n c lo hi : Nat) (hl : lo ≤ hi) (hc : hi ≤ c) (w : World) : (Instr.slice t (.slice p n c) (some (.int .i64 (lo : Int))) (some (.int .i64 (hi : Int))) none).run P w = .ok (.slice (partAt p c lo sz) (hi - lo) (c - lo)) w := by
  have he : P.elem t = e := by simp [Program.elem, ht]
  rw [run_slice_lh w t _ _ _ (by rw [he]; exact ht) .i64 .i64 (lo : Int) (hi : Int) (by omega) (by omega) (by omega), he, sizeOf_sl hI]
  simp only [Result.andThen, sliced, Int.toNat_natCast, partAt]
/-- s[lo:hi:m] -/
theorem sl_lhm (p : Option Addr) (n c lo hi m : Nat) (hl : lo ≤ hi) (hm : hi ≤ m) (hc : m ≤ c) (w : World) : (Instr.slice t (.slice p n c) (some (.int .i64 (lo : Int))) (some (.int .i64 (hi : Int))) (some (.int .i64 (m : Int)))).run P w = .ok (.slice (partAt p m lo sz) (hi - lo) (m - lo)) w := by
  have he : P.elem t = e := by simp [Program.elem, ht]
  rw [run_slice_lhm w t _ _ _ (by rw [he]; exact ht) .i64 .i64 .i64 (lo : Int) (hi : Int) (m : Int) (by omega) (by omega) (by omega) (by omega), he, sizeOf_sl hI]
  simp only [Result.andThen, sliced, Int.toNat_natCast, partAt]
omit ht hI in
theorem partAt_rv (p : Option Addr) (c lo : Nat) (ns : List Value) (n : Nat) (hn : ns.length = n * sz) (hl : lo ≤ n) (hc : n ≤ c) (h : Rv w p ns) : Rv w (partAt p c lo sz) (ns.drop (lo * sz)) := by
  unfold partAt
  split
  · rw [List.drop_eq_nil_of_le (by rw [hn]; exact Nat.mul_le_mul_right _ (by omega))]
    exact Or.inl rfl
  · exact Rv.dropV h
/-- clear of a tail of a block. -/
theorem run_clearG (hzs : z.cells.size = sz) (hsz : 0 < sz) (hone : ∀ v ∈ z.cells.toList, v.oneCell' = true) (g k n c : Nat) (pp : Option Addr) (C : List Value) (B : TypeId) (hg : w.heap[g]? = some (.cells C.toArray B (0, 0))) (hpp : 0 < n → pp = some ⟨g, k * sz, none⟩) (hk : (k + n) * sz ≤ C.length) :
    ∃ w', (∀ ty, (Builtin.clear_ #[t] ty #[.slice pp n c]).run P w = .ok (.tuple #[]) w') ∧ (∃ C' : List Value, w'.heap[g]? = some (.cells C'.toArray B (0, 0)) ∧ C'.length = C.length ∧ C'.take (k * sz) = C.take (k * sz)) ∧ Frm [g] w w' := by
  rcases Nat.eq_zero_or_pos n with rfl | hn
  · refine ⟨w, fun ty => ?_, ⟨C, hg, rfl, rfl⟩, Frm.refl _ _⟩
    cases pp <;> simp [Builtin.clear_, run_underlying ht]
  · obtain rfl := hpp hn
    obtain ⟨i, hi, hz, h1, h2⟩ := info_parts hI
    obtain ⟨zs, hzs'⟩ : ∃ zs, (Builtin.zeroCells z.cells n).toList = zs := ⟨_, rfl⟩
    have hzl : zs.length = n * sz := by rw [← hzs', Array.length_toList, Builtin.zeroCells]; simp [hzs]
    have hone' : ∀ v ∈ zs, v.oneCell' = true := fun v hv => by
      refine hone v ?_
      rw [← hzs'] at hv
      simp only [Builtin.zeroCells, Array.toList_map, List.mem_map] at hv
      obtain ⟨j, hj, rfl⟩ := hv
      have hlt : j % z.cells.size < z.cells.size := Nat.mod_lt _ (by omega)
      rw [getElem!_pos z.cells _ hlt]
      simp
    rw [Nat.add_mul] at hk
    have hst := run_storeCells_at P g (k * sz) B zs 0 C.toArray w hg (by rw [hzl]; simp; omega) hone'
    simp only [Nat.add_zero] at hst
    obtain ⟨C', hC'⟩ : ∃ C', C.take (k * sz) ++ zs ++ C.drop (k * sz + zs.length) = C' := ⟨_, rfl⟩
    have hst' : (storeCells ⟨g, k * sz, none⟩ zs).run P w = .ok () (w.setRow g C'.toArray) := by rw [← hC']; exact hst
    clear hst
    refine ⟨w.setRow g C'.toArray, fun ty => ?_, ⟨C', setRow_heap w g _ _ _ _ hg, ?_, ?_⟩, ⟨rfl, rfl, rfl, by simp, fun j _ hj => setRow_other w g j _ (by simpa using hj)⟩⟩
    · obtain ⟨m, rfl⟩ : ∃ m, n = m + 1 := ⟨n - 1, by omega⟩
      have hzv : (zeroValue e).run P w = .ok z w := by simp [zeroValue, typeInfo, hi, hz, Result.andThen]
      simp [Builtin.clear_, run_underlying ht, hzv, hzs', hst']
    · rw [← hC']; simp [hzl]; omega
    · rw [← hC', List.append_assoc, List.take_append_of_le_length (by simp; omega), List.take_take]
      simp
/-- copy of structs into the midst of a block. -/
theorem run_copyG (ty : TypeId) (hsz : 0 < sz) (dp : Option Addr) (dn dc g off : Nat) (C : List Value) (B : TypeId) (hg : w.heap[g]? = some (.cells C.toArray B (0, 0))) (hdp : 0 < dn → dp = some ⟨g, off, none⟩) (hdn : off + dn * sz ≤ C.length)
    (p : Option Addr) (m c k : Nat) (ns : List Value) (hk : k = min m dn) (hnl : ns.length = k * sz) (hrd : Rv w p ns) (h1 : ∀ u ∈ ns, u.oneCell' = true) :
    ∃ w', (Builtin.copy_ #[t, t] ty #[.slice dp dn dc, .slice p m c]).run P w = .ok (.int .i64 (k : Int)) w' ∧ w'.heap[g]? = some (.cells (C.take off ++ ns ++ C.drop (off + k * sz)).toArray B (0, 0)) ∧ Frm [g] w w' := by
  obtain ⟨i, hi, hz, hs, h2⟩ := info_parts hI
  by_cases hk0 : k = 0
  · have hm0 : Nat.min m dn = 0 := by show min m dn = 0; omega
    have hl : ∀ (x : Addr), (loadCells x 0).run P w = .ok #[] w := fun x => by simpa using run_loadCells_list (P := P) w x [] (by simp)
    have hn0 : ns = [] := List.eq_nil_of_length_eq_zero (by rw [hnl, hk0, Nat.zero_mul])
    refine ⟨w, ?_, by rw [hk0, hn0]; simpa using hg, Frm.refl _ _⟩
    rw [hk0]
    cases dp <;> cases p <;> simp [Builtin.copy_, run_underlying ht, Builtin.lenOf, Builtin.firstCells, sizeOf, typeInfo, hi, hm0, storeCells, hl] <;> rfl
  · have hmn : k ≤ m ∧ k ≤ dn := by omega
    have hne : ns ≠ [] := by
      intro e0; rw [e0] at hnl
      have : 0 < k * sz := Nat.mul_pos (by omega) hsz
      simp at hnl; omega
    obtain ⟨g0, o0, rfl, hc0⟩ : ∃ g o, p = some ⟨g, o, none⟩ ∧ ∀ i u, ns[i]? = some u → w.cell? ⟨g, o + i, none⟩ = some u := by
      rcases hrd with h | h
      · exact absurd h hne
      · exact h
    obtain rfl := hdp (by omega)
    have hkd : k * sz ≤ dn * sz := Nat.mul_le_mul_right _ hmn.2
    have hf := run_firstCells_some (P := P) w sz k ⟨g0, o0, none⟩ m c ns hnl (fun j u hu => by
      rw [show (⟨g0, o0, none⟩ : Addr).add j = ⟨g0, o0 + j, none⟩ by cases j <;> simp [Addr.add]]; exact hc0 j u hu)
    have hst := run_storeCells_at P g off B ns 0 C.toArray w hg (by simp; omega) h1
    simp only [Nat.add_zero] at hst
    have hmin : Nat.min m dn = k := hk.symm
    refine ⟨w.setRow g (C.take off ++ ns ++ C.drop (off + ns.length)).toArray, ?_, ?_, ⟨rfl, rfl, rfl, by simp, fun j _ hj => setRow_other w g j _ (by simpa using hj)⟩⟩
    · simp [Builtin.copy_, run_underlying ht, Builtin.lenOf, sizeOf, typeInfo, hi, hs, hmin, hf]
      simp at hst
      simp [hst]
      rfl
    · rw [setRow_heap w g _ _ B _ hg, hnl]
end
end
end
section
open Go.RowKit
set_option maxRecDepth 100000

theorem rd_byte {w : World} {p : Option Addr} {zs : List Int} {i : Nat} (h : Rd w p zs) (hi : i < zs.length) : ∃ g o, p = some ⟨g, o, none⟩ ∧ w.cell? ⟨g, o + i, none⟩ = some (.int .u8 (zs.getD i 0)) := by
  rcases h with h | ⟨g, o, rfl, hc⟩
  · subst h; simp at hi
  · exact ⟨g, o, rfl, hc i hi⟩
/-- x turned to the right by k bits (k from 1 to 31). -/
def ror (x : Int) (k : Nat) : Int := bits .or .u32 (IntKind.u32.wrap (x * 2 ^ (32 - k))) (x / 2 ^ k)
theorem rotl_2 (x : Int) (w : World) :
    Calls Tryd.prog 97 #[.int .u32 x, .int .i64 (-2)] w fun e w' => e = .returned (.int .u32 (ror x 2)) ∧ w' = w := by
  have h1 : bits .and .u64 (IntKind.u64.wrap (-2)) 31 = 30 := by decide +kernel
  go_enter Tryd.func97, Tryd.ntmps97
  go_wp2_with fail
  go_returns
  exact ⟨rfl, rfl⟩
theorem right_2 (x : Int) (w : World) :
    Calls Tryd.prog 96 #[.int .u32 x, .int .i64 2] w fun e w' => e = .returned (.int .u32 (ror x 2)) ∧ w' = w := by
  go_enter Tryd.func96, Tryd.ntmps96
  go_wp2_with fail
  refine (rotl_2 x w).mono ?_
  rintro e w1 ⟨rfl, rfl⟩
  go_wp2_with fail
  go_returns
  exact ⟨rfl, rfl⟩
theorem rotl_6 (x : Int) (w : World) :
    Calls Tryd.prog 97 #[.int .u32 x, .int .i64 (-6)] w fun e w' => e = .returned (.int .u32 (ror x 6)) ∧ w' = w := by
  have h1 : bits .and .u64 (IntKind.u64.wrap (-6)) 31 = 26 := by decide +kernel
  go_enter Tryd.func97, Tryd.ntmps97
  go_wp2_with fail
  go_returns
  exact ⟨rfl, rfl⟩
theorem right_6 (x : Int) (w : World) :
    Calls Tryd.prog 96 #[.int .u32 x, .int .i64 6] w fun e w' => e = .returned (.int .u32 (ror x 6)) ∧ w' = w := by
  go_enter Tryd.func96, Tryd.ntmps96
  go_wp2_with fail
  refine (rotl_6 x w).mono ?_
  rintro e w1 ⟨rfl, rfl⟩
  go_wp2_with fail
  go_returns
  exact ⟨rfl, rfl⟩
theorem rotl_7 (x : Int) (w : World) :
    Calls Tryd.prog 97 #[.int .u32 x, .int .i64 (-7)] w fun e w' => e = .returned (.int .u32 (ror x 7)) ∧ w' = w := by
  have h1 : bits .and .u64 (IntKind.u64.wrap (-7)) 31 = 25 := by decide +kernel
  go_enter Tryd.func97, Tryd.ntmps97
  go_wp2_with fail
  go_returns
  exact ⟨rfl, rfl⟩
theorem right_7 (x : Int) (w : World) :
    Calls Tryd.prog 96 #[.int .u32 x, .int .i64 7] w fun e w' => e = .returned (.int .u32 (ror x 7)) ∧ w' = w := by
  go_enter Tryd.func96, Tryd.ntmps96
  go_wp2_with fail
  refine (rotl_7 x w).mono ?_
  rintro e w1 ⟨rfl, rfl⟩
  go_wp2_with fail
  go_returns
  exact ⟨rfl, rfl⟩
theorem rotl_11 (x : Int) (w : World) :
    Calls Tryd.prog 97 #[.int .u32 x, .int .i64 (-11)] w fun e w' => e = .returned (.int .u32 (ror x 11)) ∧ w' = w := by
  have h1 : bits .and .u64 (IntKind.u64.wrap (-11)) 31 = 21 := by decide +kernel
  go_enter Tryd.func97, Tryd.ntmps97
  go_wp2_with fail
  go_returns
  exact ⟨rfl, rfl⟩
theorem right_11 (x : Int) (w : World) :
    Calls Tryd.prog 96 #[.int .u32 x, .int .i64 11] w fun e w' => e = .returned (.int .u32 (ror x 11)) ∧ w' = w := by
  go_enter Tryd.func96, Tryd.ntmps96
  go_wp2_with fail
  refine (rotl_11 x w).mono ?_
  rintro e w1 ⟨rfl, rfl⟩
  go_wp2_with fail
  go_returns
  exact ⟨rfl, rfl⟩
theorem rotl_13 (x : Int) (w : World) :
    Calls Tryd.prog 97 #[.int .u32 x, .int .i64 (-13)] w fun e w' => e = .returned (.int .u32 (ror x 13)) ∧ w' = w := by
  have h1 : bits .and .u64 (IntKind.u64.wrap (-13)) 31 = 19 := by decide +kernel
  go_enter Tryd.func97, Tryd.ntmps97
  go_wp2_with fail
  go_returns
  exact ⟨rfl, rfl⟩
theorem right_13 (x : Int) (w : World) :
    Calls Tryd.prog 96 #[.int .u32 x, .int .i64 13] w fun e w' => e = .returned (.int .u32 (ror x 13)) ∧ w' = w := by
  go_enter Tryd.func96, Tryd.ntmps96
  go_wp2_with fail
  refine (rotl_13 x w).mono ?_
  rintro e w1 ⟨rfl, rfl⟩
  go_wp2_with fail
  go_returns
  exact ⟨rfl, rfl⟩
theorem rotl_17 (x : Int) (w : World) :
    Calls Tryd.prog 97 #[.int .u32 x, .int .i64 (-17)] w fun e w' => e = .returned (.int .u32 (ror x 17)) ∧ w' = w := by
  have h1 : bits .and .u64 (IntKind.u64.wrap (-17)) 31 = 15 := by decide +kernel
  go_enter Tryd.func97, Tryd.ntmps97
  go_wp2_with fail
  go_returns
  exact ⟨rfl, rfl⟩
theorem right_17 (x : Int) (w : World) :
    Calls Tryd.prog 96 #[.int .u32 x, .int .i64 17] w fun e w' => e = .returned (.int .u32 (ror x 17)) ∧ w' = w := by
  go_enter Tryd.func96, Tryd.ntmps96
  go_wp2_with fail
  refine (rotl_17 x w).mono ?_
  rintro e w1 ⟨rfl, rfl⟩
  go_wp2_with fail
  go_returns
  exact ⟨rfl, rfl⟩
theorem rotl_18 (x : Int) (w : World) :
    Calls Tryd.prog 97 #[.int .u32 x, .int .i64 (-18)] w fun e w' => e = .returned (.int .u32 (ror x 18)) ∧ w' = w := by
  have h1 : bits .and .u64 (IntKind.u64.wrap (-18)) 31 = 14 := by decide +kernel
  go_enter Tryd.func97, Tryd.ntmps97
  go_wp2_with fail
  go_returns
  exact ⟨rfl, rfl⟩
theorem right_18 (x : Int) (w : World) :
    Calls Tryd.prog 96 #[.int .u32 x, .int .i64 18] w fun e w' => e = .returned (.int .u32 (ror x 18)) ∧ w' = w := by
  go_enter Tryd.func96, Tryd.ntmps96
  go_wp2_with fail
  refine (rotl_18 x w).mono ?_
  rintro e w1 ⟨rfl, rfl⟩
  go_wp2_with fail
  go_returns
  exact ⟨rfl, rfl⟩
theorem rotl_19 (x : Int) (w : World) :
    Calls Tryd.prog 97 #[.int .u32 x, .int .i64 (-19)] w fun e w' => e = .returned (.int .u32 (ror x 19)) ∧ w' = w := by
  have h1 : bits .and .u64 (IntKind.u64.wrap (-19)) 31 = 13 := by decide +kernel
  go_enter Tryd.func97, Tryd.ntmps97
  go_wp2_with fail
  go_returns
  exact ⟨rfl, rfl⟩
theorem right_19 (x : Int) (w : World) :
    Calls Tryd.prog 96 #[.int .u32 x, .int .i64 19] w fun e w' => e = .returned (.int .u32 (ror x 19)) ∧ w' = w := by
  go_enter Tryd.func96, Tryd.ntmps96
  go_wp2_with fail
  refine (rotl_19 x w).mono ?_
  rintro e w1 ⟨rfl, rfl⟩
  go_wp2_with fail
  go_returns
  exact ⟨rfl, rfl⟩
theorem rotl_22 (x : Int) (w : World) :
    Calls Tryd.prog 97 #[.int .u32 x, .int .i64 (-22)] w fun e w' => e = .returned (.int .u32 (ror x 22)) ∧ w' = w := by
  have h1 : bits .and .u64 (IntKind.u64.wrap (-22)) 31 = 10 := by decide +kernel
  go_enter Tryd.func97, Tryd.ntmps97
  go_wp2_with fail
  go_returns
  exact ⟨rfl, rfl⟩
theorem right_22 (x : Int) (w : World) :
    Calls Tryd.prog 96 #[.int .u32 x, .int .i64 22] w fun e w' => e = .returned (.int .u32 (ror x 22)) ∧ w' = w := by
  go_enter Tryd.func96, Tryd.ntmps96
  go_wp2_with fail
  refine (rotl_22 x w).mono ?_
  rintro e w1 ⟨rfl, rfl⟩
  go_wp2_with fail
  go_returns
  exact ⟨rfl, rfl⟩
theorem rotl_25 (x : Int) (w : World) :
    Calls Tryd.prog 97 #[.int .u32 x, .int .i64 (-25)] w fun e w' => e = .returned (.int .u32 (ror x 25)) ∧ w' = w := by
  have h1 : bits .and .u64 (IntKind.u64.wrap (-25)) 31 = 7 := by decide +kernel
  go_enter Tryd.func97, Tryd.ntmps97
  go_wp2_with fail
  go_returns
  exact ⟨rfl, rfl⟩
theorem right_25 (x : Int) (w : World) :
    Calls Tryd.prog 96 #[.int .u32 x, .int .i64 25] w fun e w' => e = .returned (.int .u32 (ror x 25)) ∧ w' = w := by
  go_enter Tryd.func96, Tryd.ntmps96
  go_wp2_with fail
  refine (rotl_25 x w).mono ?_
  rintro e w1 ⟨rfl, rfl⟩
  go_wp2_with fail
  go_returns
  exact ⟨rfl, rfl⟩
/-- The turns of SHA-256. -/
def turnK (K : Int) : Bool := K == 2 || K == 6 || K == 7 || K == 11 || K == 13 || K == 17 || K == 18 || K == 19 || K == 22 || K == 25
def rorI (x K : Int) : Int := ror x K.toNat
theorem right_all (x K : Int) (hK : turnK K = true) (w : World) :
    Calls Tryd.prog 96 #[.int .u32 x, .int .i64 K] w fun e w' => e = .returned (.int .u32 (rorI x K)) ∧ w' = w := by
  simp only [turnK, Bool.or_eq_true, beq_iff_eq] at hK
  rcases hK with ((((((((rfl | rfl) | rfl) | rfl) | rfl) | rfl) | rfl) | rfl) | rfl) | rfl
  · exact right_2 x w
  · exact right_6 x w
  · exact right_7 x w
  · exact right_11 x w
  · exact right_13 x w
  · exact right_17 x w
  · exact right_18 x w
  · exact right_19 x w
  · exact right_22 x w
  · exact right_25 x w
/-- The word of four bytes, the lowest first. -/
def lowW (a b c d : Int) : Int := bits .or .u32 (bits .or .u32 (bits .or .u32 a (b * 256)) (c * 65536)) (d * 16777216)
theorem low_any (a b c d : Int) (w : World) (ha : 0 ≤ a ∧ a < 256) (hb : 0 ≤ b ∧ b < 256) (hc : 0 ≤ c ∧ c < 256) (hd : 0 ≤ d ∧ d < 256) :
    Calls Tryd.prog 93 #[.int .u8 a, .int .u8 b, .int .u8 c, .int .u8 d] w fun e w' => e = .returned (.int .u32 (lowW a b c d)) ∧ w' = w := by
  obtain ⟨a0, a1⟩ := ha
  obtain ⟨b0, b1⟩ := hb
  obtain ⟨c0, c1⟩ := hc
  obtain ⟨d0, d1⟩ := hd
  go_enter Tryd.func93, Tryd.ntmps93
  go_wp2_with fail
  go_returns
  exact ⟨rfl, rfl⟩
def pairW (h l : Int) : Int := bits .or .u64 (h * 4294967296) l
theorem pair_any (h l : Int) (w : World) (hh : 0 ≤ h ∧ h < 4294967296) (hl : 0 ≤ l ∧ l < 4294967296) :
    Calls Tryd.prog 95 #[.int .u32 h, .int .u32 l] w fun e w' => e = .returned (.int .u64 (pairW h l)) ∧ w' = w := by
  obtain ⟨a0, a1⟩ := hh
  obtain ⟨b0, b1⟩ := hl
  go_enter Tryd.func95, Tryd.ntmps95
  go_wp2_with fail
  go_returns
  exact ⟨rfl, rfl⟩
end
end Go.Proofs.YtignoocdeghiaaaDoor
