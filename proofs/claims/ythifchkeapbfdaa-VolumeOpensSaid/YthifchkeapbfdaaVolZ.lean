/- The statements' helper that spoils cells. -/
import Derived.Test.YthifchkeapbfdaaVolW
import Derived.Test.YthifchkeapbfdaaVolU
namespace Go.Proofs.Ythifchkeapbfdaa
open Go.RowKit
set_option maxRecDepth 100000

/-- The data of cells are rows of one's own, whatever they say. -/
def OwnE (w : World) (xs : List CellV) : Prop := ∀ x ∈ xs, ∃ zs : List Int, zs.length = x.zs.length ∧ Own w 5 (.slice x.p x.zs.length x.c) zs
theorem OwnC.some {w : World} {xs : List CellV} (h : OwnC w xs) : OwnE w xs := fun x hx => ⟨x.zs, rfl, h x hx⟩
theorem OwnE.poke {w : World} {xs : List CellV} (h : OwnE w xs) (g k : Nat) (z : Int) : OwnE (w.setCell ⟨g, k, none⟩ (.int .u8 z)) xs := by
  intro x hx
  obtain ⟨zs, hl, ho⟩ := h x hx
  by_cases hg : x.p = some ⟨g, 0, none⟩
  · rw [hg, ← hl] at ho ⊢
    have h1 := (World.ownsRow.stored ho k (.int .u8 z)).1
    refine ⟨zs.set k z, by rw [List.length_set], ?_⟩
    unfold Own
    rw [List.length_set]
    simpa [bv, List.map_set] using h1
  · refine ⟨zs, hl, ho.kept ((Frm.refl [g] w).setCell _ _ (by simp)) (fun j hj hj2 => ?_)⟩
    simp at hj2
    subst hj2
    obtain ⟨p', c', he, _, _, hh, _⟩ := ho.shape
    simp only [Value.slice.injEq] at he
    obtain ⟨rfl, _, rfl⟩ := he
    rw [own_blk] at hj
    cases hp : x.p with
    | none => rw [hp] at hj; simp [blk] at hj
    | some a =>
      rw [hp] at hj
      simp [blk] at hj
      obtain ⟨h1, h2, _⟩ := hh a hp
      obtain ⟨ab, ao, as_⟩ := a
      simp only at h1 h2 hj
      subst h1 h2 hj
      exact hg hp
theorem OwnE.kept {S : List Nat} {w w' : World} {xs : List CellV} (h : OwnE w xs) (hf : Frm S w w') (hS : ∀ x ∈ xs, ∀ k ∈ blk x.p, k ∉ S) : OwnE w' xs := fun x hx => by
  obtain ⟨zs, hl, ho⟩ := h x hx
  exact ⟨zs, hl, ho.kept hf (by rw [own_blk]; exact hS x hx)⟩
/-- Rows of cells of which the first ones are struck out. -/
def spRows (xs : List CellV) (t : Nat) : List Value := (List.replicate t [Value.int .i64 (-1), .int .i64 0, .int .i64 0, .slice none 0 0]).flatten ++ cellRows (xs.drop t)
theorem spRows_length (xs : List CellV) (t : Nat) (h : t ≤ xs.length) : (spRows xs t).length = xs.length * 4 := by
  unfold spRows
  rw [List.length_append, cellRows_length, List.length_drop]
  simp
  omega
theorem spRows_at (xs : List CellV) (t : Nat) (h : t < xs.length) (j : Nat) (hj : j < 4) : (spRows xs t)[t * 4 + j]? = (cellRow xs[t])[j]? := by
  unfold spRows
  have hl : ((List.replicate t [Value.int .i64 (-1), .int .i64 0, .int .i64 0, .slice none 0 0]).flatten).length = t * 4 := by simp
  rw [List.getElem?_append_right (by omega), hl, Nat.add_sub_cancel_left]
  have h0 := cellRows_at (xs.drop t) 0 (by simp; omega) j hj
  simpa using h0
theorem spRows_set (xs : List CellV) (t : Nat) (h : t < xs.length) : ((((spRows xs t).set (t * 4) (.int .i64 (-1))).set (t * 4 + 1) (.int .i64 0)).set (t * 4 + 2) (.int .i64 0)).set (t * 4 + 3) (.slice none 0 0) = spRows xs (t + 1) := by
  have hl : ((List.replicate t [Value.int .i64 (-1), .int .i64 0, .int .i64 0, .slice none 0 0]).flatten).length = t * 4 := by simp
  have e1 : spRows xs t = (List.replicate t [Value.int .i64 (-1), .int .i64 0, .int .i64 0, .slice none 0 0]).flatten ++ (cellRow xs[t] ++ cellRows (xs.drop (t + 1))) := by
    unfold spRows
    rw [List.drop_eq_getElem_cons h, cellRows, List.flatMap_cons, ← cellRows]
  have e2 : spRows xs (t + 1) = (List.replicate t [Value.int .i64 (-1), .int .i64 0, .int .i64 0, .slice none 0 0]).flatten ++ ([Value.int .i64 (-1), .int .i64 0, .int .i64 0, .slice none 0 0] ++ cellRows (xs.drop (t + 1))) := by
    unfold spRows
    rw [List.replicate_succ', List.flatten_append, List.append_assoc]
    simp
  rw [e1, e2]
  generalize (List.replicate t [Value.int .i64 (-1), .int .i64 0, .int .i64 0, .slice none 0 0]).flatten = A at hl ⊢
  rw [List.set_append_right _ _ (by omega), List.set_append_right _ _ (by omega), List.set_append_right _ _ (by omega), List.set_append_right _ _ (by omega), hl]
  rw [Nat.sub_self, Nat.add_sub_cancel_left, Nat.add_sub_cancel_left, Nat.add_sub_cancel_left]
  simp [cellRow]
theorem own_ne {w : World} {E F : TypeId} {a g s r n m c d : Nat} {us vs : List Value} (h1 : w.ownsRow 0 E s (.slice (some ⟨a, 0, none⟩) n c) n us) (h2 : w.ownsRow 0 F r (.slice (some ⟨g, 0, none⟩) m d) m vs) (hE : E ≠ F) : a ≠ g := by
  rintro rfl
  rcases h1.2 with ⟨h, _⟩ | ⟨a', c', cur, he, _, hg, _⟩
  · simp at h
  · rcases h2.2 with ⟨h, _⟩ | ⟨g', d', cur2, he2, _, hg2, _⟩
    · simp at h
    · simp only [Value.slice.injEq, Option.some.injEq, Addr.mk.injEq, and_true, true_and] at he he2
      obtain ⟨rfl, _⟩ := he
      obtain ⟨rfl, _⟩ := he2
      rw [hg] at hg2
      simp only [Option.some.injEq, Obj.cells.injEq] at hg2
      exact hE hg2.2.1
set_option maxHeartbeats 3200000 in
theorem spoil19_any (w : World) (lo : Nat) (pp : Option Addr) (pc : Nat) (xs : List CellV) (hi : IsCells w lo pp pc xs) (ho : OwnC w xs) (hn : xs.length ≤ 70) :
    Calls Try.prog 12 #[.slice pp xs.length pc] w fun e w' => e = .returned (.tuple #[]) ∧ Frm (blk pp ++ xs.flatMap fun x => blk x.p) w w' := by
  obtain ⟨S, hS⟩ : ∃ S, (blk pp ++ xs.flatMap fun x => blk x.p) = S := ⟨_, rfl⟩
  have HSP : Hid (∀ k ∈ blk pp, k ∈ S) := hid (fun k hk => by rw [← hS]; exact List.mem_append_left _ hk)
  have HSX : Hid (∀ x ∈ xs, ∀ k ∈ blk x.p, k ∈ S) := hid (fun x hx k hk => by rw [← hS]; exact List.mem_append_right _ (List.mem_flatMap.2 ⟨x, hx, hk⟩))
  have HO0 := hid ho.some
  have HR0 : Hid (w.ownsRow 0 57 4 (.slice pp xs.length pc) xs.length (spRows xs 0)) := hid (by
    have h := hi.1
    unfold spRows
    simpa using h)
  rw [hS]
  clear hS hi ho
  go_enter Try.func12, Try.ntmps12
  go_wp2_with fail
  go_loopw [2] (fun i wr => ∃ t : Nat, t ≤ xs.length ∧ i = .int .i64 t ∧ Hid (wr.ownsRow 0 57 4 (.slice pp xs.length pc) xs.length (spRows xs t)) ∧ Hid (OwnE wr xs) ∧ Hid (Frm S w wr)) (fun i _ => xs.length - (intOf i).toNat)
  case atStart => exact ⟨0, Nat.zero_le _, rfl, HR0, HO0, hid (Frm.refl _ _)⟩
  case round =>
    clear HR0 HO0
    obtain ⟨t, ht, rfl, hr, hoe, hf⟩ := hrel
    by_cases hlt : t < xs.length
    · obtain ⟨hb, rfl⟩ : ∃ hb, pp = some ⟨hb, 0, none⟩ := by
        rcases hr.out.2 with ⟨_, h0⟩ | ⟨g, c, cur, he, _⟩
        · omega
        · simp only [Value.slice.injEq] at he
          exact ⟨g, he.1⟩
      have hmem := List.getElem_mem hlt
      have HMEM := hid hmem
      have hcell : ∀ j, j < 4 → wr.cell? ⟨hb, t * 4 + j, none⟩ = (cellRow xs[t])[j]? := fun j hj => by
        rw [World.ownsRow.cellAt hr.out (t * 4 + j) (by omega), spRows_at xs t hlt j hj]
      have k3 := hcell 3 (by omega)
      have hhl : hb < wr.heap.size := World.block_lt_of_cell? wr _ k3
      obtain ⟨x, hx⟩ : ∃ x, xs[t] = x := ⟨_, rfl⟩
      have HX0 := hid hx
      rw [hx] at HMEM k3
      have k3' : wr.cell? ⟨hb, t * 4 + 3, none⟩ = some (.slice x.p x.zs.length x.c) := k3
      obtain ⟨nz, hnz⟩ : ∃ nz, x.zs.length = nz := ⟨_, rfl⟩
      rw [hnz] at k3'
      have HNZ := hid hnz
      have hnzb : nz ≤ 9223372036854775807 := by
        obtain ⟨zs0, hz0, ho0⟩ := hoe.out x HMEM.out
        have h3 := ho0
        unfold Own at h3
        rw [hz0] at h3
        have h4 := es_fit h3
        omega
      have t0 : (0 : Int) ≤ (t : Int) := by omega
      have t1 : (t : Int) < (xs.length : Int) := by omega
      clear hmem hcell k3 hx hnz
      go_wp2_with fail
      obtain ⟨wo, rfl⟩ : ∃ wo : World, wo = wr := ⟨_, rfl⟩
      go_loopw [3] (fun i wi => ∃ k : Nat, k ≤ nz ∧ i = .int .i64 k ∧ Hid (wi.ownsRow 0 57 4 (.slice (some ⟨hb, 0, none⟩) xs.length pc) xs.length (spRows xs t)) ∧ Hid (OwnE wi xs) ∧ Hid (Frm S w wi)) (fun i _ => nz - (intOf i).toNat)
      case atStart => exact ⟨0, Nat.zero_le _, rfl, hr, hoe, hf⟩
      case round =>
        clear hr hoe hf
        obtain ⟨k, hk, rfl, hr, hoe, hf⟩ := hrel
        have e3 : wr.cell? ⟨hb, t * 4 + 3, none⟩ = some (.slice x.p nz x.c) := by
          have hx0 := HX0.out
          rw [World.ownsRow.cellAt hr.out (t * 4 + 3) (by omega), spRows_at xs t hlt 3 (by omega), hx0, ← HNZ.out]; rfl
        by_cases hlk : k < nz
        · obtain ⟨zs, hzl, hoz⟩ := hoe.out x HMEM.out
          rw [HNZ.out] at hzl hoz
          obtain ⟨g, hp, hg, hc, hfz, _⟩ := hoz.setAt hzl hlk
          have hne : hb ≠ g := by
            rw [hp] at hoz
            have h2 : wr.ownsRow 0 5 1 (.slice (some ⟨g, 0, none⟩) nz x.c) nz (bv zs) := by have h3 := hoz; unfold Own at h3; rwa [hzl] at h3
            exact own_ne hr.out h2 (by decide)
          have hgS : g ∈ S := HSX.out x HMEM.out g (by rw [hp]; simp [blk])
          have HR2 : Hid (∀ u : Value, (wr.setCell ⟨g, k, none⟩ u).ownsRow 0 57 4 (.slice (some ⟨hb, 0, none⟩) xs.length pc) xs.length (spRows xs t)) := hid (fun u => ownsRow_kept hr.out ((Frm.refl [g] wr).setCell _ _ (by simp)) (by simp [blk]; exact hne))
          have HF2 : Hid (∀ u : Value, Frm S w (wr.setCell ⟨g, k, none⟩ u)) := hid (fun u => hf.out.setCell _ _ (fun _ => hgS))
          have HE2 := hid (fun z => hoe.out.poke g k z)
          rw [hp] at e3
          clear hzl hoz hp hne hgS
          go_wp2_with fail
          go_roundw
          case rel => exact ⟨k + 1, by omega, by go_num, hid (HR2.out _), hid (HE2.out _), hid (HF2.out _)⟩
          case measure => simp [intOf]; omega
        · obtain rfl : k = nz := by omega
          have hcell : ∀ j, j < 4 → wr.cell? ⟨hb, t * 4 + j, none⟩ = (cellRow x)[j]? := fun j hj => by
            have hx0 := HX0.out
            rw [World.ownsRow.cellAt hr.out (t * 4 + j) (by omega), spRows_at xs t hlt j hj, hx0]
          have d0 : wr.cell? ⟨hb, t * 4, none⟩ = some (.int .i64 1) := hcell 0 (by omega)
          have d1 : wr.cell? ⟨hb, t * 4 + 1, none⟩ = some (.int .i64 x.k) := hcell 1 (by omega)
          have d2 : wr.cell? ⟨hb, t * 4 + 2, none⟩ = some (.int .i64 0) := hcell 2 (by omega)
          have f0 := World.ownsRow.frozenAt hr.out (t * 4)
          have f1 := World.ownsRow.frozenAt hr.out (t * 4 + 1)
          have f2 := World.ownsRow.frozenAt hr.out (t * 4 + 2)
          have f3 := World.ownsRow.frozenAt hr.out (t * 4 + 3)
          have hst := (World.ownsRow.stored (World.ownsRow.stored (World.ownsRow.stored (World.ownsRow.stored hr.out (t * 4) (.int .i64 (-1))).1 (t * 4 + 1) (.int .i64 0)).1 (t * 4 + 2) (.int .i64 0)).1 (t * 4 + 3) (.slice none 0 0)).1
          rw [spRows_set xs t hlt] at hst
          have HST := hid hst
          have hFS : Frm [hb] wr ((((wr.setCell ⟨hb, t * 4, none⟩ (.int .i64 (-1))).setCell ⟨hb, t * 4 + 1, none⟩ (.int .i64 0)).setCell ⟨hb, t * 4 + 2, none⟩ (.int .i64 0)).setCell ⟨hb, t * 4 + 3, none⟩ (.slice none 0 0)) :=
            ((((Frm.refl [hb] wr).setCell _ _ (by simp)).setCell _ _ (by simp)).setCell _ _ (by simp)).setCell _ _ (by simp)
          have hbS := HSP.out hb (by simp [blk])
          have HF2 := hid (hf.out.trans hFS (fun i hi _ => by simp at hi; subst hi; exact hbS))
          have HE2 := hid (hoe.out.kept hFS (fun y hy j hj hj2 => by
            simp at hj2
            subst hj2
            obtain ⟨zs, hzl, hoz⟩ := hoe.out y hy
            obtain ⟨p', c', he, _, _, hh, _⟩ := hoz.shape
            simp only [Value.slice.injEq] at he
            obtain ⟨he1, he2, he3⟩ := he
            cases hp : y.p with
            | none => rw [hp] at hj; simp [blk] at hj
            | some a =>
              rw [hp] at hj
              simp [blk] at hj
              obtain ⟨h1, h2, _⟩ := hh a (by rw [← he1, hp])
              obtain ⟨ab, ao, as_⟩ := a
              simp only at h1 h2 hj
              subst h1 h2 hj
              rw [hp] at hoz
              have h3 := hoz
              unfold Own at h3
              rw [← hzl] at h3
              exact own_ne hr.out h3 (by decide) rfl))
          clear hlk hcell hst hFS hbS
          go_wp2_with fail
          go_roundw
          case rel => exact ⟨t + 1, by omega, by go_num, HST, HE2, HF2⟩
          case measure => simp [intOf]; omega
    · obtain rfl : t = xs.length := by omega
      have hfa : Frm [] wr (wr.alloc (.cells #[.int .i64 (-2), .int .i64 0, .int .i64 0, .slice none 0 0] 57)) := (Frm.refl _ _).alloc _
      have HRA := hid (ownsRow_kept hr.out hfa (by simp))
      have HFA := hid (hf.out.trans hfa (by simp))
      have HRV := hid (rv_block (heap_alloc_new wr (.cells #[.int .i64 (-2), .int .i64 0, .int .i64 0, .slice none 0 0] 57)))
      clear hlt hfa
      go_wp2_with (at_builtin; refine wpList_appV rfl _ _ 36 rfl 57 4 48 _ Try.underlying36 infoCell rfl (by decide) pp xs.length pc (spRows xs xs.length) rfl HRA.out (some ⟨wr.heap.size, 0, none⟩) 1 1 [.int .i64 (-2), .int .i64 0, .int .i64 0, .slice none 0 0] rfl rfl (by simp) HRV.out (by intro u hu; simp at hu; rcases hu with rfl | rfl | rfl <;> rfl) (by unfold maxLen; omega) (by omega) ?_)
      intro p6 c6 w6 ho6 hf6 hfr6
      obtain ⟨g6, rfl⟩ : ∃ g6, p6 = some ⟨g6, 0, none⟩ := by
        rcases ho6.out.2 with ⟨h, _⟩ | ⟨g, c, cur, he, _⟩
        · simp at h
        · simp only [Value.slice.injEq] at he
          exact ⟨g, he.1⟩
      have hsl := spRows_length xs xs.length (Nat.le_refl _)
      have k1 : w6.cell? ⟨g6, xs.length * 4 + 1, none⟩ = some (.int .i64 0) := by
        rw [World.ownsRow.cellAt ho6.out (xs.length * 4 + 1) (by omega), List.getElem?_append_right (by omega), hsl, Nat.add_sub_cancel_left]; rfl
      have f1 := World.ownsRow.frozenAt ho6.out (xs.length * 4 + 1)
      have HF6 : Hid (Frm S w w6) := hid (HFA.out.trans hf6.out (fun i hi _ => HSP.out i hi))
      have HG6 : Hid (g6 < w.heap.size → g6 ∈ S) := hid (fun hl => by
        rcases hfr6.out g6 (by simp [blk]) with h | h
        · exact HSP.out _ h
        · have := hf.out.size; omega)
      have hjj : (xs.length : Int) + 1 - 1 = (xs.length : Int) := by omega
      clear ho6 hf6 hfr6 hsl
      go_wp2_with fail
      go_returns
      exact ⟨rfl, HF6.out.setCell _ _ HG6.out⟩
end Go.Proofs.Ythifchkeapbfdaa
