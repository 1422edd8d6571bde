/- The document's Sha. The document's Of and Check. Bytes that may be read and written. Opening the arguments of the statements: numbers, bytes. A slice that came in is no longer than what a row may hold. The statement CodeOneForm: the walk. Contracts of the document's reader (layer 1). -/
import Derived.Test.YtajfjkfnmmfhmaaGreatDoorQwag
import Derived.Test.YtajfjkfnmmfhmaaGreatDoorQwav
import Derived.Test.YtajfjkfnmmfhmaaGreatDoorQwac
import Derived.Test.YtajfjkfnmmfhmaaGreatDoorRows
import Derived.ProofKit
import Derived.OpenShut
import Derived.ChangeOld
import Derived.Deep.Slices
import Derived.SizedLaws
import Derived.Test.YtajfjkfnmmfhmaaGreatDoorQwaa
import Derived.WalkKit
import Derived.WalkSpells
import Derived.WalkLawsBesides
import Derived.Handy
import Derived.Deep.OwnRows
import Derived.Laws.BytesArg
import Derived.Laws.CopyOwn
import Derived.Lib.AppendStr
namespace Go.Proofs.YtajfjkfnmmfhmaaGreatDoor
section
open Go.RowKit
set_option maxRecDepth 100000
/-- The document's two variables. -/
structure Vars (w : World) : Prop where
  r : ∀ t, t < 64 → w.cell? ⟨1, t, none⟩ = some (.int .u32 (zA PR t))
  f : ∀ t, t < 8 → w.cell? ⟨0, t, none⟩ = H0.arr[t]?
theorem Vars.kept {w w' : World} (h : Vars w) (hf : Frm [] w w') : Vars w' :=
  ⟨fun t ht => (hf.cell (p := ⟨1, t, none⟩) (World.block_lt_of_cell? w _ (h.r t ht)) (by simp)).trans (h.r t ht),
   fun t ht => (hf.cell (p := ⟨0, t, none⟩) (by
     have h1 := h.f t ht
     rw [show H0.arr[t]? = some H0.arr[t] from Array.getElem?_eq_getElem ht] at h1
     exact World.block_lt_of_cell? w _ h1) (by simp)).trans (h.f t ht)⟩
theorem cut_mid (g n c a : Nat) (h : a + 64 ≤ n) (hc : n ≤ c) (W : World) : (Instr.sliceAt 24 (.slice (some ⟨g, 0, none⟩) n c) (some (.int .i64 (a : Int))) (some (.int .i64 ((a : Int) + 64))) none).run Tryz.prog W = .ok (.slice (some ⟨g, a, none⟩) 64 (c - a)) W := by
  obtain ⟨i, hi, hz, h1, h2⟩ := info_parts (infoB)
  rw [run_sliceAt_slice (h := elem_of Tryz.underlying24), run_slice_lh W 24 _ _ _ (elem_of Tryz.underlying24) .i64 .i64 _ _ (by omega) (by omega) (by omega), show Tryz.prog.elem 24 = 5 by simp [Program.elem, Tryz.underlying24]]
  have hs : (sizeOf 5).run Tryz.prog W = .ok 1 W := by simp [sizeOf, typeInfo, hi, h1, Result.andThen]
  rw [hs]
  have e1 : ((a : Int) + 64).toNat = a + 64 := by omega
  have e2 : ¬ c = a := by omega
  simp [Result.andThen, sliced, e1, e2, Addr.add]
  exact fun h => h.symm
theorem lenL_ok (n t : Nat) : ∀ z ∈ lenL n t, 0 ≤ z ∧ z < 256 := by
  induction t with
  | zero => intro z hz; simp [lenL] at hz
  | succ t ih =>
    intro z hz
    rcases List.mem_append.1 hz with h | h
    · exact ih z h
    · rw [List.mem_singleton.1 h]; unfold lenC; omega
theorem pad_ok {zs : List Int} (hb : ∀ z ∈ zs, 0 ≤ z ∧ z < 256) : ∀ z ∈ padD zs, 0 ≤ z ∧ z < 256 := by
  intro z hz
  unfold padD at hz
  rcases List.mem_append.1 hz with hz | hz
  · rcases List.mem_append.1 hz with hz | hz
    · rcases List.mem_append.1 hz with hz | hz
      · exact hb z hz
      · rw [List.mem_singleton.1 hz]; omega
    · rw [List.eq_of_mem_replicate hz]; omega
  · exact lenL_ok _ _ z hz
theorem rd_mid {w : World} {g : Nat} {P : List Int} (h : Rd w (some ⟨g, 0, none⟩) P) (a : Nat) : Rd w (some ⟨g, a, none⟩) ((P.drop a).take 64) := by
  rcases h with h | ⟨g', o, e, hc⟩
  · subst h; exact Or.inl (by simp)
  · simp only [Option.some.injEq, Addr.mk.injEq, and_true] at e
    obtain ⟨rfl, rfl⟩ := e
    refine Or.inr ⟨g, a, rfl, fun i hi => ?_⟩
    rw [List.length_take, List.length_drop] at hi
    have h1 := hc (a + i) (by omega)
    rw [Nat.zero_add] at h1
    rw [h1]
    congr 2
    have h2 := at_take (P.drop a) 64 i (by omega)
    rw [at_drop] at h2
    exact h2.symm
theorem pad_mod (zs : List Int) : (padD zs).length % 64 = 0 ∧ 64 ≤ (padD zs).length := by
  rw [padD_length]; unfold gapN; omega
/-- The blocks inside a round: those of Sha, the round's eight words, the schedule. -/
structure StS (w0 w : World) (x y z : Nat) (v r : V8) (ws : List Int) : Prop where
  j : StJ w0 w x v
  hz : w.heap[z]? = some (.cells r.arr 124 (0, 0))
  hw : w.heap[y]? = some (.cells (wv ws).toArray 123 (0, 0))
  len : ws.length = 64
theorem StS.drewN {w0 w : World} {x y z : Nat} {v r : V8} {ws : List Int} (h : StS w0 w x y z v r ws) (n : Nat) : StS w0 (w.drewN n) x y z v r ws :=
  have f : Frm [] w (w.drewN n) := (Frm.refl [] w).drewN n
  ⟨⟨f.heap h.j.h0 (by simp), f.heap h.j.h1 (by simp), h.j.fr.drewN n⟩, f.heap h.hz (by simp), f.heap h.hw (by simp), h.len⟩
theorem StS.at {w0 w : World} {x y z : Nat} {v r : V8} {ws : List Int} (h : StS w0 w x y z v r ws) (t : Nat) (ht : t < 64) : w.cell? ⟨y, t, none⟩ = some (.int .u32 (zA ws t)) := by
  rw [cell_of_row w _ _ _ _ _ h.hw]
  have := h.len
  simp [wv, zA, List.getD_eq_getElem?_getD, show t < ws.length by omega]
theorem StS.e {w0 w : World} {x y z : Nat} {v r : V8} {ws : List Int} (h : StS w0 w x y z v r ws) :
    w.cell? ⟨z, 0, none⟩ = some (.int .u32 r.a) ∧ w.cell? ⟨z, 1, none⟩ = some (.int .u32 r.b) ∧ w.cell? ⟨z, 2, none⟩ = some (.int .u32 r.c) ∧ w.cell? ⟨z, 3, none⟩ = some (.int .u32 r.d) ∧ w.cell? ⟨z, 4, none⟩ = some (.int .u32 r.e) ∧ w.cell? ⟨z, 5, none⟩ = some (.int .u32 r.f) ∧ w.cell? ⟨z, 6, none⟩ = some (.int .u32 r.g) ∧ w.cell? ⟨z, 7, none⟩ = some (.int .u32 r.h) := by
  refine ⟨?_, ?_, ?_, ?_, ?_, ?_, ?_, ?_⟩ <;> (rw [cell_of_row w _ _ _ _ _ h.hz]; rfl)
def V8.l (v : V8) : List Int := [v.a, v.b, v.c, v.d, v.e, v.f, v.g, v.h]
def addL (l r : List Int) : Nat → List Int
  | 0 => l
  | t + 1 => (addL l r t).set t ((zA (addL l r t) t + zA r t) % 4294967296)
theorem addL_all (v r : V8) : addL v.l r.l 8 = (addV v r).l := rfl
structure StZ (w0 w : World) (x z : Nat) (l r : List Int) : Prop where
  h0 : w.heap[x]? = some (.cells #[.int .u64 0, .int .u64 0, .int .u64 0, .int .u64 0] 29 (0, 0))
  h1 : w.heap[x + 1]? = some (.cells (wv l).toArray 124 (0, 0))
  hz : w.heap[z]? = some (.cells (wv r).toArray 124 (0, 0))
  ll : l.length = 8
  rl : r.length = 8
  fr : Frm [] w0 w
theorem StZ.drew {w0 w : World} {x z : Nat} {l r : List Int} (h : StZ w0 w x z l r) : StZ w0 w.drew x z l r := ⟨h.h0, h.h1, h.hz, h.ll, h.rl, h.fr.drew⟩
theorem at_wv {w : World} {b : Nat} {T : TypeId} {l : List Int} (h : w.heap[b]? = some (.cells (wv l).toArray T (0, 0))) (t : Nat) (ht : t < l.length) : w.cell? ⟨b, t, none⟩ = some (.int .u32 (zA l t)) := by
  rw [cell_of_row w _ _ _ _ _ h]
  simp [wv, zA, List.getD_eq_getElem?_getD, ht]
theorem StZ.set {w0 w : World} {x z : Nat} {l r : List Int} (h : StZ w0 w x z l r) (hx : w0.heap.size ≤ x) (hne : x + 1 < z) (t : Nat) (u : Int) : StZ w0 (w.setCell ⟨x + 1, t, none⟩ (.int .u32 u)) x z (l.set t u) r ∧ Frm [x + 1] w (w.setCell ⟨x + 1, t, none⟩ (.int .u32 u)) := by
  have f : Frm [x + 1] w (w.setCell ⟨x + 1, t, none⟩ (.int .u32 u)) := (Frm.refl _ _).setCell _ _ (by simp)
  refine ⟨⟨f.heap h.h0 (by simp), ?_, f.heap h.hz (by simp; omega), by simp [h.ll], h.rl, h.fr.trans f (fun i hi hl => by simp at hi; omega)⟩, f⟩
  rw [heap_setCell_same w (x + 1) t _ _ _ h.h1]
  congr 2
  apply Array.ext'
  simp [wv, List.map_set]
set_option maxHeartbeats 6400000 in
theorem refSha_any (p : Option Addr) (n c : Nat) (zs : List Int) (w : World) (hn : zs.length = n) (hp : zs = [] → p = none → c = 0) (hnb : n + 100 ≤ 140737488355328) (hrd : Rd w p zs) (hb : ∀ z ∈ zs, 0 ≤ z ∧ z < 256) (hv : Vars w) :
    Calls Tryz.prog 85 #[.slice p n c] w fun e w' => e = .returned (.agg (shaD zs).arr) ∧ Frm [] w w' := by
  have hfa0 : Frm [] w (w.alloc (.cells #[.int .u64 0, .int .u64 0, .int .u64 0, .int .u64 0] 29)) := (Frm.refl _ _).alloc _
  obtain ⟨wa, hwa⟩ : ∃ wa, w.alloc (.cells #[.int .u64 0, .int .u64 0, .int .u64 0, .int .u64 0] 29) = wa := ⟨_, rfl⟩
  have hA0 : wa.heap[w.heap.size]? = some (.cells #[.int .u64 0, .int .u64 0, .int .u64 0, .int .u64 0] 29 (0, 0)) := by rw [← hwa]; exact heap_alloc_new _ _
  rw [hwa] at hfa0
  have hva := hv.kept hfa0
  have HA0 := hid hA0
  have HFA := hid hfa0
  have HV := hid hva
  have g0 : wa.cell? ⟨0, 0, none⟩ = some (.int .u32 1779033703) := hva.f 0 (by omega)
  have g1 : wa.cell? ⟨0, 1, none⟩ = some (.int .u32 3144134277) := hva.f 1 (by omega)
  have g2 : wa.cell? ⟨0, 2, none⟩ = some (.int .u32 1013904242) := hva.f 2 (by omega)
  have g3 : wa.cell? ⟨0, 3, none⟩ = some (.int .u32 2773480762) := hva.f 3 (by omega)
  have g4 : wa.cell? ⟨0, 4, none⟩ = some (.int .u32 1359893119) := hva.f 4 (by omega)
  have g5 : wa.cell? ⟨0, 5, none⟩ = some (.int .u32 2600822924) := hva.f 5 (by omega)
  have g6 : wa.cell? ⟨0, 6, none⟩ = some (.int .u32 528734635) := hva.f 6 (by omega)
  have g7 : wa.cell? ⟨0, 7, none⟩ = some (.int .u32 1541459225) := hva.f 7 (by omega)
  have HRD := hid hrd
  have HZB := hid hb
  have HN := hid hn
  have HPC := hid hp
  have HW := hid hv
  have hsa : wa.heap.size = w.heap.size + 1 := by rw [← hwa]; simp
  clear hrd hb hn hp hv hva hfa0 hA0
  go_enter Tryz.func85, Tryz.ntmps85
  go_wp2_with fail
  obtain ⟨wb, hwb⟩ : ∃ wb, wa.alloc (.cells #[.int .u32 1779033703, .int .u32 3144134277, .int .u32 1013904242, .int .u32 2773480762, .int .u32 1359893119, .int .u32 2600822924, .int .u32 528734635, .int .u32 1541459225] 124) = wb := ⟨_, rfl⟩
  rw [hwb]
  have hfb : Frm [] wa wb := by rw [← hwb]; exact (Frm.refl _ _).alloc _
  have hB1 : wb.heap[w.heap.size + 1]? = some (.cells H0.arr 124 (0, 0)) := by rw [← hwb, ← hsa]; exact heap_alloc_new _ _
  have hsb : wb.heap.size = w.heap.size + 2 := by rw [← hwb]; simp [hsa]
  have HJ : Hid (StJ w wb w.heap.size H0) := hid ⟨hfb.heap HA0.out (by simp), hB1, HFA.out.trans hfb (by simp)⟩
  refine (padded_any p n c zs wb HN.out HPC.out hnb (HRD.out.kept HJ.out.fr (by simp))).mono ?_
  rintro e w2 ⟨q, d, rfl, ho, hbq, hf2⟩
  have hpm := pad_mod zs
  obtain ⟨p', c', he, hle, hnone, hsome, _⟩ := ho.shape
  simp only [Value.slice.injEq] at he
  obtain ⟨rfl, _, rfl⟩ := he
  cases q with
  | none => exact absurd (congrArg List.length (hnone rfl).1) (by rw [List.length_nil]; omega)
  | some a =>
  obtain ⟨ea, eb, _⟩ := hsome a rfl
  obtain ⟨g, o, s⟩ := a
  simp only at ea eb
  subst ea
  subst eb
  have hgx : w.heap.size + 2 ≤ g := by have := hbq g (by simp [blk]); omega
  have hord := ho.rd
  have HSD : Hid (∀ k, 64 * k = (padD zs).length → sumV (blksD H0 (padD zs) k) = shaD zs) := hid (fun k hk => by unfold shaD; congr 2; omega)
  have hPb : ∀ z ∈ padD zs, 0 ≤ z ∧ z < 256 := fun z hz => pad_ok HZB.out z hz
  obtain ⟨P, hP⟩ : ∃ P, padD zs = P := ⟨_, rfl⟩
  rw [hP] at hpm hle hord HSD hPb ⊢
  obtain ⟨L, hL⟩ : ∃ L, P.length = L := ⟨_, rfl⟩
  rw [hL] at hpm hle HSD ⊢
  have HL := hid hL
  have HPB := hid hPb
  have hLb : L ≤ 140737488355328 := by rw [← hL, ← hP, padD_length, HN.out]; unfold gapN; omega
  have HJ0 : Hid (StJ w w2 w.heap.size (blksD H0 P 0)) := hid ⟨hf2.heap HJ.out.h0 (by simp), hf2.heap HJ.out.h1 (by simp), HJ.out.fr.trans hf2 (by simp)⟩
  have HR0 := hid hord
  have HG := hid hgx
  have hm0 := hpm.1
  have HL64 := hid hpm.2
  clear hwa hP hPb hL hord hgx hbq hf2 hnone hsome ho hwb hfb hB1 hsb HJ g0 g1 g2 g3 g4 g5 g6 g7 hsa hpm HA0 HFA HV
  go_wp2_with fail
  go_loopw [5] (fun i wr => ∃ k : Nat, Hid (64 * k ≤ L) ∧ i = .int .i64 (64 * (k : Int)) ∧ Hid (StJ w wr w.heap.size (blksD H0 P k)) ∧ Hid (Rd wr (some ⟨g, 0, none⟩) P)) (fun i _ => L - (intOf i).toNat)
  case atStart => exact ⟨0, hid (by omega), rfl, HJ0, HR0⟩
  case round =>
    clear HJ0 HR0
    obtain ⟨k, hk, rfl, hst, hrp⟩ := hrel
    have hk' := hk.out
    by_cases hlt : 64 * (k : Int) < (L : Int)
    · have hcut : ∀ W : World, (Instr.sliceAt 24 (.slice (some ⟨g, 0, none⟩) L d) (some (.int .i64 (64 * (k : Int)))) (some (.int .i64 (64 * (k : Int) + 64))) none).run Tryz.prog W = .ok (.slice (some ⟨g, 64 * k, none⟩) 64 (d - 64 * k)) W := fun W => by
        have h := cut_mid g L d (64 * k) (by omega) hle W
        rwa [show ((64 * k : Nat) : Int) = 64 * (k : Int) by omega] at h
      have hcut2 : ∀ W : World, (Instr.slice 24 (.slice (some ⟨g, 0, none⟩) L d) (some (.int .i64 (64 * (k : Int)))) (some (.int .i64 (64 * (k : Int) + 64))) none).run Tryz.prog W = .ok (.slice (some ⟨g, 64 * k, none⟩) 64 (d - 64 * k)) W := fun W => by rw [← run_sliceAt_slice (h := elem_of Tryz.underlying24)]; exact hcut W
      have k0 : IntKind.i64.wrap (64 * (k : Int) + 64) = 64 * (k : Int) + 64 := IntWalk.i64_in _ (by omega)
      have HWD := hid (words_any (some ⟨g, 64 * k, none⟩) 64 (d - 64 * k) ((P.drop (64 * k)).take 64) wr (by rw [List.length_take, List.length_drop, HL.out]; omega) rfl (rd_mid hrp.out (64 * k)) (fun z hz => HPB.out z (List.mem_of_mem_drop (List.mem_of_mem_take hz))))
      go_wp2_with fail
      refine HWD.out.mono ?_
      rintro e w3 ⟨y, rfl, hsw⟩
      have HR3 := hid (hrp.out.kept hsw.fr (by simp))
      have HJ3 : Hid (StJ w w3 w.heap.size (blksD H0 P k)) := hid ⟨hsw.fr.heap hst.out.h0 (by simp), hsw.fr.heap hst.out.h1 (by simp), hst.out.fr.trans hsw.fr (by simp)⟩
      have hbn : blockV (blksD H0 P k) ((P.drop (64 * k)).take 64) = blksD H0 P (k + 1) := rfl
      unfold blockV at hbn
      have HW3 := hid hsw.h2
      have HWL := hid hsw.len
      obtain ⟨ws, hws⟩ : ∃ ws, wB (wA ((P.drop (64 * k)).take 64) 16) 48 = ws := ⟨_, rfl⟩
      obtain ⟨v, hv⟩ : ∃ v, blksD H0 P k = v := ⟨_, rfl⟩
      rw [hws] at hbn HW3 HWL
      rw [hv] at hbn HJ3
      have HBN := hid hbn
      obtain ⟨e0, e1, e2, e3, e4, e5, e6, e7⟩ := HJ3.out.e
      clear hsw hbn hws hv hst hrp HWD hcut hcut2 k0
      go_wp2_with fail
      have hf4 : Frm [] w3 (w3.alloc (.cells v.arr 124)) := (Frm.refl _ _).alloc _
      have HS0 : Hid (StS w (w3.alloc (.cells v.arr 124)) w.heap.size y w3.heap.size v v ws) := hid ⟨⟨hf4.heap HJ3.out.h0 (by simp), hf4.heap HJ3.out.h1 (by simp), HJ3.out.fr.trans hf4 (by simp)⟩, heap_alloc_new _ _, hf4.heap HW3.out (by simp), HWL.out⟩
      have HR4 := hid (HR3.out.kept hf4 (by simp))
      unfold V8.arr at HS0 HR4
      obtain ⟨zb, hzb⟩ : ∃ z, w3.heap.size = z := ⟨_, rfl⟩
      rw [hzb] at HS0 ⊢
      have HZ : Hid (w.heap.size + 1 < zb ∧ y < zb ∧ g < zb) := hid (by
        rw [← hzb]
        refine ⟨lt_of_heap HJ3.out.h1, lt_of_heap HW3.out, ?_⟩
        obtain ⟨g', o', e, hc⟩ := rd_byte (i := 0) HR3.out (by have := HL64.out; rw [HL.out]; omega)
        simp only [Option.some.injEq, Addr.mk.injEq, and_true] at e
        obtain ⟨rfl, rfl⟩ := e
        exact World.block_lt_of_cell? w3 _ hc)
      clear hf4 hzb e0 e1 e2 e3 e4 e5 e6 e7 HR3 HJ3 HW3
      go_loopw [8] (fun i wr => ∃ (t : Nat) (r : V8), t ≤ 64 ∧ i = .int .i64 t ∧ Hid (rnds ws v t = r) ∧ Hid (StS w wr w.heap.size y zb v r ws) ∧ Hid (Rd wr (some ⟨g, 0, none⟩) P)) (fun i _ => 64 - (intOf i).toNat)
      case atStart => exact ⟨0, v, by omega, rfl, hid rfl, HS0, HR4⟩
      case round =>
        clear HS0 HR4
        obtain ⟨t, r, ht, rfl, hr, hst, hrp⟩ := hrel
        by_cases hlt : t < 64
        · have cw := hst.out.at t hlt
          have cp := (HW.out.kept hst.out.j.fr).r t hlt
          obtain ⟨e0, e1, e2, e3, e4, e5, e6, e7⟩ := hst.out.e
          have s0 : (0 : Int) ≤ (t : Int) := by omega
          have s1 : (t : Int) < 64 := by omega
          go_wp2_with fail
          go_quiet ((go_at_call 111; refine Calls.quiet_of_same (turned_all _ _ rfl _)))
          have e1' : ((r.h + bits .xor .u32 (bits .xor .u32 (rorI r.e 6) (rorI r.e 11)) (rorI r.e 25) + bits .xor .u32 (bits .and .u32 r.e r.f) (bits .and .u32 (bits .xor .u32 (if IntKind.u32.signed = true then -1 else IntKind.u32.max) r.e) r.g) + zA PR t) % 4294967296 + zA ws t) % 4294967296 = t1F r (zA PR t) (zA ws t) := rfl
          rw [e1']
          obtain ⟨T1, hT1⟩ : ∃ T1, t1F r (zA PR t) (zA ws t) = T1 := ⟨_, rfl⟩
          rw [hT1]
          have HT1 := hid hT1
          have HS5 := hid (hst.out.drewN nq)
          have HR5 := hid (hrp.out.kept ((Frm.refl [] wr).drewN nq) (by simp))
          obtain ⟨w5, hw5⟩ : ∃ w5, wr.drewN nq = w5 := ⟨_, rfl⟩
          rw [hw5] at HS5 HR5 ⊢
          clear e1' hT1 hw5 cw cp hst hrp e0 e1 e2 e3 e4 e5 e6 e7
          generalize (if IntKind.u32.signed = true then (-1 : Int) else IntKind.u32.max) = MX
          obtain ⟨e0, e1, e2, e3, e4, e5, e6, e7⟩ := HS5.out.e
          go_wp2_with fail
          go_quiet ((go_at_call 111; refine Calls.quiet_of_same (turned_all _ _ rfl _)))
          have HS6 := hid (HS5.out.drewN nq)
          have HR6 := hid (HR5.out.kept ((Frm.refl [] w5).drewN nq) (by simp))
          obtain ⟨w6, hw6⟩ : ∃ w6, w5.drewN nq = w6 := ⟨_, rfl⟩
          rw [hw6] at HS6 HR6 ⊢
          clear hw6 HS5 HR5 e0 e1 e2 e3 e4 e5 e6 e7
          obtain ⟨e0, e1, e2, e3, e4, e5, e6, e7⟩ := HS6.out.e
          have hfr6 : ∀ i, w6.frozen? ⟨zb, i, none⟩ = false := fun i => frozen_of_row w6 _ i _ _ HS6.out.hz
          have f0 := hfr6 0
          have f1 := hfr6 1
          have f2 := hfr6 2
          have f3 := hfr6 3
          have f4 := hfr6 4
          have f5 := hfr6 5
          have f6 := hfr6 6
          have f7 := hfr6 7
          obtain ⟨T2, hT2⟩ : ∃ T2, t2F r = T2 := ⟨_, rfl⟩
          have HT2 := hid hT2
          unfold t2F at hT2
          try rw [hT2]
          have HS8 := hid (set8 (y0 := .int .u32 ((T1 + T2) % 4294967296)) (y1 := .int .u32 r.a) (y2 := .int .u32 r.b) (y3 := .int .u32 r.c) (y4 := .int .u32 ((r.d + T1) % 4294967296)) (y5 := .int .u32 r.e) (y6 := .int .u32 r.f) (y7 := .int .u32 r.g) HS6.out.hz)
          clear hfr6 hT2
          go_wp2_with fail
          go_roundw
          case rel =>
            obtain ⟨h8, f8⟩ := HS8.out
            have hz := HZ.out
            refine ⟨t + 1, rnd r (zA PR t) (zA ws t), by omega, by go_num, hid (by rw [rnds, hr.out]), hid ⟨⟨f8.heap HS6.out.j.h0 (by simp; omega), f8.heap HS6.out.j.h1 (by simp; omega), HS6.out.j.fr.trans f8 (fun i hi hl => by simp at hi; omega)⟩, ?_, f8.heap HS6.out.hw (by simp; omega), HS6.out.len⟩, hid (HR6.out.kept f8 (by simp [blk]; omega))⟩
            rw [show (rnd r (zA PR t) (zA ws t)).arr = #[.int .u32 ((T1 + T2) % 4294967296), .int .u32 r.a, .int .u32 r.b, .int .u32 r.c, .int .u32 ((r.d + T1) % 4294967296), .int .u32 r.e, .int .u32 r.f, .int .u32 r.g] by unfold rnd V8.arr; rw [HT1.out, HT2.out]]
            exact h8
          case measure => simp [intOf]; omega
        · obtain rfl : t = 64 := by omega
          clear hlt
          rw [show ((64 : Nat) : Int) = 64 from rfl]
          go_wp2_with fail
          have HA0 : Hid (StZ w wr w.heap.size zb (addL v.l r.l 0) r.l) := hid ⟨hst.out.j.h0, hst.out.j.h1, hst.out.hz, rfl, rfl, hst.out.j.fr⟩
          have HBN2 : Hid ((addV v r) = blksD H0 P (k + 1)) := hid (by rw [← HBN.out, hr.out])
          obtain ⟨vl, hvl⟩ : ∃ l, v.l = l := ⟨_, rfl⟩
          obtain ⟨rl, hrl⟩ : ∃ l, r.l = l := ⟨_, rfl⟩
          have HAD : Hid (addL vl rl 8 = (blksD H0 P (k + 1)).l) := hid (by rw [← hvl, ← hrl, addL_all, HBN2.out])
          rw [hvl, hrl] at HA0
          have kk0 : IntKind.i64.wrap (64 * (k : Int) + 64) = 64 * (k : Int) + 64 := IntWalk.i64_in _ (by omega)
          clear hst HBN HBN2 hr hvl hrl
          go_loopw [13] (fun i wr => ∃ t : Nat, t ≤ 8 ∧ i = .int .i64 t ∧ Hid (StZ w wr w.heap.size zb (addL vl rl t) rl) ∧ Hid (Rd wr (some ⟨g, 0, none⟩) P)) (fun i _ => 8 - (intOf i).toNat)
          case atStart => exact ⟨0, by omega, rfl, HA0, hrp⟩
          case round =>
            clear HA0 hrp
            obtain ⟨t, ht, rfl, hst, hrp⟩ := hrel
            by_cases hlt : t < 8
            · have c0 := at_wv hst.out.h1 t (by rw [hst.out.ll]; exact hlt)
              have c1 := at_wv hst.out.hz t (by rw [hst.out.rl]; exact hlt)
              have f0 : wr.frozen? ⟨w.heap.size + 1, t, none⟩ = false := frozen_of_row wr _ t _ _ hst.out.h1
              have s0 : (0 : Int) ≤ (t : Int) := by omega
              have s1 : (t : Int) < 8 := by omega
              have hnx : (addL vl rl t).set t ((zA (addL vl rl t) t + zA rl t) % 4294967296) = addL vl rl (t + 1) := rfl
              have HNX := hid hnx
              obtain ⟨al, hal⟩ : ∃ a, addL vl rl t = a := ⟨_, rfl⟩
              rw [hal] at c0 HNX hst
              generalize zA al t = A1 at c0 HNX
              generalize zA rl t = A2 at c1 HNX
              clear hnx hal
              go_wp2_with fail
              go_still_tail 9, (by kernel_rfl)
              change wpList _ _ _ _ _ wr.drew
              have HS4 := hid hst.out.drew
              have HR4 := hid (hrp.out.kept (Frm.refl [] wr).drew (by simp))
              obtain ⟨w4, hw4⟩ : ∃ w4, wr.drew = w4 := ⟨_, rfl⟩
              have cw4 : w4.cell? ⟨w.heap.size + 1, t, none⟩ = some (.int .u32 A1) := by rw [← hw4]; exact c0
              have fz4 : w4.frozen? ⟨w.heap.size + 1, t, none⟩ = false := by rw [← hw4]; exact f0
              rw [hw4] at HS4 HR4 ⊢
              clear hw4 c0 c1 f0 hst hrp
              go_wp2_with fail
              go_roundw
              case rel =>
                have h := HS4.out.set (Nat.le_refl _) HZ.out.1 t ((A1 + A2) % 4294967296)
                refine ⟨t + 1, by omega, by go_num, hid (by have h1 := h.1; rwa [HNX.out] at h1), hid (HR4.out.kept h.2 (by have := HZ.out; have := HG.out; simp [blk]; omega))⟩
              case measure => simp [intOf]; omega
            · obtain rfl : t = 8 := by omega
              clear hlt
              rw [show ((8 : Nat) : Int) = 8 from rfl]
              go_wp2_with fail
              go_roundw
              case rel =>
                refine ⟨k + 1, hid (by omega), by go_num, hid ⟨hst.out.h0, ?_, hst.out.fr⟩, hrp⟩
                have h1 := hst.out.h1
                rw [HAD.out] at h1
                exact h1
              case measure => simp [intOf]; omega
    · have hkl : 64 * k = L := by omega
      have HRES := hid (HSD.out k hkl)
      have hok : (blksD H0 P k).ok := by
        obtain ⟨k', rfl⟩ : ∃ k', k = k' + 1 := ⟨k - 1, by have := HL64.out; omega⟩
        exact blockV_ok _ _
      obtain ⟨v1, hv1⟩ : ∃ v, blksD H0 P k = v := ⟨_, rfl⟩
      rw [hv1] at hst hok HRES
      obtain ⟨⟨d00, d01⟩, ⟨d10, d11⟩, ⟨d20, d21⟩, ⟨d30, d31⟩, ⟨d40, d41⟩, ⟨d50, d51⟩, ⟨d60, d61⟩, ⟨d70, d71⟩⟩ := hok
      obtain ⟨e0, e1, e2, e3, e4, e5, e6, e7⟩ := hst.out.e
      have r0 : wr.cell? ⟨w.heap.size, 0, none⟩ = some (.int .u64 0) := by rw [cell_of_row wr _ _ _ _ _ hst.out.h0]; rfl
      have q0 : wr.frozen? ⟨w.heap.size, 0, none⟩ = false := frozen_of_row wr _ 0 _ _ hst.out.h0
      have r1 : wr.cell? ⟨w.heap.size, 1, none⟩ = some (.int .u64 0) := by rw [cell_of_row wr _ _ _ _ _ hst.out.h0]; rfl
      have q1 : wr.frozen? ⟨w.heap.size, 1, none⟩ = false := frozen_of_row wr _ 1 _ _ hst.out.h0
      have r2 : wr.cell? ⟨w.heap.size, 2, none⟩ = some (.int .u64 0) := by rw [cell_of_row wr _ _ _ _ _ hst.out.h0]; rfl
      have q2 : wr.frozen? ⟨w.heap.size, 2, none⟩ = false := frozen_of_row wr _ 2 _ _ hst.out.h0
      have r3 : wr.cell? ⟨w.heap.size, 3, none⟩ = some (.int .u64 0) := by rw [cell_of_row wr _ _ _ _ _ hst.out.h0]; rfl
      have q3 : wr.frozen? ⟨w.heap.size, 3, none⟩ = false := frozen_of_row wr _ 3 _ _ hst.out.h0
      have HS4 := hid (set4 (y0 := .int .u64 (pairW v1.a v1.b)) (y1 := .int .u64 (pairW v1.c v1.d)) (y2 := .int .u64 (pairW v1.e v1.f)) (y3 := .int .u64 (pairW v1.g v1.h)) hst.out.h0)
      have HFR := hid hst.out.fr
      clear hv1 hst hrp hkl hk'
      go_wp2_with fail
      obtain ⟨h4, f4⟩ := HS4.out
      obtain ⟨wz, hwz⟩ : ∃ wz, (((wr.setCell ⟨w.heap.size, 0, none⟩ (.int .u64 (pairW v1.a v1.b))).setCell ⟨w.heap.size, 1, none⟩ (.int .u64 (pairW v1.c v1.d))).setCell ⟨w.heap.size, 2, none⟩ (.int .u64 (pairW v1.e v1.f))).setCell ⟨w.heap.size, 3, none⟩ (.int .u64 (pairW v1.g v1.h)) = wz := ⟨_, rfl⟩
      rw [hwz] at h4 f4
      have hfz : Frm [] w wz := HFR.out.trans f4 (fun i hi hl => by simp at hi; omega)
      have g0 : wz.cell? ⟨w.heap.size, 0, none⟩ = some (.int .u64 (pairW v1.a v1.b)) := by rw [cell_of_row wz _ _ _ _ _ h4]; rfl
      have g1 : wz.cell? ⟨w.heap.size, 1, none⟩ = some (.int .u64 (pairW v1.c v1.d)) := by rw [cell_of_row wz _ _ _ _ _ h4]; rfl
      have g2 : wz.cell? ⟨w.heap.size, 2, none⟩ = some (.int .u64 (pairW v1.e v1.f)) := by rw [cell_of_row wz _ _ _ _ _ h4]; rfl
      have g3 : wz.cell? ⟨w.heap.size, 3, none⟩ = some (.int .u64 (pairW v1.g v1.h)) := by rw [cell_of_row wz _ _ _ _ _ h4]; rfl
      clear h4 f4 HS4 r0 r1 r2 r3 q0 q1 q2 q3
      unfold pairW at hwz
      rw [hwz]
      clear hwz
      refine bodyPost_ret (v := .agg #[.int .u64 (pairW v1.a v1.b), .int .u64 (pairW v1.c v1.d), .int .u64 (pairW v1.e v1.f), .int .u64 (pairW v1.g v1.h)]) (by simp [results, Tryz.results85, go_sem, g0, g1, g2, g3]) rfl ⟨?_, hfz⟩
      rw [← HRES.out]
      rfl
end
section
open Go.RowKit
set_option maxRecDepth 100000
set_option maxHeartbeats 1600000 in
theorem refOf_fl (p : Option Addr) (n c : Nat) (zs : List Int) (w : World) (hn : zs.length = n) (hnb : n + 100 ≤ 140737488355328) (hrd : Rd w p zs) (hb : ∀ z ∈ zs, 0 ≤ z ∧ z < 256) :
    Calls Tryz.prog 39 #[.int .i64 1, .slice p n c] w fun e w' => e = .returned (.tuple #[.agg (fletch zs).arr, .int .i64 0]) ∧ Frm [] w w' := by
  have hfa : Frm [] w (w.alloc (.cells #[.int .u64 0, .int .u64 0, .int .u64 0, .int .u64 0] 29)) := (Frm.refl _ _).alloc _
  have HA := hid (heap_alloc_new w (.cells #[.int .u64 0, .int .u64 0, .int .u64 0, .int .u64 0] 29))
  have HSH := hid (refFl_any p n c zs (w.alloc (.cells #[.int .u64 0, .int .u64 0, .int .u64 0, .int .u64 0] 29)) hn (by omega) (hrd.kept hfa (by simp)) hb)
  have HFA := hid hfa
  clear hrd hb hn hfa
  go_enter Tryz.func39, Tryz.ntmps39
  go_wp2_with fail
  refine HSH.out.mono ?_
  rintro e w6 ⟨rfl, hf6⟩
  have hco := hf6.heap HA.out (by simp)
  obtain ⟨S, hS⟩ : ∃ S, fletch zs = S := ⟨_, rfl⟩
  rw [hS]
  have HS := hid hS
  unfold S4.arr
  obtain ⟨sb, hsb⟩ : ∃ sb, w.heap.size = sb := ⟨_, rfl⟩
  have HSB := hid hsb
  rw [hsb] at hco ⊢
  have e0 : w6.cell? ⟨sb, 0, none⟩ = some (.int .u64 0) := by rw [cell_of_row w6 _ _ _ _ _ hco]; rfl
  have z0 : w6.frozen? ⟨sb, 0, none⟩ = false := frozen_of_row w6 _ 0 _ _ hco
  have e1 : w6.cell? ⟨sb, 1, none⟩ = some (.int .u64 0) := by rw [cell_of_row w6 _ _ _ _ _ hco]; rfl
  have z1 : w6.frozen? ⟨sb, 1, none⟩ = false := frozen_of_row w6 _ 1 _ _ hco
  have e2 : w6.cell? ⟨sb, 2, none⟩ = some (.int .u64 0) := by rw [cell_of_row w6 _ _ _ _ _ hco]; rfl
  have z2 : w6.frozen? ⟨sb, 2, none⟩ = false := frozen_of_row w6 _ 2 _ _ hco
  have e3 : w6.cell? ⟨sb, 3, none⟩ = some (.int .u64 0) := by rw [cell_of_row w6 _ _ _ _ _ hco]; rfl
  have z3 : w6.frozen? ⟨sb, 3, none⟩ = false := frozen_of_row w6 _ 3 _ _ hco
  have HS4 := hid (set4 (y0 := .int .u64 S.a) (y1 := .int .u64 S.b) (y2 := .int .u64 S.c) (y3 := .int .u64 S.d) hco)
  have HF6 := hid (HFA.out.trans hf6 (by simp))
  clear hco hf6 hS hsb HSH HA
  go_wp2_with fail
  obtain ⟨h4, f4⟩ := HS4.out
  obtain ⟨wz, hwz⟩ : ∃ wz, (((w6.setCell ⟨sb, 0, none⟩ (.int .u64 S.a)).setCell ⟨sb, 1, none⟩ (.int .u64 S.b)).setCell ⟨sb, 2, none⟩ (.int .u64 S.c)).setCell ⟨sb, 3, none⟩ (.int .u64 S.d) = wz := ⟨_, rfl⟩
  rw [hwz] at h4 f4 ⊢
  have g0 : wz.cell? ⟨sb, 0, none⟩ = some (.int .u64 S.a) := by rw [cell_of_row wz _ _ _ _ _ h4]; rfl
  have g1 : wz.cell? ⟨sb, 1, none⟩ = some (.int .u64 S.b) := by rw [cell_of_row wz _ _ _ _ _ h4]; rfl
  have g2 : wz.cell? ⟨sb, 2, none⟩ = some (.int .u64 S.c) := by rw [cell_of_row wz _ _ _ _ _ h4]; rfl
  have g3 : wz.cell? ⟨sb, 3, none⟩ = some (.int .u64 S.d) := by rw [cell_of_row wz _ _ _ _ _ h4]; rfl
  refine bodyPost_ret (v := .tuple #[.agg #[.int .u64 S.a, .int .u64 S.b, .int .u64 S.c, .int .u64 S.d], .int .i64 0]) (by simp [results, Tryz.results39, go_sem, g0, g1, g2, g3]) rfl ⟨by rw [HS.out]; rfl, HF6.out.trans f4 (fun i hi hl => by simp at hi; have := HSB.out; omega)⟩
set_option maxHeartbeats 1600000 in
theorem refOf_sha (p : Option Addr) (n c : Nat) (zs : List Int) (w : World) (hn : zs.length = n) (hp : zs = [] → p = none → c = 0) (hnb : n + 100 ≤ 140737488355328) (hrd : Rd w p zs) (hb : ∀ z ∈ zs, 0 ≤ z ∧ z < 256) (hv : Vars w) :
    Calls Tryz.prog 39 #[.int .i64 2, .slice p n c] w fun e w' => e = .returned (.tuple #[.agg (shaD zs).arr, .int .i64 0]) ∧ Frm [] w w' := by
  have hfa : Frm [] w (w.alloc (.cells #[.int .u64 0, .int .u64 0, .int .u64 0, .int .u64 0] 29)) := (Frm.refl _ _).alloc _
  have HA := hid (heap_alloc_new w (.cells #[.int .u64 0, .int .u64 0, .int .u64 0, .int .u64 0] 29))
  have HSH := hid (refSha_any p n c zs (w.alloc (.cells #[.int .u64 0, .int .u64 0, .int .u64 0, .int .u64 0] 29)) hn hp hnb (hrd.kept hfa (by simp)) hb (hv.kept hfa))
  have HFA := hid hfa
  clear hrd hb hn hfa hp hv
  go_enter Tryz.func39, Tryz.ntmps39
  go_wp2_with fail
  refine HSH.out.mono ?_
  rintro e w6 ⟨rfl, hf6⟩
  have hco := hf6.heap HA.out (by simp)
  obtain ⟨S, hS⟩ : ∃ S, shaD zs = S := ⟨_, rfl⟩
  rw [hS]
  have HS := hid hS
  unfold S4.arr
  obtain ⟨sb, hsb⟩ : ∃ sb, w.heap.size = sb := ⟨_, rfl⟩
  have HSB := hid hsb
  rw [hsb] at hco ⊢
  have e0 : w6.cell? ⟨sb, 0, none⟩ = some (.int .u64 0) := by rw [cell_of_row w6 _ _ _ _ _ hco]; rfl
  have z0 : w6.frozen? ⟨sb, 0, none⟩ = false := frozen_of_row w6 _ 0 _ _ hco
  have e1 : w6.cell? ⟨sb, 1, none⟩ = some (.int .u64 0) := by rw [cell_of_row w6 _ _ _ _ _ hco]; rfl
  have z1 : w6.frozen? ⟨sb, 1, none⟩ = false := frozen_of_row w6 _ 1 _ _ hco
  have e2 : w6.cell? ⟨sb, 2, none⟩ = some (.int .u64 0) := by rw [cell_of_row w6 _ _ _ _ _ hco]; rfl
  have z2 : w6.frozen? ⟨sb, 2, none⟩ = false := frozen_of_row w6 _ 2 _ _ hco
  have e3 : w6.cell? ⟨sb, 3, none⟩ = some (.int .u64 0) := by rw [cell_of_row w6 _ _ _ _ _ hco]; rfl
  have z3 : w6.frozen? ⟨sb, 3, none⟩ = false := frozen_of_row w6 _ 3 _ _ hco
  have HS4 := hid (set4 (y0 := .int .u64 S.a) (y1 := .int .u64 S.b) (y2 := .int .u64 S.c) (y3 := .int .u64 S.d) hco)
  have HF6 := hid (HFA.out.trans hf6 (by simp))
  clear hco hf6 hS hsb HSH HA
  go_wp2_with fail
  obtain ⟨h4, f4⟩ := HS4.out
  obtain ⟨wz, hwz⟩ : ∃ wz, (((w6.setCell ⟨sb, 0, none⟩ (.int .u64 S.a)).setCell ⟨sb, 1, none⟩ (.int .u64 S.b)).setCell ⟨sb, 2, none⟩ (.int .u64 S.c)).setCell ⟨sb, 3, none⟩ (.int .u64 S.d) = wz := ⟨_, rfl⟩
  rw [hwz] at h4 f4 ⊢
  have g0 : wz.cell? ⟨sb, 0, none⟩ = some (.int .u64 S.a) := by rw [cell_of_row wz _ _ _ _ _ h4]; rfl
  have g1 : wz.cell? ⟨sb, 1, none⟩ = some (.int .u64 S.b) := by rw [cell_of_row wz _ _ _ _ _ h4]; rfl
  have g2 : wz.cell? ⟨sb, 2, none⟩ = some (.int .u64 S.c) := by rw [cell_of_row wz _ _ _ _ _ h4]; rfl
  have g3 : wz.cell? ⟨sb, 3, none⟩ = some (.int .u64 S.d) := by rw [cell_of_row wz _ _ _ _ _ h4]; rfl
  refine bodyPost_ret (v := .tuple #[.agg #[.int .u64 S.a, .int .u64 S.b, .int .u64 S.c, .int .u64 S.d], .int .i64 0]) (by simp [results, Tryz.results39, go_sem, g0, g1, g2, g3]) rfl ⟨by rw [HS.out]; rfl, HF6.out.trans f4 (fun i hi hl => by simp at hi; have := HSB.out; omega)⟩
set_option maxHeartbeats 1600000 in
theorem refOf_no (kind : Int) (p : Option Addr) (n c : Nat) (w : World) (h1 : kind ≠ 1) (h2 : kind ≠ 2) :
    Calls Tryz.prog 39 #[.int .i64 kind, .slice p n c] w fun e w' => e = .returned (.tuple #[.agg Z4.arr, .int .i64 20]) ∧ Frm [] w w' := by
  have HA := hid (heap_alloc_new w (.cells #[.int .u64 0, .int .u64 0, .int .u64 0, .int .u64 0] 29))
  have HFA : Hid (Frm [] w (w.alloc (.cells #[.int .u64 0, .int .u64 0, .int .u64 0, .int .u64 0] 29))) := hid ((Frm.refl _ _).alloc _)
  have b1 : (kind == 1) = false := by simpa using h1
  have b2 : (kind == 2) = false := by simpa using h2
  go_enter Tryz.func39, Tryz.ntmps39
  go_wp2_with fail
  go_returns
  exact ⟨rfl, HFA.out⟩
theorem refOf_any (kind : Int) (p : Option Addr) (n c : Nat) (zs : List Int) (w : World) (hn : zs.length = n) (hp : zs = [] → p = none → c = 0) (hnb : n + 100 ≤ 140737488355328) (hrd : Rd w p zs) (hb : ∀ z ∈ zs, 0 ≤ z ∧ z < 256) (hv : Vars w) :
    Calls Tryz.prog 39 #[.int .i64 kind, .slice p n c] w fun e w' => e = .returned (.tuple #[.agg (ofS kind zs).1.arr, .int .i64 (ofS kind zs).2]) ∧ Frm [] w w' := by
  unfold ofS
  by_cases h1 : kind = 1
  · subst h1
    simp only [if_true]
    exact refOf_fl p n c zs w hn hnb hrd hb
  by_cases h2 : kind = 2
  · subst h2
    simp only [if_true, if_neg h1]
    exact refOf_sha p n c zs w hn hp hnb hrd hb hv
  simp only [if_neg h1, if_neg h2]
  exact refOf_no kind p n c w h1 h2
end
section
open Go.RowKit
set_option maxRecDepth 100000
theorem Rd.low {w : World} {p : Option Addr} {zs : List Int} (h : Rd w p zs) (hne : zs ≠ []) : ∀ k ∈ blk p, k < w.heap.size := by
  rcases h with h | ⟨g, o, rfl, hc⟩
  · exact absurd h hne
  · intro k hk
    simp [blk] at hk
    subst hk
    exact World.block_lt_of_cell? w _ (hc 0 (by cases zs with | nil => exact absurd rfl hne | cons _ _ => simp))
theorem Own.low {w : World} {E : TypeId} {p : Option Addr} {n c : Nat} {zs : List Int} (h : Own w E (.slice p n c) zs) : ∀ k ∈ blk p, k < w.heap.size := by
  obtain ⟨p', c', he, _, _, hh, _⟩ := h.shape
  simp only [Value.slice.injEq] at he
  obtain ⟨rfl, _, rfl⟩ := he
  intro k hk
  cases p with
  | none => simp [blk] at hk
  | some a => simp [blk] at hk; subst hk; exact (hh a rfl).2.2
theorem Keeps.cell {A : List Nat} {w w' : World} (h : Keeps A w w') {p : Addr} (hp : p.block ∈ A) : w'.cell? p = w.cell? p := World.cell?_of_block (h _ hp)
end
section
section
set_option maxRecDepth 100000
open Go.ChangeShapes Go.WideShapes Go.ChangeAt Go.RowKit Go.Deep
theorem own : ownKnob Tryz.prog.godebug = none := by kernel_rfl
theorem laidOut : laidOutB Tryz.prog = true := by kernel_rfl
theorem u8_bd {x : Int} (h : (Lit.int .u8 x).wf = true) : 0 ≤ x ∧ x < 256 := by
  simp [Lit.wf, IntKind.min, IntKind.max, IntKind.signed, IntKind.bits] at h; omega
/-- A slice of bytes that came in: the bytes that it shows. -/
def Came (w : World) (p : Option Addr) (len cap : Nat) : Prop := ∃ ns : List Int, ns.length = len ∧ Rd w p ns ∧ (∀ z ∈ ns, 0 ≤ z ∧ z < 256) ∧ (ns = [] → p = none → cap = 0) ∧ len ≤ cap ∧ cap ≤ 9223372036854775807
theorem spot_of_cell {w : World} {x : Addr} {v : Value} (h : w.cell? x = some v) : x.spot = none := by
  unfold World.cell? at h
  split at h
  · by_cases hs : x.spot.isSome = true
    · simp [hs] at h
    · simpa using hs
  · cases h
theorem came_of {w : World} {x : Addr} {len cap : Nat} {zs : List Int} (hl : len ≤ cap) (hm : cap ≤ maxLen) (hz : zs.length = cap) (hcell : ∀ i, i < zs.length → w.cell? (x.add i) = some (.int .u8 (zs.getD i 0))) (hwf : ∀ n ∈ zs, (Lit.int .u8 n).wf = true) : Came w (some x) len cap := by
  refine ⟨zs.take len, by simp; omega, ?_, fun z hz => u8_bd (hwf z (List.mem_of_mem_take hz)), by simp, hl, by unfold maxLen at hm; omega⟩
  by_cases h0 : len = 0
  · exact Or.inl (by simp [h0])
  · have hs : x.spot = none := spot_of_cell (by have := hcell 0 (by omega); simpa [Addr.add] using this)
    obtain ⟨g, o, sp⟩ := x
    simp only at hs
    subst hs
    refine Or.inr ⟨g, o, rfl, fun i hi => ?_⟩
    simp at hi
    have h := hcell i (by omega)
    rw [show (⟨g, o, none⟩ : Addr).add i = ⟨g, o + i, none⟩ by unfold Addr.add; split <;> simp_all] at h
    have h2 : i < zs.length := by omega
    rw [h]; simp [List.getD, hi, h2]
section
variable {H : Type} {enc : TypeId × Value → H} {W : World}
/-- A slice of bytes, wherever it stands. -/
theorem came_cells {fuel : Nat} {cs : List Value} {x : DataW H × List MemPlace} (h : DataW.trod enc Tryz.prog W 0 (fun _ => true) true fuel 24 cs = some x) :
    ∃ p len cap, cs = [.slice p len cap] ∧ Came W p len cap := by
  rcases open_ints Tryz.underlying24 Tryz.underlying5 (by kernel_rfl) h with ⟨hcs, _⟩ | ⟨x, l, c, zs, hcs, _, hl, hm, hz, _, hcell, hwz⟩
  · exact ⟨none, 0, 0, hcs, [], rfl, Or.inl rfl, by simp, fun _ _ => rfl, by omega, by omega⟩
  · exact ⟨some x, l, c, hcs, came_of hl hm (by simpa using hz) hcell hwz⟩
theorem add_of {x : Addr} (hs : x.spot = none) (i : Nat) : x.add i = ⟨x.block, x.off + i, none⟩ := by
  obtain ⟨g, o, sp⟩ := x
  simp only at hs
  subst hs
  unfold Addr.add; split <;> simp_all
end
theorem Came.kept {w w' : World} {p : Option Addr} {len cap : Nat} (h : Came w p len cap) (hf : Frm [] w w') : Came w' p len cap := by
  obtain ⟨ns, h1, h2, h3⟩ := h
  exact ⟨ns, h1, h2.kept hf (by simp), h3⟩
end
section
set_option maxRecDepth 100000
open Go.ChangeShapes Go.WideShapes Go.ChangeAt Go.RowKit Go.Deep
theorem bytesU : Tryz.prog.bytesOf 5 = 1 := by kernel_rfl
section
variable {H : Type} {enc : TypeId × Value → H} {W : World} {P : Program}
theorem mem_all {P : Program} {e : TypeId} {l : List (DataW H)} {d : DataW H} (hd : d ∈ l) {n : Nat} (hn : n ∈ d.weights P e) : n ∈ DataW.weightsAll P e l := by
  induction l with
  | nil => cases hd
  | cons a l ih =>
    simp only [DataW.weightsAll, List.mem_append]
    rcases List.mem_cons.1 hd with rfl | h
    · exact Or.inl hn
    · exact Or.inr (ih h)
theorem came_len {fuel : Nat} {cs : List Value} {x : DataW H × List MemPlace} (h : DataW.trod enc Tryz.prog W 0 (fun _ => true) true fuel 24 cs = some x) (hw : ∀ n ∈ x.1.weights Tryz.prog 24, n ≤ reachBytes) (p : Option Addr) (len cap : Nat) (he : cs = [.slice p len cap]) : len ≤ 140737488351232 := by
  rcases open_ints Tryz.underlying24 Tryz.underlying5 (by kernel_rfl) h with ⟨hcs, _⟩ | ⟨a, l, c, zs, hcs, _, hl, hm, hz, hxx, _, _⟩
  · rw [hcs] at he
    simp at he
    omega
  · rw [hcs] at he
    simp only [List.cons.injEq, Value.slice.injEq, and_true] at he
    obtain ⟨_, rfl, _⟩ := he
    have := hw ((zs.take l).length + (zs.drop l).length) (by
      rw [hxx]
      simp [DataW.weights, Tryz.underlying24, bytesU, lits])
    simp only [List.length_take, List.length_drop, reachBytes] at this
    simp only [if_true] at hz
    omega
end
end
end
section
open Go.RowKit
set_option maxRecDepth 100000
theorem FreshW.other {w0 w w' : World} {b : Nat} {room : Int} {s : List Int × Int} {A S : List Nat} (h : FreshW w0 w b room s A) (hf : Frm S w w') (hS : ∀ k ∈ S, k ∈ A ∧ w0.heap.size ≤ k) : FreshW w0 w' b room s A := by
  obtain ⟨fp, h1, h2, h3, h4⟩ := h
  refine ⟨fp, h1.kept hf (fun k hk hs => (h4 k (hS k hs).1).1 hk), h2.trans hf (fun i hi hlt => absurd (hS i hi).2 (Nat.not_le.2 hlt)), h3, fun k hk => ⟨(h4 k hk).1, Nat.lt_of_lt_of_le (h4 k hk).2 hf.size⟩⟩
theorem IsR.keeps {w w' : World} {b g pos : Nat} {err : Int} {bs : List Int} (h : IsR w b g bs pos err) (hk : Keeps [b, g] w w') : IsR w' b g bs pos err :=
  ⟨(hk b (by simp)).trans h.1, (hk g (by simp)).trans h.2.1, h.2.2⟩
end
section
open Go.RowKit
set_option maxRecDepth 100000
theorem step_appB {P : Program} {w : World} {ops : Array Oper} {o : Oper} {a : Act} {K : Act → World → Prop} {Q : Exit → Act → World → Prop} {Z : Prop} (hgd : o.guard = none) (sl x : Operand) (t : TypeId)
    (ho : o.op = .call { callee := .builtin .append, args := #[sl, x], argTypes := #[t, t] })
    (E : TypeId) (ht : P.underlying t = some (.slice E)) (hI : (P.info? E).map (fun i => (i.zero, i.size, i.bytes)) = some (some (.int .u8 0), 1, 1))
    (p0 : Option Addr) (n0 c0 : Nat) (zs : List Int) (hs : a.eval sl = .slice p0 n0 c0) (hn0 : n0 = zs.length) (hown : Own w E (.slice p0 zs.length c0) zs)
    (p : Option Addr) (n c : Nat) (ns : List Int) (hx : a.eval x = .slice p n c) (hn : n = ns.length) (hp : ns = [] → p = none → c = 0) (hrd : Rd w p ns) (hsz : zs.length + ns.length ≤ 140737488355328)
    (h : ∀ xs p2 c2 w', Hid (xs = zs ++ ns) → Hid (Own w' E (.slice p2 xs.length c2) xs) → Hid (Frm (blk p0) w w') → Hid (∀ k ∈ blk p2, k ∈ blk p0 ∨ w.heap.size ≤ k) → K (a.put o.dst (.slice p2 xs.length c2)) w') :
    if Region.wanted o (yielded ops a.tmps) = true then Oper.wp P o a w K Q else Z := by
  have hw : Region.wanted o (yielded ops a.tmps) = true := by simp [Region.wanted, hgd]
  rw [if_pos hw]
  subst hn
  subst hn0
  obtain ⟨v', w', hrun, h1, h2, h3⟩ := run_appB (P := P) (w := w) t o.type E ht hI _ zs hown p c ns hp hrd hsz
  obtain ⟨xs, hxs⟩ : ∃ xs, xs = zs ++ ns := ⟨_, rfl⟩
  rw [← hxs] at h1
  obtain ⟨p2, c2, rfl, _, _, _, hb⟩ := h1.shape
  rw [hb, own_blk] at h3
  rw [own_blk] at h2
  unfold Oper.wp
  simp [execOp, ho, resolve, invoke, builtin, hs, hx, hrun, Result.andThen]
  exact h xs p2 c2 w' hxs h1 h2 h3
end
end Go.Proofs.YtajfjkfnmmfhmaaGreatDoor
