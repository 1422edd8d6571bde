/- The document's Sha. -/
import Derived.Test.YtajfjkfnmmfhmaaGreatDoorQcaf
import Derived.Test.YtajfjkfnmmfhmaaGreatDoorQcan
import Derived.Test.YtajfjkfnmmfhmaaGreatDoorQcab
import Derived.Test.YtajfjkfnmmfhmaaGreatDoorRows
import Derived.ProofKit
import Derived.OpenShut
import Derived.ChangeOld
import Derived.Deep.Slices
import Derived.SizedLaws
import Derived.Test.YtajfjkfnmmfhmaaGreatDoorQcaa
import Derived.Test.YtajfjkfnmmfhmaaGreatDoorQcac
import Derived.WalkKit
import Derived.WalkSpells
import Derived.WalkLawsBesides
import Derived.Handy
import Derived.Deep.OwnRows
import Derived.Laws.BytesArg
import Derived.Laws.CopyOwn
import Derived.Lib.AppendStr
import Derived.Test.YtajfjkfnmmfhmaaGreatDoorQcaj
namespace Go.Proofs.YtajfjkfnmmfhmaaGreatDoor
set_option maxRecDepth 100000
set_option maxHeartbeats 25600000
section
open Go.RowKit
structure Vars (w : World) : Prop where
  r : ∀ t, t < 64 → w.cell? ⟨1, t, none⟩ = some (.int .u32 (zA PR t))
  f : ∀ t, t < 8 → w.cell? ⟨0, t, none⟩ = H0.arr[t]?
theorem Vars.kept {w w' : World} (h : Vars w) (hf : Frm [] w w') : Vars w' :=
  ⟨fun t ht => (hf.cell (p := ⟨1, t, none⟩) (World.block_lt_of_cell? w _ (h.r t ht)) (by simp)).trans (h.r t ht),
   fun t ht => (hf.cell (p := ⟨0, t, none⟩) (by
     have h1 := h.f t ht
     rw [show H0.arr[t]? = some H0.arr[t] from Array.getElem?_eq_getElem ht] at h1
     exact World.block_lt_of_cell? w _ h1) (by simp)).trans (h.f t ht)⟩
theorem cut_mid (g n c a : Nat) (h : a + 64 ≤ n) (hc : n ≤ c) (W : World) : (Instr.sliceAt 24 (.slice (some ⟨g, 0, none⟩) n c) (some (.int .i64 (a : Int))) (some (.int .i64 ((a : Int) + 64))) none).run Tryz.prog W = .ok (.slice (some ⟨g, a, none⟩) 64 (c - a)) W := by
  obtain ⟨i, hi, hz, h1, h2⟩ := info_parts (infoB)
  rw [run_sliceAt_slice (h := elem_of Tryz.underlying24), run_slice_lh W 24 _ _ _ (elem_of Tryz.underlying24) .i64 .i64 _ _ (by omega) (by omega) (by omega), show Tryz.prog.elem 24 = 5 by simp [Program.elem, Tryz.underlying24]]
  have hs : (sizeOf 5).run Tryz.prog W = .ok 1 W := by simp [sizeOf, typeInfo, hi, h1, Result.andThen]
  rw [hs]
  have e1 : ((a : Int) + 64).toNat = a + 64 := by omega
  have e2 : ¬ c = a := by omega
  simp [Result.andThen, sliced, e1, e2, Addr.add]
  exact fun h => h.symm
theorem lenL_ok (n t : Nat) : ∀ z ∈ lenL n t, 0 ≤ z ∧ z < 256 := by
  induction t with
  | zero => intro z hz; simp [lenL] at hz
  | succ t ih =>
    intro z hz
    rcases List.mem_append.1 hz with h | h
    · exact ih z h
    · rw [List.mem_singleton.1 h]; unfold lenC; omega
theorem pad_ok {zs : List Int} (hb : ∀ z ∈ zs, 0 ≤ z ∧ z < 256) : ∀ z ∈ padD zs, 0 ≤ z ∧ z < 256 := by
  intro z hz
  unfold padD at hz
  rcases List.mem_append.1 hz with hz | hz
  · rcases List.mem_append.1 hz with hz | hz
    · rcases List.mem_append.1 hz with hz | hz
      · exact hb z hz
      · rw [List.mem_singleton.1 hz]; omega
    · rw [List.eq_of_mem_replicate hz]; omega
  · exact lenL_ok _ _ z hz
theorem rd_mid {w : World} {g : Nat} {P : List Int} (h : Rd w (some ⟨g, 0, none⟩) P) (a : Nat) : Rd w (some ⟨g, a, none⟩) ((P.drop a).take 64) := by
  rcases h with h | ⟨g', o, e, hc⟩
  · subst h; exact Or.inl (by simp)
  · simp only [Option.some.injEq, Addr.mk.injEq, and_true] at e
    obtain ⟨rfl, rfl⟩ := e
    refine Or.inr ⟨g, a, rfl, fun i hi => ?_⟩
    rw [List.length_take, List.length_drop] at hi
    have h1 := hc (a + i) (by omega)
    rw [Nat.zero_add] at h1
    rw [h1]
    congr 2
    have h2 := at_take (P.drop a) 64 i (by omega)
    rw [at_drop] at h2
    exact h2.symm
theorem pad_mod (zs : List Int) : (padD zs).length % 64 = 0 ∧ 64 ≤ (padD zs).length := by
  rw [padD_length]; unfold gapN; omega
structure StS (w0 w : World) (x y z : Nat) (v r : V8) (ws : List Int) : Prop where
  j : StJ w0 w x v
  hz : w.heap[z]? = some (.cells r.arr 124 (0, 0))
  hw : w.heap[y]? = some (.cells (wv ws).toArray 123 (0, 0))
  len : ws.length = 64
theorem StS.drewN {w0 w : World} {x y z : Nat} {v r : V8} {ws : List Int} (h : StS w0 w x y z v r ws) (n : Nat) : StS w0 (w.drewN n) x y z v r ws :=
  have f : Frm [] w (w.drewN n) := (Frm.refl [] w).drewN n
  ⟨⟨f.heap h.j.h0 (by simp), f.heap h.j.h1 (by simp), h.j.fr.drewN n⟩, f.heap h.hz (by simp), f.heap h.hw (by simp), h.len⟩
theorem StS.at {w0 w : World} {x y z : Nat} {v r : V8} {ws : List Int} (h : StS w0 w x y z v r ws) (t : Nat) (ht : t < 64) : w.cell? ⟨y, t, none⟩ = some (.int .u32 (zA ws t)) := by
  rw [cell_of_row w _ _ _ _ _ h.hw]
  have := h.len
  simp [wv, zA, List.getD_eq_getElem?_getD, show t < ws.length by omega]
theorem StS.e {w0 w : World} {x y z : Nat} {v r : V8} {ws : List Int} (h : StS w0 w x y z v r ws) :
    w.cell? ⟨z, 0, none⟩ = some (.int .u32 r.a) ∧ w.cell? ⟨z, 1, none⟩ = some (.int .u32 r.b) ∧ w.cell? ⟨z, 2, none⟩ = some (.int .u32 r.c) ∧ w.cell? ⟨z, 3, none⟩ = some (.int .u32 r.d) ∧ w.cell? ⟨z, 4, none⟩ = some (.int .u32 r.e) ∧ w.cell? ⟨z, 5, none⟩ = some (.int .u32 r.f) ∧ w.cell? ⟨z, 6, none⟩ = some (.int .u32 r.g) ∧ w.cell? ⟨z, 7, none⟩ = some (.int .u32 r.h) := by
  refine ⟨?_, ?_, ?_, ?_, ?_, ?_, ?_, ?_⟩ <;> (rw [cell_of_row w _ _ _ _ _ h.hz]; rfl)
def V8.l (v : V8) : List Int := [v.a, v.b, v.c, v.d, v.e, v.f, v.g, v.h]
def addL (l r : List Int) : Nat → List Int
  | 0 => l
  | t + 1 => (addL l r t).set t ((zA (addL l r t) t + zA r t) % 4294967296)
theorem addL_all (v r : V8) : addL v.l r.l 8 = (addV v r).l := rfl
structure StZ (w0 w : World) (x z : Nat) (l r : List Int) : Prop where
  h0 : w.heap[x]? = some (.cells #[.int .u64 0, .int .u64 0, .int .u64 0, .int .u64 0] 29 (0, 0))
  h1 : w.heap[x + 1]? = some (.cells (wv l).toArray 124 (0, 0))
  hz : w.heap[z]? = some (.cells (wv r).toArray 124 (0, 0))
  ll : l.length = 8
  rl : r.length = 8
  fr : Frm [] w0 w
theorem StZ.drew {w0 w : World} {x z : Nat} {l r : List Int} (h : StZ w0 w x z l r) : StZ w0 w.drew x z l r := ⟨h.h0, h.h1, h.hz, h.ll, h.rl, h.fr.drew⟩
theorem at_wv {w : World} {b : Nat} {T : TypeId} {l : List Int} (h : w.heap[b]? = some (.cells (wv l).toArray T (0, 0))) (t : Nat) (ht : t < l.length) : w.cell? ⟨b, t, none⟩ = some (.int .u32 (zA l t)) := by
  rw [cell_of_row w _ _ _ _ _ h]
  simp [wv, zA, List.getD_eq_getElem?_getD, ht]
theorem StZ.set {w0 w : World} {x z : Nat} {l r : List Int} (h : StZ w0 w x z l r) (hx : w0.heap.size ≤ x) (hne : x + 1 < z) (t : Nat) (u : Int) : StZ w0 (w.setCell ⟨x + 1, t, none⟩ (.int .u32 u)) x z (l.set t u) r ∧ Frm [x + 1] w (w.setCell ⟨x + 1, t, none⟩ (.int .u32 u)) := by
  have f : Frm [x + 1] w (w.setCell ⟨x + 1, t, none⟩ (.int .u32 u)) := (Frm.refl _ _).setCell _ _ (by simp)
  refine ⟨⟨f.heap h.h0 (by simp), ?_, f.heap h.hz (by simp; omega), by simp [h.ll], h.rl, h.fr.trans f (fun i hi hl => by simp at hi; omega)⟩, f⟩
  rw [heap_setCell_same w (x + 1) t _ _ _ h.h1]
  congr 2
  apply Array.ext'
  simp [wv, List.map_set]
theorem refSha_any (p : Option Addr) (n c : Nat) (zs : List Int) (w : World) (hn : zs.length = n) (hp : zs = [] → p = none → c = 0) (hnb : n + 100 ≤ 140737488355328) (hrd : Rd w p zs) (hb : ∀ z ∈ zs, 0 ≤ z ∧ z < 256) (hv : Vars w) :
    Calls Tryz.prog 85 #[.slice p n c] w fun e w' => e = .returned (.agg (shaD zs).arr) ∧ Frm [] w w' := by
  have hfa0 : Frm [] w (w.alloc (.cells #[.int .u64 0, .int .u64 0, .int .u64 0, .int .u64 0] 29)) := (Frm.refl _ _).alloc _
  obtain ⟨wa, hwa⟩ := eX (w.alloc (.cells #[.int .u64 0, .int .u64 0, .int .u64 0, .int .u64 0] 29))
  have hA0 : wa.heap[w.heap.size]? = some (.cells #[.int .u64 0, .int .u64 0, .int .u64 0, .int .u64 0] 29 (0, 0)) := by rw [← hwa]; exact heap_alloc_new _ _
  rw [hwa] at hfa0
  have hva := hv.kept hfa0
  have HA0 := hid hA0
  have HFA := hid hfa0
  have HV := hid hva
  have g0 : wa.cell? ⟨0, 0, none⟩ = some (.int .u32 1779033703) := hva.f 0 (by omega)
  have g1 : wa.cell? ⟨0, 1, none⟩ = some (.int .u32 3144134277) := hva.f 1 (by omega)
  have g2 : wa.cell? ⟨0, 2, none⟩ = some (.int .u32 1013904242) := hva.f 2 (by omega)
  have g3 : wa.cell? ⟨0, 3, none⟩ = some (.int .u32 2773480762) := hva.f 3 (by omega)
  have g4 : wa.cell? ⟨0, 4, none⟩ = some (.int .u32 1359893119) := hva.f 4 (by omega)
  have g5 : wa.cell? ⟨0, 5, none⟩ = some (.int .u32 2600822924) := hva.f 5 (by omega)
  have g6 : wa.cell? ⟨0, 6, none⟩ = some (.int .u32 528734635) := hva.f 6 (by omega)
  have g7 : wa.cell? ⟨0, 7, none⟩ = some (.int .u32 1541459225) := hva.f 7 (by omega)
  have HRD := hid hrd
  have HZB := hid hb
  have HN := hid hn
  have HPC := hid hp
  have HW := hid hv
  have hsa : wa.heap.size = w.heap.size + 1 := by rw [← hwa]; simp
  clear hrd hb hn hp hv hva hfa0 hA0
  go_enter Tryz.func85, Tryz.ntmps85
  go_wp2_with fail
  obtain ⟨wb, hwb⟩ := eX (wa.alloc (.cells #[.int .u32 1779033703, .int .u32 3144134277, .int .u32 1013904242, .int .u32 2773480762, .int .u32 1359893119, .int .u32 2600822924, .int .u32 528734635, .int .u32 1541459225] 124))
  rw [hwb]
  have hfb : Frm [] wa wb := by rw [← hwb]; exact (Frm.refl _ _).alloc _
  have hB1 : wb.heap[w.heap.size + 1]? = some (.cells H0.arr 124 (0, 0)) := by rw [← hwb, ← hsa]; exact heap_alloc_new _ _
  have hsb : wb.heap.size = w.heap.size + 2 := by rw [← hwb]; simp [hsa]
  have HJ : Hid (StJ w wb w.heap.size H0) := hid ⟨hfb.heap HA0.out (by simp), hB1, HFA.out.trans hfb (by simp)⟩
  refine (padded_any p n c zs wb HN.out HPC.out hnb (HRD.out.kept HJ.out.fr (by simp))).mono ?_
  rintro e w2 ⟨q, d, rfl, ho, hbq, hf2⟩
  have hpm := pad_mod zs
  obtain ⟨p', c', he, hle, hnone, hsome, _⟩ := ho.shape
  simp only [Value.slice.injEq] at he
  obtain ⟨rfl, _, rfl⟩ := he
  cases q with
  | none => exact absurd (congrArg List.length (hnone rfl).1) (by rw [List.length_nil]; omega)
  | some a =>
  obtain ⟨ea, eb, _⟩ := hsome a rfl
  obtain ⟨g, o, s⟩ := a
  simp only at ea eb
  subst ea
  subst eb
  have hgx : w.heap.size + 2 ≤ g := by have := hbq g (by simp [blk]); omega
  have hord := ho.rd
  have HSD : Hid (∀ k, 64 * k = (padD zs).length → sumV (blksD H0 (padD zs) k) = shaD zs) := hid (fun k hk => by unfold shaD; congr 2; omega)
  have hPb : ∀ z ∈ padD zs, 0 ≤ z ∧ z < 256 := fun z hz => pad_ok HZB.out z hz
  obtain ⟨P, hP⟩ := eX (padD zs)
  rw [hP] at hpm hle hord HSD hPb ⊢
  obtain ⟨L, hL⟩ := eX (P.length)
  rw [hL] at hpm hle HSD ⊢
  have HL := hid hL
  have HPB := hid hPb
  have hLb : L ≤ 140737488355328 := by rw [← hL, ← hP, padD_length, HN.out]; unfold gapN; omega
  have HJ0 : Hid (StJ w w2 w.heap.size (blksD H0 P 0)) := hid ⟨hf2.heap HJ.out.h0 (by simp), hf2.heap HJ.out.h1 (by simp), HJ.out.fr.trans hf2 (by simp)⟩
  have HR0 := hid hord
  have HG := hid hgx
  have hm0 := hpm.1
  have HL64 := hid hpm.2
  clear hwa hP hPb hL hord hgx hbq hf2 hnone hsome ho hwb hfb hB1 hsb HJ g0 g1 g2 g3 g4 g5 g6 g7 hsa hpm HA0 HFA HV
  go_wp2_with fail
  go_loopw [5] (fun i wr => ∃ k : Nat, Hid (64 * k ≤ L) ∧ i = .int .i64 (64 * (k : Int)) ∧ Hid (StJ w wr w.heap.size (blksD H0 P k)) ∧ Hid (Rd wr (some ⟨g, 0, none⟩) P)) (fun i _ => L - (intOf i).toNat)
  case atStart => exact ⟨0, hid (by omega), rfl, HJ0, HR0⟩
  case round =>
    clear HJ0 HR0
    obtain ⟨k, hk, rfl, hst, hrp⟩ := hrel
    have hk' := hk.out
    by_cases hlt : 64 * (k : Int) < (L : Int)
    · have hcut : ∀ W : World, (Instr.sliceAt 24 (.slice (some ⟨g, 0, none⟩) L d) (some (.int .i64 (64 * (k : Int)))) (some (.int .i64 (64 * (k : Int) + 64))) none).run Tryz.prog W = .ok (.slice (some ⟨g, 64 * k, none⟩) 64 (d - 64 * k)) W := fun W => by
        have h := cut_mid g L d (64 * k) (by omega) hle W
        rwa [show ((64 * k : Nat) : Int) = 64 * (k : Int) by omega] at h
      have hcut2 : ∀ W : World, (Instr.slice 24 (.slice (some ⟨g, 0, none⟩) L d) (some (.int .i64 (64 * (k : Int)))) (some (.int .i64 (64 * (k : Int) + 64))) none).run Tryz.prog W = .ok (.slice (some ⟨g, 64 * k, none⟩) 64 (d - 64 * k)) W := fun W => by rw [← run_sliceAt_slice (h := elem_of Tryz.underlying24)]; exact hcut W
      have k0 : IntKind.i64.wrap (64 * (k : Int) + 64) = 64 * (k : Int) + 64 := IntWalk.i64_in _ (by omega)
      have HWD := hid (words_any (some ⟨g, 64 * k, none⟩) 64 (d - 64 * k) ((P.drop (64 * k)).take 64) wr (by rw [List.length_take, List.length_drop, HL.out]; omega) rfl (rd_mid hrp.out (64 * k)) (fun z hz => HPB.out z (List.mem_of_mem_drop (List.mem_of_mem_take hz))))
      go_wp2_with fail
      refine HWD.out.mono ?_
      rintro e w3 ⟨y, rfl, hsw⟩
      have HR3 := hid (hrp.out.kept hsw.fr (by simp))
      have HJ3 : Hid (StJ w w3 w.heap.size (blksD H0 P k)) := hid ⟨hsw.fr.heap hst.out.h0 (by simp), hsw.fr.heap hst.out.h1 (by simp), hst.out.fr.trans hsw.fr (by simp)⟩
      have hbn : blockV (blksD H0 P k) ((P.drop (64 * k)).take 64) = blksD H0 P (k + 1) := rfl
      unfold blockV at hbn
      have HW3 := hid hsw.h2
      have HWL := hid hsw.len
      obtain ⟨ws, hws⟩ := eX (wB (wA ((P.drop (64 * k)).take 64) 16) 48)
      obtain ⟨v, hv⟩ := eX (blksD H0 P k)
      rw [hws] at hbn HW3 HWL
      rw [hv] at hbn HJ3
      have HBN := hid hbn
      obtain ⟨e0, e1, e2, e3, e4, e5, e6, e7⟩ := HJ3.out.e
      clear hsw hbn hws hv hst hrp HWD hcut hcut2 k0
      go_wp2_with fail
      have hf4 : Frm [] w3 (w3.alloc (.cells v.arr 124)) := (Frm.refl _ _).alloc _
      have HS0 : Hid (StS w (w3.alloc (.cells v.arr 124)) w.heap.size y w3.heap.size v v ws) := hid ⟨⟨hf4.heap HJ3.out.h0 (by simp), hf4.heap HJ3.out.h1 (by simp), HJ3.out.fr.trans hf4 (by simp)⟩, heap_alloc_new _ _, hf4.heap HW3.out (by simp), HWL.out⟩
      have HR4 := hid (HR3.out.kept hf4 (by simp))
      unfold V8.arr at HS0 HR4
      obtain ⟨zb, hzb⟩ := eX (w3.heap.size)
      rw [hzb] at HS0 ⊢
      have HZ : Hid (w.heap.size + 1 < zb ∧ y < zb ∧ g < zb) := hid (by
        rw [← hzb]
        refine ⟨lt_of_heap HJ3.out.h1, lt_of_heap HW3.out, ?_⟩
        obtain ⟨g', o', e, hc⟩ := rd_byte (i := 0) HR3.out (by have := HL64.out; rw [HL.out]; omega)
        simp only [Option.some.injEq, Addr.mk.injEq, and_true] at e
        obtain ⟨rfl, rfl⟩ := e
        exact World.block_lt_of_cell? w3 _ hc)
      clear hf4 hzb e0 e1 e2 e3 e4 e5 e6 e7 HR3 HJ3 HW3
      go_loopw [8] (fun i wr => ∃ (t : Nat) (r : V8), t ≤ 64 ∧ i = .int .i64 t ∧ Hid (rnds ws v t = r) ∧ Hid (StS w wr w.heap.size y zb v r ws) ∧ Hid (Rd wr (some ⟨g, 0, none⟩) P)) (fun i _ => 64 - (intOf i).toNat)
      case atStart => exact ⟨0, v, by omega, rfl, hid rfl, HS0, HR4⟩
      case round =>
        clear HS0 HR4
        obtain ⟨t, r, ht, rfl, hr, hst, hrp⟩ := hrel
        by_cases hlt : t < 64
        · have cw := hst.out.at t hlt
          have cp := (HW.out.kept hst.out.j.fr).r t hlt
          obtain ⟨e0, e1, e2, e3, e4, e5, e6, e7⟩ := hst.out.e
          have s0 : (0 : Int) ≤ (t : Int) := by omega
          have s1 : (t : Int) < 64 := by omega
          go_wp2_with fail
          go_quiet ((go_at_call 111; refine Calls.quiet_of_same (turned_all _ _ rfl _)))
          have e1' : ((r.h + bits .xor .u32 (bits .xor .u32 (rorI r.e 6) (rorI r.e 11)) (rorI r.e 25) + bits .xor .u32 (bits .and .u32 r.e r.f) (bits .and .u32 (bits .xor .u32 (if IntKind.u32.signed = true then -1 else IntKind.u32.max) r.e) r.g) + zA PR t) % 4294967296 + zA ws t) % 4294967296 = t1F r (zA PR t) (zA ws t) := rfl
          rw [e1']
          obtain ⟨T1, hT1⟩ := eX (t1F r (zA PR t) (zA ws t))
          rw [hT1]
          have HT1 := hid hT1
          have HS5 := hid (hst.out.drewN nq)
          have HR5 := hid (hrp.out.kept ((Frm.refl [] wr).drewN nq) (by simp))
          obtain ⟨w5, hw5⟩ := eX (wr.drewN nq)
          rw [hw5] at HS5 HR5 ⊢
          clear e1' hT1 hw5 cw cp hst hrp e0 e1 e2 e3 e4 e5 e6 e7
          generalize (if IntKind.u32.signed = true then (-1 : Int) else IntKind.u32.max) = MX
          obtain ⟨e0, e1, e2, e3, e4, e5, e6, e7⟩ := HS5.out.e
          go_wp2_with fail
          go_quiet ((go_at_call 111; refine Calls.quiet_of_same (turned_all _ _ rfl _)))
          have HS6 := hid (HS5.out.drewN nq)
          have HR6 := hid (HR5.out.kept ((Frm.refl [] w5).drewN nq) (by simp))
          obtain ⟨w6, hw6⟩ := eX (w5.drewN nq)
          rw [hw6] at HS6 HR6 ⊢
          clear hw6 HS5 HR5 e0 e1 e2 e3 e4 e5 e6 e7
          obtain ⟨e0, e1, e2, e3, e4, e5, e6, e7⟩ := HS6.out.e
          have hfr6 : ∀ i, w6.frozen? ⟨zb, i, none⟩ = false := fun i => fZ i HS6.out.hz
          have f0 := hfr6 0
          have f1 := hfr6 1
          have f2 := hfr6 2
          have f3 := hfr6 3
          have f4 := hfr6 4
          have f5 := hfr6 5
          have f6 := hfr6 6
          have f7 := hfr6 7
          obtain ⟨T2, hT2⟩ := eX (t2F r)
          have HT2 := hid hT2
          unfold t2F at hT2
          try rw [hT2]
          have HS8 := hid (set8 (y0 := .int .u32 ((T1 + T2) % 4294967296)) (y1 := .int .u32 r.a) (y2 := .int .u32 r.b) (y3 := .int .u32 r.c) (y4 := .int .u32 ((r.d + T1) % 4294967296)) (y5 := .int .u32 r.e) (y6 := .int .u32 r.f) (y7 := .int .u32 r.g) HS6.out.hz)
          clear hfr6 hT2
          go_wp2_with fail
          go_roundw
          case rel =>
            obtain ⟨h8, f8⟩ := HS8.out
            have hz := HZ.out
            refine ⟨t + 1, rnd r (zA PR t) (zA ws t), by omega, by go_num, hid (by rw [rnds, hr.out]), hid ⟨⟨f8.heap HS6.out.j.h0 (by simp; omega), f8.heap HS6.out.j.h1 (by simp; omega), HS6.out.j.fr.trans f8 (fun i hi hl => by simp at hi; omega)⟩, ?_, f8.heap HS6.out.hw (by simp; omega), HS6.out.len⟩, hid (HR6.out.kept f8 (by simp [blk]; omega))⟩
            rw [show (rnd r (zA PR t) (zA ws t)).arr = #[.int .u32 ((T1 + T2) % 4294967296), .int .u32 r.a, .int .u32 r.b, .int .u32 r.c, .int .u32 ((r.d + T1) % 4294967296), .int .u32 r.e, .int .u32 r.f, .int .u32 r.g] by unfold rnd V8.arr; rw [HT1.out, HT2.out]]
            exact h8
          case measure => simp [intOf]; omega
        · obtain rfl : t = 64 := by omega
          clear hlt
          rw [show ((64 : Nat) : Int) = 64 from rfl]
          go_wp2_with fail
          have HA0 : Hid (StZ w wr w.heap.size zb (addL v.l r.l 0) r.l) := hid ⟨hst.out.j.h0, hst.out.j.h1, hst.out.hz, rfl, rfl, hst.out.j.fr⟩
          have HBN2 : Hid ((addV v r) = blksD H0 P (k + 1)) := hid (by rw [← HBN.out, hr.out])
          obtain ⟨vl, hvl⟩ := eX (v.l)
          obtain ⟨rl, hrl⟩ := eX (r.l)
          have HAD : Hid (addL vl rl 8 = (blksD H0 P (k + 1)).l) := hid (by rw [← hvl, ← hrl, addL_all, HBN2.out])
          rw [hvl, hrl] at HA0
          have kk0 : IntKind.i64.wrap (64 * (k : Int) + 64) = 64 * (k : Int) + 64 := IntWalk.i64_in _ (by omega)
          clear hst HBN HBN2 hr hvl hrl
          go_loopw [13] (fun i wr => ∃ t : Nat, t ≤ 8 ∧ i = .int .i64 t ∧ Hid (StZ w wr w.heap.size zb (addL vl rl t) rl) ∧ Hid (Rd wr (some ⟨g, 0, none⟩) P)) (fun i _ => 8 - (intOf i).toNat)
          case atStart => exact ⟨0, by omega, rfl, HA0, hrp⟩
          case round =>
            clear HA0 hrp
            obtain ⟨t, ht, rfl, hst, hrp⟩ := hrel
            by_cases hlt : t < 8
            · have c0 := at_wv hst.out.h1 t (by rw [hst.out.ll]; exact hlt)
              have c1 := at_wv hst.out.hz t (by rw [hst.out.rl]; exact hlt)
              have f0 : wr.frozen? ⟨w.heap.size + 1, t, none⟩ = false := fZ t hst.out.h1
              have s0 : (0 : Int) ≤ (t : Int) := by omega
              have s1 : (t : Int) < 8 := by omega
              have hnx : (addL vl rl t).set t ((zA (addL vl rl t) t + zA rl t) % 4294967296) = addL vl rl (t + 1) := rfl
              have HNX := hid hnx
              obtain ⟨al, hal⟩ := eX (addL vl rl t)
              rw [hal] at c0 HNX hst
              generalize zA al t = A1 at c0 HNX
              generalize zA rl t = A2 at c1 HNX
              clear hnx hal
              go_wp2_with fail
              go_still_tail 9, (by kernel_rfl)
              change wpList _ _ _ _ _ wr.drew
              have HS4 := hid hst.out.drew
              have HR4 := hid (hrp.out.kept (Frm.refl [] wr).drew (by simp))
              obtain ⟨w4, hw4⟩ := eX (wr.drew)
              have cw4 : w4.cell? ⟨w.heap.size + 1, t, none⟩ = some (.int .u32 A1) := by rw [← hw4]; exact c0
              have fz4 : w4.frozen? ⟨w.heap.size + 1, t, none⟩ = false := by rw [← hw4]; exact f0
              rw [hw4] at HS4 HR4 ⊢
              clear hw4 c0 c1 f0 hst hrp
              go_wp2_with fail
              go_roundw
              case rel =>
                have h := HS4.out.set (Nat.le_refl _) HZ.out.1 t ((A1 + A2) % 4294967296)
                refine ⟨t + 1, by omega, by go_num, hid (by have h1 := h.1; rwa [HNX.out] at h1), hid (HR4.out.kept h.2 (by have := HZ.out; have := HG.out; simp [blk]; omega))⟩
              case measure => simp [intOf]; omega
            · obtain rfl : t = 8 := by omega
              clear hlt
              rw [show ((8 : Nat) : Int) = 8 from rfl]
              go_wp2_with fail
              go_roundw
              case rel =>
                refine ⟨k + 1, hid (by omega), by go_num, hid ⟨hst.out.h0, ?_, hst.out.fr⟩, hrp⟩
                have h1 := hst.out.h1
                rw [HAD.out] at h1
                exact h1
              case measure => simp [intOf]; omega
    · have hkl : 64 * k = L := by omega
      have HRES := hid (HSD.out k hkl)
      have hok : (blksD H0 P k).ok := by
        obtain ⟨k', rfl⟩ : ∃ k', k = k' + 1 := ⟨k - 1, by have := HL64.out; omega⟩
        exact blockV_ok _ _
      obtain ⟨v1, hv1⟩ := eX (blksD H0 P k)
      rw [hv1] at hst hok HRES
      obtain ⟨⟨d00, d01⟩, ⟨d10, d11⟩, ⟨d20, d21⟩, ⟨d30, d31⟩, ⟨d40, d41⟩, ⟨d50, d51⟩, ⟨d60, d61⟩, ⟨d70, d71⟩⟩ := hok
      obtain ⟨e0, e1, e2, e3, e4, e5, e6, e7⟩ := hst.out.e
      have r0 : wr.cell? ⟨w.heap.size, 0, none⟩ = some (.int .u64 0) := by rw [cell_of_row wr _ _ _ _ _ hst.out.h0]; rfl
      have q0 : wr.frozen? ⟨w.heap.size, 0, none⟩ = false := fZ 0 hst.out.h0
      have r1 : wr.cell? ⟨w.heap.size, 1, none⟩ = some (.int .u64 0) := by rw [cell_of_row wr _ _ _ _ _ hst.out.h0]; rfl
      have q1 : wr.frozen? ⟨w.heap.size, 1, none⟩ = false := fZ 1 hst.out.h0
      have r2 : wr.cell? ⟨w.heap.size, 2, none⟩ = some (.int .u64 0) := by rw [cell_of_row wr _ _ _ _ _ hst.out.h0]; rfl
      have q2 : wr.frozen? ⟨w.heap.size, 2, none⟩ = false := fZ 2 hst.out.h0
      have r3 : wr.cell? ⟨w.heap.size, 3, none⟩ = some (.int .u64 0) := by rw [cell_of_row wr _ _ _ _ _ hst.out.h0]; rfl
      have q3 : wr.frozen? ⟨w.heap.size, 3, none⟩ = false := fZ 3 hst.out.h0
      have HS4 := hid (set4 (y0 := .int .u64 (pairW v1.a v1.b)) (y1 := .int .u64 (pairW v1.c v1.d)) (y2 := .int .u64 (pairW v1.e v1.f)) (y3 := .int .u64 (pairW v1.g v1.h)) hst.out.h0)
      have HFR := hid hst.out.fr
      clear hv1 hst hrp hkl hk'
      go_wp2_with fail
      obtain ⟨h4, f4⟩ := HS4.out
      obtain ⟨wz, hwz⟩ := eX ((((wr.setCell ⟨w.heap.size, 0, none⟩ (.int .u64 (pairW v1.a v1.b))).setCell ⟨w.heap.size, 1, none⟩ (.int .u64 (pairW v1.c v1.d))).setCell ⟨w.heap.size, 2, none⟩ (.int .u64 (pairW v1.e v1.f))).setCell ⟨w.heap.size, 3, none⟩ (.int .u64 (pairW v1.g v1.h)))
      rw [hwz] at h4 f4
      have hfz : Frm [] w wz := HFR.out.trans f4 (fun i hi hl => by simp at hi; omega)
      have g0 : wz.cell? ⟨w.heap.size, 0, none⟩ = some (.int .u64 (pairW v1.a v1.b)) := by rw [cell_of_row wz _ _ _ _ _ h4]; rfl
      have g1 : wz.cell? ⟨w.heap.size, 1, none⟩ = some (.int .u64 (pairW v1.c v1.d)) := by rw [cell_of_row wz _ _ _ _ _ h4]; rfl
      have g2 : wz.cell? ⟨w.heap.size, 2, none⟩ = some (.int .u64 (pairW v1.e v1.f)) := by rw [cell_of_row wz _ _ _ _ _ h4]; rfl
      have g3 : wz.cell? ⟨w.heap.size, 3, none⟩ = some (.int .u64 (pairW v1.g v1.h)) := by rw [cell_of_row wz _ _ _ _ _ h4]; rfl
      clear h4 f4 HS4 r0 r1 r2 r3 q0 q1 q2 q3
      unfold pairW at hwz
      rw [hwz]
      clear hwz
      refine bodyPost_ret (v := .agg #[.int .u64 (pairW v1.a v1.b), .int .u64 (pairW v1.c v1.d), .int .u64 (pairW v1.e v1.f), .int .u64 (pairW v1.g v1.h)]) (by simp [results, Tryz.results85, go_sem, g0, g1, g2, g3]) rfl ⟨?_, hfz⟩
      rw [← HRES.out]
      rfl
end
section
open Go.RowKit
theorem refOf_fl (p : Option Addr) (n c : Nat) (zs : List Int) (w : World) (hn : zs.length = n) (hnb : n + 100 ≤ 140737488355328) (hrd : Rd w p zs) (hb : ∀ z ∈ zs, 0 ≤ z ∧ z < 256) :
  Calls Tryz.prog 39 #[.int .i64 1, .slice p n c] w fun e w' => e = .returned (.tuple #[.agg (fletch zs).arr, .int .i64 0]) ∧ Frm [] w w' := by
 have hfa : Frm [] w (w.alloc (.cells #[.int .u64 0, .int .u64 0, .int .u64 0, .int .u64 0] 29)) := (Frm.refl _ _).alloc _
 have HA := hid (heap_alloc_new w (.cells #[.int .u64 0, .int .u64 0, .int .u64 0, .int .u64 0] 29))
 have HSH := hid (refFl_any p n c zs (w.alloc (.cells #[.int .u64 0, .int .u64 0, .int .u64 0, .int .u64 0] 29)) hn (by omega) (hrd.kept hfa (by simp)) hb)
 have HFA := hid hfa
 clear hrd hb hn hfa
 go_enter Tryz.func39, Tryz.ntmps39
 go_wp2_with fail
 refine HSH.out.mono ?_
 rintro e w6 ⟨rfl, hf6⟩
 have hco := hf6.heap HA.out (by simp)
 obtain ⟨S, hS⟩ := eX (fletch zs)
 rw [hS]
 have HS := hid hS
 unfold S4.arr
 obtain ⟨sb, hsb⟩ := eX (w.heap.size)
 have HSB := hid hsb
 rw [hsb] at hco ⊢
 have e0 : w6.cell? ⟨sb, 0, none⟩ = some (.int .u64 0) := by rw [cell_of_row w6 _ _ _ _ _ hco]; rfl
 have z0 : w6.frozen? ⟨sb, 0, none⟩ = false := fZ 0 hco
 have e1 : w6.cell? ⟨sb, 1, none⟩ = some (.int .u64 0) := by rw [cell_of_row w6 _ _ _ _ _ hco]; rfl
 have z1 : w6.frozen? ⟨sb, 1, none⟩ = false := fZ 1 hco
 have e2 : w6.cell? ⟨sb, 2, none⟩ = some (.int .u64 0) := by rw [cell_of_row w6 _ _ _ _ _ hco]; rfl
 have z2 : w6.frozen? ⟨sb, 2, none⟩ = false := fZ 2 hco
 have e3 : w6.cell? ⟨sb, 3, none⟩ = some (.int .u64 0) := by rw [cell_of_row w6 _ _ _ _ _ hco]; rfl
 have z3 : w6.frozen? ⟨sb, 3, none⟩ = false := fZ 3 hco
 have HS4 := hid (set4 (y0 := .int .u64 S.a) (y1 := .int .u64 S.b) (y2 := .int .u64 S.c) (y3 := .int .u64 S.d) hco)
 have HF6 := hid (HFA.out.trans hf6 (by simp))
 clear hco hf6 hS hsb HSH HA
 go_wp2_with fail
 obtain ⟨h4, f4⟩ := HS4.out
 obtain ⟨wz, hwz⟩ := eX ((((w6.setCell ⟨sb, 0, none⟩ (.int .u64 S.a)).setCell ⟨sb, 1, none⟩ (.int .u64 S.b)).setCell ⟨sb, 2, none⟩ (.int .u64 S.c)).setCell ⟨sb, 3, none⟩ (.int .u64 S.d))
 rw [hwz] at h4 f4 ⊢
 have g0 : wz.cell? ⟨sb, 0, none⟩ = some (.int .u64 S.a) := by rw [cell_of_row wz _ _ _ _ _ h4]; rfl
 have g1 : wz.cell? ⟨sb, 1, none⟩ = some (.int .u64 S.b) := by rw [cell_of_row wz _ _ _ _ _ h4]; rfl
 have g2 : wz.cell? ⟨sb, 2, none⟩ = some (.int .u64 S.c) := by rw [cell_of_row wz _ _ _ _ _ h4]; rfl
 have g3 : wz.cell? ⟨sb, 3, none⟩ = some (.int .u64 S.d) := by rw [cell_of_row wz _ _ _ _ _ h4]; rfl
 refine bodyPost_ret (v := .tuple #[.agg #[.int .u64 S.a, .int .u64 S.b, .int .u64 S.c, .int .u64 S.d], .int .i64 0]) (by simp [results, Tryz.results39, go_sem, g0, g1, g2, g3]) rfl ⟨by rw [HS.out]; rfl, HF6.out.trans f4 (fun i hi hl => by simp at hi; have := HSB.out; omega)⟩
theorem refOf_sha (p : Option Addr) (n c : Nat) (zs : List Int) (w : World) (hn : zs.length = n) (hp : zs = [] → p = none → c = 0) (hnb : n + 100 ≤ 140737488355328) (hrd : Rd w p zs) (hb : ∀ z ∈ zs, 0 ≤ z ∧ z < 256) (hv : Vars w) :
  Calls Tryz.prog 39 #[.int .i64 2, .slice p n c] w fun e w' => e = .returned (.tuple #[.agg (shaD zs).arr, .int .i64 0]) ∧ Frm [] w w' := by
 have hfa : Frm [] w (w.alloc (.cells #[.int .u64 0, .int .u64 0, .int .u64 0, .int .u64 0] 29)) := (Frm.refl _ _).alloc _
 have HA := hid (heap_alloc_new w (.cells #[.int .u64 0, .int .u64 0, .int .u64 0, .int .u64 0] 29))
 have HSH := hid (refSha_any p n c zs (w.alloc (.cells #[.int .u64 0, .int .u64 0, .int .u64 0, .int .u64 0] 29)) hn hp hnb (hrd.kept hfa (by simp)) hb (hv.kept hfa))
 have HFA := hid hfa
 clear hrd hb hn hfa hp hv
 go_enter Tryz.func39, Tryz.ntmps39
 go_wp2_with fail
 refine HSH.out.mono ?_
 rintro e w6 ⟨rfl, hf6⟩
 have hco := hf6.heap HA.out (by simp)
 obtain ⟨S, hS⟩ := eX (shaD zs)
 rw [hS]
 have HS := hid hS
 unfold S4.arr
 obtain ⟨sb, hsb⟩ := eX (w.heap.size)
 have HSB := hid hsb
 rw [hsb] at hco ⊢
 have e0 : w6.cell? ⟨sb, 0, none⟩ = some (.int .u64 0) := by rw [cell_of_row w6 _ _ _ _ _ hco]; rfl
 have z0 : w6.frozen? ⟨sb, 0, none⟩ = false := fZ 0 hco
 have e1 : w6.cell? ⟨sb, 1, none⟩ = some (.int .u64 0) := by rw [cell_of_row w6 _ _ _ _ _ hco]; rfl
 have z1 : w6.frozen? ⟨sb, 1, none⟩ = false := fZ 1 hco
 have e2 : w6.cell? ⟨sb, 2, none⟩ = some (.int .u64 0) := by rw [cell_of_row w6 _ _ _ _ _ hco]; rfl
 have z2 : w6.frozen? ⟨sb, 2, none⟩ = false := fZ 2 hco
 have e3 : w6.cell? ⟨sb, 3, none⟩ = some (.int .u64 0) := by rw [cell_of_row w6 _ _ _ _ _ hco]; rfl
 have z3 : w6.frozen? ⟨sb, 3, none⟩ = false := fZ 3 hco
 have HS4 := hid (set4 (y0 := .int .u64 S.a) (y1 := .int .u64 S.b) (y2 := .int .u64 S.c) (y3 := .int .u64 S.d) hco)
 have HF6 := hid (HFA.out.trans hf6 (by simp))
 clear hco hf6 hS hsb HSH HA
 go_wp2_with fail
 obtain ⟨h4, f4⟩ := HS4.out
 obtain ⟨wz, hwz⟩ := eX ((((w6.setCell ⟨sb, 0, none⟩ (.int .u64 S.a)).setCell ⟨sb, 1, none⟩ (.int .u64 S.b)).setCell ⟨sb, 2, none⟩ (.int .u64 S.c)).setCell ⟨sb, 3, none⟩ (.int .u64 S.d))
 rw [hwz] at h4 f4 ⊢
 have g0 : wz.cell? ⟨sb, 0, none⟩ = some (.int .u64 S.a) := by rw [cell_of_row wz _ _ _ _ _ h4]; rfl
 have g1 : wz.cell? ⟨sb, 1, none⟩ = some (.int .u64 S.b) := by rw [cell_of_row wz _ _ _ _ _ h4]; rfl
 have g2 : wz.cell? ⟨sb, 2, none⟩ = some (.int .u64 S.c) := by rw [cell_of_row wz _ _ _ _ _ h4]; rfl
 have g3 : wz.cell? ⟨sb, 3, none⟩ = some (.int .u64 S.d) := by rw [cell_of_row wz _ _ _ _ _ h4]; rfl
 refine bodyPost_ret (v := .tuple #[.agg #[.int .u64 S.a, .int .u64 S.b, .int .u64 S.c, .int .u64 S.d], .int .i64 0]) (by simp [results, Tryz.results39, go_sem, g0, g1, g2, g3]) rfl ⟨by rw [HS.out]; rfl, HF6.out.trans f4 (fun i hi hl => by simp at hi; have := HSB.out; omega)⟩
theorem refOf_no (kind : Int) (p : Option Addr) (n c : Nat) (w : World) (h1 : kind ≠ 1) (h2 : kind ≠ 2) :
  Calls Tryz.prog 39 #[.int .i64 kind, .slice p n c] w fun e w' => e = .returned (.tuple #[.agg Z4.arr, .int .i64 20]) ∧ Frm [] w w' := by
 have HA := hid (heap_alloc_new w (.cells #[.int .u64 0, .int .u64 0, .int .u64 0, .int .u64 0] 29))
 have HFA : Hid (Frm [] w (w.alloc (.cells #[.int .u64 0, .int .u64 0, .int .u64 0, .int .u64 0] 29))) := hid ((Frm.refl _ _).alloc _)
 have b1 : (kind == 1) = false := by simpa using h1
 have b2 : (kind == 2) = false := by simpa using h2
 go_enter Tryz.func39, Tryz.ntmps39
 go_wp2_with fail
 go_returns
 exact ⟨rfl, HFA.out⟩
theorem refOf_any (kind : Int) (p : Option Addr) (n c : Nat) (zs : List Int) (w : World) (hn : zs.length = n) (hp : zs = [] → p = none → c = 0) (hnb : n + 100 ≤ 140737488355328) (hrd : Rd w p zs) (hb : ∀ z ∈ zs, 0 ≤ z ∧ z < 256) (hv : Vars w) :
  Calls Tryz.prog 39 #[.int .i64 kind, .slice p n c] w fun e w' => e = .returned (.tuple #[.agg (ofS kind zs).1.arr, .int .i64 (ofS kind zs).2]) ∧ Frm [] w w' := by
 unfold ofS
 by_cases h1 : kind = 1
 ·subst h1
  simp only [if_true]
  exact refOf_fl p n c zs w hn hnb hrd hb
 by_cases h2 : kind = 2
 ·subst h2
  simp only [if_true, if_neg h1]
  exact refOf_sha p n c zs w hn hp hnb hrd hb hv
 simp only [if_neg h1, if_neg h2]
 exact refOf_no kind p n c w h1 h2
end
section
open Go.RowKit
theorem Rd.low {w : World} {p : Option Addr} {zs : List Int} (h : Rd w p zs) (hne : zs ≠ []) : ∀ k ∈ blk p, k < w.heap.size := by
 rcases h with h | ⟨g, o, rfl, hc⟩
 ·exact absurd h hne
 ·intro k hk
  simp [blk] at hk
  subst hk
  exact World.block_lt_of_cell? w _ (hc 0 (by cases zs with | nil => exact absurd rfl hne | cons _ _ => simp))
theorem Own.low {w : World} {E : TypeId} {p : Option Addr} {n c : Nat} {zs : List Int} (h : Own w E (.slice p n c) zs) : ∀ k ∈ blk p, k < w.heap.size := by
 obtain ⟨p', c', he, _, _, hh, _⟩ := h.shape
 simp only [Value.slice.injEq] at he
 obtain ⟨rfl, _, rfl⟩ := he
 intro k hk
 cases p with
 | none => simp [blk] at hk
 | some a => simp [blk] at hk; subst hk; exact (hh a rfl).2.2
theorem Keeps.cell {A : List Nat} {w w' : World} (h : Keeps A w w') {p : Addr} (hp : p.block ∈ A) : w'.cell? p = w.cell? p := World.cell?_of_block (h _ hp)
end
section
section
open Go.ChangeShapes Go.WideShapes Go.ChangeAt Go.RowKit Go.Deep
theorem own : ownKnob Tryz.prog.godebug = none := by kernel_rfl
theorem laidOut : laidOutB Tryz.prog = true := by kernel_rfl
theorem u8_bd {x : Int} (h : (Lit.int .u8 x).wf = true) : 0 ≤ x ∧ x < 256 := by
 simp [Lit.wf, IntKind.min, IntKind.max, IntKind.signed, IntKind.bits] at h; omega
def Came (w : World) (p : Option Addr) (len cap : Nat) : Prop := ∃ ns : List Int, ns.length = len ∧ Rd w p ns ∧ (∀ z ∈ ns, 0 ≤ z ∧ z < 256) ∧ (ns = [] → p = none → cap = 0) ∧ len ≤ cap ∧ cap ≤ 9223372036854775807
theorem spot_of_cell {w : World} {x : Addr} {v : Value} (h : w.cell? x = some v) : x.spot = none := by
 unfold World.cell? at h
 split at h
 ·by_cases hs : x.spot.isSome = true
  ·simp [hs] at h
  ·simpa using hs
 ·cases h
theorem came_of {w : World} {x : Addr} {len cap : Nat} {zs : List Int} (hl : len ≤ cap) (hm : cap ≤ maxLen) (hz : zs.length = cap) (hcell : ∀ i, i < zs.length → w.cell? (x.add i) = some (.int .u8 (zs.getD i 0))) (hwf : ∀ n ∈ zs, (Lit.int .u8 n).wf = true) : Came w (some x) len cap := by
 refine ⟨zs.take len, by simp; omega, ?_, fun z hz => u8_bd (hwf z (List.mem_of_mem_take hz)), by simp, hl, by unfold maxLen at hm; omega⟩
 by_cases h0 : len = 0
 ·exact Or.inl (by simp [h0])
 ·have hs : x.spot = none := spot_of_cell (by have := hcell 0 (by omega); simpa [Addr.add] using this)
  obtain ⟨g, o, sp⟩ := x
  simp only at hs
  subst hs
  refine Or.inr ⟨g, o, rfl, fun i hi => ?_⟩
  simp at hi
  have h := hcell i (by omega)
  rw [show (⟨g, o, none⟩ : Addr).add i = ⟨g, o + i, none⟩ by unfold Addr.add; split <;> simp_all] at h
  have h2 : i < zs.length := by omega
  rw [h]; simp [List.getD, hi, h2]
section
variable {H : Type} {enc : TypeId × Value → H} {W : World}
theorem came_cells {fuel : Nat} {cs : List Value} {x : DataW H × List MemPlace} (h : DataW.trod enc Tryz.prog W 0 (fun _ => true) true fuel 24 cs = some x) :
  ∃ p len cap, cs = [.slice p len cap] ∧ Came W p len cap := by
 rcases open_ints Tryz.underlying24 Tryz.underlying5 (by kernel_rfl) h with ⟨hcs, _⟩ | ⟨x, l, c, zs, hcs, _, hl, hm, hz, _, hcell, hwz⟩
 ·exact ⟨none, 0, 0, hcs, [], rfl, Or.inl rfl, by simp, fun _ _ => rfl, by omega, by omega⟩
 ·exact ⟨some x, l, c, hcs, came_of hl hm (by simpa using hz) hcell hwz⟩
theorem add_of {x : Addr} (hs : x.spot = none) (i : Nat) : x.add i = ⟨x.block, x.off + i, none⟩ := by
 obtain ⟨g, o, sp⟩ := x
 simp only at hs
 subst hs
 unfold Addr.add; split <;> simp_all
end
theorem Came.kept {w w' : World} {p : Option Addr} {len cap : Nat} (h : Came w p len cap) (hf : Frm [] w w') : Came w' p len cap := by
 obtain ⟨ns, h1, h2, h3⟩ := h
 exact ⟨ns, h1, h2.kept hf (by simp), h3⟩
end
section
open Go.ChangeShapes Go.WideShapes Go.ChangeAt Go.RowKit Go.Deep
theorem bytesU : Tryz.prog.bytesOf 5 = 1 := by kernel_rfl
section
variable {H : Type} {enc : TypeId × Value → H} {W : World} {P : Program}
theorem mem_all {P : Program} {e : TypeId} {l : List (DataW H)} {d : DataW H} (hd : d ∈ l) {n : Nat} (hn : n ∈ d.weights P e) : n ∈ DataW.weightsAll P e l := by
 induction l with
 | nil => cases hd
 | cons a l ih =>
  simp only [DataW.weightsAll, List.mem_append]
  rcases List.mem_cons.1 hd with rfl | h
  ·exact Or.inl hn
  ·exact Or.inr (ih h)
theorem came_len {fuel : Nat} {cs : List Value} {x : DataW H × List MemPlace} (h : DataW.trod enc Tryz.prog W 0 (fun _ => true) true fuel 24 cs = some x) (hw : ∀ n ∈ x.1.weights Tryz.prog 24, n ≤ reachBytes) (p : Option Addr) (len cap : Nat) (he : cs = [.slice p len cap]) : len ≤ 140737488351232 := by
 rcases open_ints Tryz.underlying24 Tryz.underlying5 (by kernel_rfl) h with ⟨hcs, _⟩ | ⟨a, l, c, zs, hcs, _, hl, hm, hz, hxx, _, _⟩
 ·rw [hcs] at he
  simp at he
  omega
 ·rw [hcs] at he
  simp only [List.cons.injEq, Value.slice.injEq, and_true] at he
  obtain ⟨_, rfl, _⟩ := he
  have := hw ((zs.take l).length + (zs.drop l).length) (by
   rw [hxx]
   simp [DataW.weights, Tryz.underlying24, bytesU, lits])
  simp only [List.length_take, List.length_drop, reachBytes] at this
  simp only [if_true] at hz
  omega
end
end
end
section
open Go.RowKit
theorem conv_any {P : Program} {w : World} (src e dst : TypeId) (hs : P.underlying src = some (.slice e)) (he : P.underlying e = some (.int .u8)) (hd : P.underlying dst = some .string) {p : Option Addr} {n : Nat} {zs : List Int} (hrd : Rd w p zs) (cap : Nat) (hn : zs.length = n) :
  Sem.run P (convert src dst (.slice p n cap)) w = .ok (.string (strOfNums zs)) w := by
 rcases hrd with rfl | ⟨g, o, rfl, hc⟩
 ·simp at hn
  subst hn
  cases p with
  | none => exact run_convert_bytes_nil (P := P) (w := w) src e hs he 0 cap dst hd
  | some a =>
   rw [run_convert_bytes_string w src dst e _ _ _ hs he hd, run_bytesToString w a 0 cap [] (by simp [loadCells, loadCellsFrom])]
   rfl
 ·exact conv_rd src e dst hs he hd (Or.inr ⟨g, o, rfl, hc⟩) cap hn
theorem FreshW.other {w0 w w' : World} {b : Nat} {room : Int} {s : List Int × Int} {A S : List Nat} (h : FreshW w0 w b room s A) (hf : Frm S w w') (hS : ∀ k ∈ S, k ∈ A ∧ w0.heap.size ≤ k) : FreshW w0 w' b room s A := by
 obtain ⟨fp, h1, h2, h3, h4⟩ := h
 refine ⟨fp, h1.kept hf (fun k hk hs => (h4 k (hS k hs).1).1 hk), h2.trans hf (fun i hi hlt => absurd (hS i hi).2 (Nat.not_le.2 hlt)), h3, fun k hk => ⟨(h4 k hk).1, Nat.lt_of_lt_of_le (h4 k hk).2 hf.size⟩⟩
theorem IsR.keeps {w w' : World} {b g pos : Nat} {err : Int} {bs : List Int} (h : IsR w b g bs pos err) (hk : Keeps [b, g] w w') : IsR w' b g bs pos err :=
 ⟨(hk b (by simp)).trans h.1, (hk g (by simp)).trans h.2.1, h.2.2⟩
end
section
open Go.RowKit
def IsQ (w : World) (b : Nat) (p : Option Addr) (c : Nat) (bs : List Int) (pos : Nat) (err : Int) : Prop :=
 w.heap[b]? = some (.cells #[.slice p bs.length c, .int .i64 pos, .int .i64 err] 120 (0, 0)) ∧ Own w 5 (.slice p bs.length c) bs ∧ b ∉ blk p ∧ pos ≤ bs.length ∧ bs.length ≤ 140737488351232
theorem IsQ.kept {w w' : World} {b c pos : Nat} {p : Option Addr} {S : List Nat} {err : Int} {bs : List Int} (h : IsQ w b p c bs pos err) (hf : Frm S w w') (hb : b ∉ S) (hp : ∀ k ∈ blk p, k ∉ S) : IsQ w' b p c bs pos err :=
 ⟨hf.heap h.1 hb, h.2.1.kept hf (fun k hk => hp k (by rwa [own_blk] at hk)), h.2.2⟩
theorem IsQ.cells {w : World} {b c pos : Nat} {p : Option Addr} {err : Int} {bs : List Int} (h : IsQ w b p c bs pos err) : b < w.heap.size ∧ b ∉ blk p ∧ pos ≤ bs.length ∧ bs.length ≤ 140737488351232 ∧
  w.cell? ⟨b, 0, none⟩ = some (.slice p bs.length c) ∧ w.cell? ⟨b, 1, none⟩ = some (.int .i64 pos) ∧ w.cell? ⟨b, 2, none⟩ = some (.int .i64 err) ∧
  w.frozen? ⟨b, 1, none⟩ = false ∧ w.frozen? ⟨b, 2, none⟩ = false ∧ Rd w p bs ∧ bs.length ≤ c ∧ (p = none → bs = [] ∧ c = 0) ∧ (∀ a, p = some a → a.off = 0 ∧ a.spot = none) := by
 obtain ⟨h1, h2, h3, h4, h5⟩ := h
 obtain ⟨p', c', he, hc, hn, hh, _⟩ := h2.shape
 simp only [Value.slice.injEq, true_and] at he
 obtain ⟨rfl, rfl⟩ := he
 exact ⟨lt_of_heap h1, h3, h4, h5, by rw [cell_of_row w _ _ _ _ _ h1]; rfl, by rw [cell_of_row w _ _ _ _ _ h1]; rfl, by rw [cell_of_row w _ _ _ _ _ h1]; rfl, fZ 1 h1, fZ 2 h1, h2.rd, hc, hn, fun a ha => ⟨(hh a ha).1, (hh a ha).2.1⟩⟩
theorem IsQ.setPos {w : World} {b c pos : Nat} {p : Option Addr} {err : Int} {bs : List Int} (h : IsQ w b p c bs pos err) {n : Nat} (hn : n ≤ bs.length) : IsQ (w.setCell ⟨b, 1, none⟩ (.int .i64 n)) b p c bs n err := by
 obtain ⟨h1, h2, h3, h4, h5⟩ := h
 refine ⟨?_, h2.kept ((Frm.refl [b] w).setCell _ _ (by simp)) (by rw [own_blk]; intro k hk; simp; rintro rfl; exact h3 hk), h3, hn, h5⟩
 rw [heap_setCell_same w b 1 _ _ _ h1]; rfl
theorem IsQ.setErr {w : World} {b c pos : Nat} {p : Option Addr} {err : Int} {bs : List Int} (h : IsQ w b p c bs pos err) (ev : Int) : IsQ (w.setCell ⟨b, 2, none⟩ (.int .i64 ev)) b p c bs pos ev := by
 obtain ⟨h1, h2, h3, h4, h5⟩ := h
 refine ⟨?_, h2.kept ((Frm.refl [b] w).setCell _ _ (by simp)) (by rw [own_blk]; intro k hk; simp; rintro rfl; exact h3 hk), h3, h4, h5⟩
 rw [heap_setCell_same w b 2 _ _ _ h1]; rfl
theorem open_any (p : Option Addr) (c : Nat) (bs : List Int) (w : World) (hrd : Rd w p bs) (hpc : bs = [] → p = none → c = 0) (hl : bs.length ≤ 140737488351232) :
  Calls Tryz.prog 81 #[.slice p bs.length c] w fun e w' => ∃ b p' c', e = .returned (.pointer (some ⟨b, 0, none⟩)) ∧ IsQ w' b p' c' bs 0 0 ∧ Frm [] w w' ∧ w.heap.size ≤ b ∧ ∀ k ∈ blk p', w.heap.size ≤ k := by
 have HR := hid hrd
 have HPC := hid hpc
 clear hrd hpc
 go_enter Tryz.func81, Tryz.ntmps81
 go_wp2_with (at_builtin; refine wpList_appB rfl _ _ 24 rfl 5 Tryz.underlying24 infoE none 0 0 [] rfl rfl (Own.nil _ _) p bs.length c bs rfl rfl HPC.out HR.out (by simp; omega) ?_)
 intro xs p2 cq w1 hxs ho1 hf1 hfr1
 have hx : xs = bs := hxs.out
 subst xs
 go_wp2_with fail
 go_returns
 have hnew : ∀ k ∈ blk p2, w.heap.size ≤ k := fun k hk => (hfr1.out k hk).elim (fun h => by simp [blk] at h) id
 have hff : Frm [] w (w1.alloc (.cells #[.slice p2 bs.length cq, .int .i64 0, .int .i64 0] 120)) := Frm.alloc (S := []) hf1.out _
 refine ⟨w1.heap.size, rfl, p2, ⟨cq, heap_alloc_new _ _, ho1.out.kept ((Frm.refl [] w1).alloc _) (by simp), fun h => Nat.lt_irrefl _ (ho1.out.low _ h), Nat.zero_le _, hl⟩, hff, Frm.size hf1.out, hnew⟩
theorem step_appB {P : Program} {w : World} {ops : Array Oper} {o : Oper} {a : Act} {K : Act → World → Prop} {Q : Exit → Act → World → Prop} {Z : Prop} (hgd : o.guard = none) (sl x : Operand) (t : TypeId)
  (ho : o.op = .call { callee := .builtin .append, args := #[sl, x], argTypes := #[t, t] })
  (E : TypeId) (ht : P.underlying t = some (.slice E)) (hI : (P.info? E).map (fun i => (i.zero, i.size, i.bytes)) = some (some (.int .u8 0), 1, 1))
  (p0 : Option Addr) (n0 c0 : Nat) (zs : List Int) (hs : a.eval sl = .slice p0 n0 c0) (hn0 : n0 = zs.length) (hown : Own w E (.slice p0 zs.length c0) zs)
  (p : Option Addr) (n c : Nat) (ns : List Int) (hx : a.eval x = .slice p n c) (hn : n = ns.length) (hp : ns = [] → p = none → c = 0) (hrd : Rd w p ns) (hsz : zs.length + ns.length ≤ 140737488355328)
  (h : ∀ xs p2 c2 w', Hid (xs = zs ++ ns) → Hid (Own w' E (.slice p2 xs.length c2) xs) → Hid (Frm (blk p0) w w') → Hid (∀ k ∈ blk p2, k ∈ blk p0 ∨ w.heap.size ≤ k) → K (a.put o.dst (.slice p2 xs.length c2)) w') :
  if Region.wanted o (yielded ops a.tmps) = true then Oper.wp P o a w K Q else Z := by
 have hw : Region.wanted o (yielded ops a.tmps) = true := by simp [Region.wanted, hgd]
 rw [if_pos hw]
 subst hn
 subst hn0
 obtain ⟨v', w', hrun, h1, h2, h3⟩ := run_appB (P := P) (w := w) t o.type E ht hI _ zs hown p c ns hp hrd hsz
 obtain ⟨xs, hxs⟩ : ∃ xs, xs = zs ++ ns := ⟨_, rfl⟩
 rw [← hxs] at h1
 obtain ⟨p2, c2, rfl, _, _, _, hb⟩ := h1.shape
 rw [hb, own_blk] at h3
 rw [own_blk] at h2
 unfold Oper.wp
 simp [execOp, ho, resolve, invoke, builtin, hs, hx, hrun, Result.andThen]
 exact h xs p2 c2 w' hxs h1 h2 h3
theorem qbytes_any (b c pos : Nat) (p : Option Addr) (bs : List Int) (err k : Int) (w : World) (hw : IsQ w b p c bs pos err) (hk : -9223372036854775808 ≤ k) (hk2 : k ≤ 9223372036854775807) :
  Calls Tryz.prog 108 #[.pointer (some ⟨b, 0, none⟩), .int .i64 k] w fun e w' => ∃ p' n c', e = .returned (.slice p' n c') ∧ n = (readS [] pos err (bytesT (bs.drop pos) k)).1.length ∧ Own w' 5 (.slice p' n c') (readS [] pos err (bytesT (bs.drop pos) k)).1 ∧ (∀ k ∈ blk p', w.heap.size ≤ k) ∧
   IsQ w' b p c bs (readS [] pos err (bytesT (bs.drop pos) k)).2.1 (readS [] pos err (bytesT (bs.drop pos) k)).2.2 ∧ Frm [b] w w' := by
 obtain ⟨hlt, hnb, hpos, hlen, c0, c1, c2, f1, f2, hrd, hcl, hpn, hoff⟩ := hw.cells
 have HW := hid hw
 have HR := hid hrd
 have HPN := hid hpn
 have HOFF := hid hoff
 clear hw hrd hpn hoff
 by_cases he : err = 0
 ·subst he
  have hb : ((0 : Int) != 0) = false := rfl
  rw [readS_ok]
  by_cases hk0 : k < 0
  ·have e : bytesT (bs.drop pos) k = ([], 0, 1) := by unfold bytesT; rw [if_pos hk0]
   rw [e]
   go_enter Tryz.func108, Tryz.ntmps108
   go_wp2_with fail
   go_returns
   exact ⟨none, 0, 0, rfl, rfl, Own.nil _ _, by simp [blk], HW.out.setErr 1, (Frm.refl _ _).setCell _ _ (by simp)⟩
  ·by_cases h2 : ((bs.drop pos).length : Int) < k
   ·have e : bytesT (bs.drop pos) k = ([], 0, 10) := by unfold bytesT; rw [if_neg hk0, if_pos h2]
    rw [e]
    have h2' : (bs.length : Int) - pos < k := by simp only [List.length_drop] at h2; omega
    clear h2
    go_enter Tryz.func108, Tryz.ntmps108
    go_wp2_with fail
    go_quiet (fail)
    go_wp2_with fail
    go_returns
    exact ⟨none, 0, 0, rfl, rfl, Own.nil _ _, by simp [blk], (HW.out.kept ((Frm.refl [] w).drewN nq) (by simp) (by simp)).setErr 10, ((Frm.refl [] w).drewN nq |>.mono (by simp)).setCell _ _ (by simp)⟩
   ·have e : bytesT (bs.drop pos) k = ((bs.drop pos).take k.toNat, k.toNat, 0) := by unfold bytesT; rw [if_neg hk0, if_neg h2]
    rw [e]
    obtain ⟨j, rfl⟩ : ∃ j : Nat, k = (j : Int) := ⟨k.toNat, by omega⟩
    simp only [Int.toNat_natCast, if_true]
    have h2' : ¬ (bs.length : Int) - pos < (j : Int) := by simp only [List.length_drop] at h2; omega
    clear h2
    go_enter Tryz.func108, Tryz.ntmps108
    go_wp2_with fail
    go_quiet (fail)
    cases p with
    | none =>
     obtain ⟨rfl, rfl⟩ := HPN.out rfl
     simp only [List.length_nil] at hpos h2' c0 HW hcl hlen
     obtain rfl : pos = 0 := by omega
     obtain rfl : j = 0 := by omega
     have hw1 : IntKind.i64.wrap (((0 : Nat) : Int) + ((0 : Nat) : Int)) = 0 := by decide
     simp only [Int.natCast_zero] at c1 hw1
     have hw2 : IntKind.i64.wrap ((0 : Int) + ((0 : Nat) : Int)) = 0 := by decide
     have hw3 : IntKind.i64.wrap 0 = 0 := by decide
     go_wp2_with fail
     go_region_held3 (fun w' => w'.cell? ⟨b, 0, none⟩ = some (.slice none 0 0) ∧ w'.cell? ⟨b, 1, none⟩ = some (.int .i64 0)) (first | go_keep | (exact ⟨c0, c1⟩) | (exact ⟨(hF2.out.cell (p := ⟨b, 0, none⟩) hlt List.not_mem_nil).trans c0, (hF2.out.cell (p := ⟨b, 1, none⟩) hlt List.not_mem_nil).trans c1⟩)) ((refine step_appB (by rfl) _ _ 24 (by rfl) 5 Tryz.underlying24 infoE none 0 0 [] (by rfl) (by rfl) (Own.nil _ _) none 0 0 [] (by rfl) (by rfl) (fun _ _ => rfl) (Rd.nil _ _) (by simp) ?_; intro xs p2 cq w2 hxs ho hF2 hfr))
     have hx : xs = [] := hxs.out
     subst xs
     have F2 : Frm [] w w2 := ((Frm.refl [] w).drewN (nq + 1)).trans (T := []) hF2.out (by simp)
     have F2' := hid F2
     have hnw : ∀ k ∈ blk p2, w.heap.size ≤ k := fun k hk => (hfr.out k hk).elim (fun h => by simp [blk] at h) id
     have hnb2 : b ∉ blk p2 := fun h => Nat.not_lt.2 (hnw b h) hlt
     have HNW := hid hnw
     have HNB := hid hnb2
     clear hnw hnb2 hw1 hw2 hw3
     have q1 := (F2.cell (p := ⟨b, 1, none⟩) hlt List.not_mem_nil).trans c1
     have qf := (F2.frozen (p := ⟨b, 1, none⟩) hlt List.not_mem_nil).trans f1
     clear F2
     go_wp2_with fail
     go_returns
     have hq := (HW.out.kept F2'.out (by simp) (by simp)).setPos (n := 0) (Nat.le_refl _)
     exact ⟨p2, _, cq, rfl, rfl, ho.out.kept ((Frm.refl [b] w2).setCell _ _ (by simp)) (by rw [own_blk]; intro k hk; simp only [List.mem_singleton]; rintro rfl; exact HNB.out hk), HNW.out, hq, (F2'.out.mono (by simp)).setCell _ _ (by simp)⟩
    | some a =>
     obtain ⟨g, o, sp⟩ := a
     obtain ⟨ho, hs⟩ := HOFF.out _ rfl
     simp only at ho hs
     subst ho hs
     have hpj : pos + j ≤ bs.length := by omega
     have hll : ((bs.drop pos).take j).length = j := by simp only [List.length_take, List.length_drop]; omega
     have hrd2 : Rd w (if c = pos then (some ⟨g, 0, none⟩ : Option Addr) else some ⟨g, pos, none⟩) ((bs.drop pos).take j) := by
      by_cases hcp : c = pos
      ·exact Or.inl (List.eq_nil_of_length_eq_zero (by rw [hll]; omega))
      ·rw [if_neg hcp]
       have := (HR.out.drop pos).take j
       rwa [Nat.zero_add] at this
     have hp1 : (bs.drop pos).take j = [] → (if c = pos then (some ⟨g, 0, none⟩ : Option Addr) else some ⟨g, pos, none⟩) = none → c - pos = 0 := fun _ h => by split at h <;> cases h
     have hn1 : ((pos : Int) + (j : Int)).toNat - pos = ((bs.drop pos).take j).length := by rw [hll]; omega
     have hs1 : ([] : List Int).length + ((bs.drop pos).take j).length ≤ 140737488355328 := by rw [hll]; simp; omega
     obtain ⟨zs, hzs⟩ := eX ((bs.drop pos).take j)
     rw [hzs] at hrd2 hp1 hn1 hs1 hll
     have HRD2 := hid hrd2
     have HP1 := hid hp1
     have HN1 := hid hn1
     have HS1 := hid hs1
     have HLL := hid hll
     have HZS := hid hzs
     clear hrd2 hp1 hn1 hs1 hll
     have hw1 : IntKind.i64.wrap ((pos : Int) + (j : Int)) = (pos : Int) + (j : Int) := IntWalk.i64_in _ (by omega)
     have b1 : (0 : Int) ≤ (pos : Int) := by omega
     have b2 : (pos : Int) ≤ (pos : Int) + (j : Int) := by omega
     have b3 : (pos : Int) + (j : Int) ≤ (c : Int) := by omega
     clear hzs
     go_wp2_with fail
     go_region_held3 (fun w' => w'.cell? ⟨b, 0, none⟩ = some (.slice (some ⟨g, 0, none⟩) bs.length c) ∧ w'.cell? ⟨b, 1, none⟩ = some (.int .i64 pos)) (first | go_keep | (exact ⟨c0, c1⟩) | (exact ⟨(hF2.out.cell (p := ⟨b, 0, none⟩) hlt List.not_mem_nil).trans c0, (hF2.out.cell (p := ⟨b, 1, none⟩) hlt List.not_mem_nil).trans c1⟩)) ((refine step_appB (by rfl) _ _ 24 (by rfl) 5 Tryz.underlying24 infoE none 0 0 [] (by rfl) (by rfl) (Own.nil _ _) (if c = pos then (some ⟨g, 0, none⟩ : Option Addr) else some ⟨g, pos, none⟩) (((pos : Int) + (j : Int)).toNat - pos) (c - pos) zs (by rfl) HN1.out HP1.out HRD2.out HS1.out ?_; intro xs p2 cq w2 hxs ho hF2 hfr))
     clear hw1 b1 b2 b3
     have hx : xs = zs := hxs.out
     subst xs
     have F2 : Frm [] w w2 := (((Frm.refl [] w).drewN nq).drew).trans (T := []) hF2.out (by simp)
     have F2' := hid F2
     have hnw : ∀ k ∈ blk p2, w.heap.size ≤ k := fun k hk => (hfr.out k hk).elim (fun h => by simp [blk] at h) id
     have hnb2 : b ∉ blk p2 := fun h => Nat.not_lt.2 (hnw b h) hlt
     have HNW := hid hnw
     have HNB := hid hnb2
     generalize (if c = pos then (some ⟨g, 0, none⟩ : Option Addr) else some ⟨g, pos, none⟩) = pp
     clear hnw hnb2 HRD2 HP1
     have q1 := (F2.cell (p := ⟨b, 1, none⟩) hlt List.not_mem_nil).trans c1
     have qf := (F2.frozen (p := ⟨b, 1, none⟩) hlt List.not_mem_nil).trans f1
     clear F2
     go_wp2_with fail
     go_returns
     have hq := (HW.out.kept F2'.out (by simp) (by simp)).setPos (n := pos + j) hpj
     rw [Int.natCast_add] at hq
     rw [HZS.out]
     exact ⟨p2, _, cq, rfl, rfl, ho.out.kept ((Frm.refl [b] w2).setCell _ _ (by simp)) (by rw [own_blk]; intro k hk; simp only [List.mem_singleton]; rintro rfl; exact HNB.out hk), HNW.out, hq, (F2'.out.mono (by simp)).setCell _ _ (by simp)⟩
 ·rw [readS_err _ _ _ _ he]
  have hb : (err != 0) = true := by simpa using he
  go_enter Tryz.func108, Tryz.ntmps108
  go_wp2_with fail
  go_returns
  exact ⟨none, 0, 0, rfl, rfl, Own.nil _ _, by simp [blk], HW.out.kept (Frm.refl [] _) (by simp) (by simp), Frm.refl _ _⟩
theorem qdone_any (b c pos : Nat) (p : Option Addr) (bs : List Int) (err : Int) (w : World) (hw : IsQ w b p c bs pos err) :
  Calls Tryz.prog 83 #[.pointer (some ⟨b, 0, none⟩)] w fun e w' => e = .returned (.int .i64 (doneS bs.length pos err)) ∧ ∃ n, w' = w.drewN n := by
 obtain ⟨hlt, hnb, hpos, hlen, c0, c1, c2, f1, f2, _⟩ := hw.cells
 clear hw
 by_cases he : err = 0
 ·subst he
  by_cases hp : pos < bs.length
  ·rw [show doneS bs.length pos 0 = 13 by simp [doneS, hp]]
   have hb : ((pos : Int) < (bs.length : Int)) := by omega
   go_enter Tryz.func83, Tryz.ntmps83
   go_wp2_with fail
   go_quiet (fail)
   go_wp2_with fail
   go_returns
   exact ⟨rfl, _, rfl⟩
  ·rw [show doneS bs.length pos 0 = 0 by simp [doneS]; omega]
   have hb : ¬ ((pos : Int) < (bs.length : Int)) := by omega
   go_enter Tryz.func83, Tryz.ntmps83
   go_wp2_with fail
   go_quiet (fail)
   go_wp2_with fail
   go_returns
   exact ⟨rfl, _, rfl⟩
 ·rw [show doneS bs.length pos err = err by simp [doneS, he]]
  have hb : (err == 0) = false := by simpa using he
  have hb2 : (err != 0) = true := by simpa using he
  clear he
  go_enter Tryz.func83, Tryz.ntmps83
  go_wp2_with fail
  go_quiet (fail)
  go_wp2_with fail
  go_returns
  exact ⟨rfl, _, rfl⟩
end
section
open Go.RowKit Go.Lib
theorem wp_appR {P : Program} {w : World} {o : Oper} {a : Act} {K : Act → World → Prop} {Q : Exit → Act → World → Prop} (hgd : o.guard = none) (sl x : Operand) (t : TypeId)
  (ho : o.op = .call { callee := .builtin .append, args := #[sl, x], argTypes := #[t, t] })
  (E : TypeId) (ht : P.underlying t = some (.slice E)) (hI : (P.info? E).map (fun i => (i.zero, i.size, i.bytes)) = some (some (.int .u8 0), 1, 1))
  (p0 : Option Addr) (n0 c0 : Nat) (zs : List Int) (hs : a.eval sl = .slice p0 n0 c0) (hn0 : n0 = zs.length) (hown : Own w E (.slice p0 zs.length c0) zs)
  (p : Option Addr) (n c : Nat) (ns : List Int) (hx : a.eval x = .slice p n c) (hn : n = ns.length) (hp : ns = [] → p = none → c = 0) (hrd : Rd w p ns) (hsz : zs.length + ns.length ≤ 140737488355328)
  (h : ∀ xs p2 c2 w', Hid (xs = zs ++ ns) → Hid (Own w' E (.slice p2 xs.length c2) xs) → Hid (Frm (blk p0) w w') → Hid (∀ k ∈ blk p2, k ∈ blk p0 ∨ w.heap.size ≤ k) → K (a.put o.dst (.slice p2 xs.length c2)) w') :
  Oper.wp P o a w K Q := by
 have h2 := step_appB (P := P) (ops := #[]) (Z := True) (Q := Q) hgd sl x t ho E ht hI p0 n0 c0 zs hs hn0 hown p n c ns hx hn hp hrd hsz h
 rwa [if_pos (by simp [Region.wanted, hgd])] at h2
def SldP (w : World) (k : Int) (zs : List Int) (a : S4) (e : Ending) (w' : World) : Prop := ∃ q d, e = .returned (.tuple #[.slice q (37 + zs.length) d, .agg (sealR a (hbL k zs)).arr]) ∧ BufF w none w' q (37 + zs.length) d (recL a k zs)
theorem le_one {k : Int} (h0 : 0 ≤ k) (h1 : k < 256) : le k 1 = [k] := by
 have := le_succ k 0
 simp [le] at this ⊢
 omega
theorem refSealed_any (k : Int) (hk0 : 0 ≤ k) (hk1 : k < 256) (p : Option Addr) (n c : Nat) (zs : List Int) (a : S4) (ha : a.Bd) (w : World) (hn : zs.length = n) (hpc : zs = [] → p = none → c = 0) (hnb : n ≤ 140737488351232) (hrd : Rd w p zs) (hb : ∀ z ∈ zs, 0 ≤ z ∧ z < 256) (hv : Vars w) :
  Calls Tryz.prog 16 #[.int .i64 k, .slice p n c, .agg a.arr] w (SldP w k zs a) := by
 obtain ⟨PO, hPO⟩ : ∃ PO : Ending → World → Prop, SldP w k zs a = PO := ⟨_, rfl⟩
 rw [hPO]
 have HP : Hid (∀ q d w', BufF w none w' q (37 + n) d (recL a k zs) → PO (.returned (.tuple #[.slice q (37 + n) d, .agg (sealR a (hbL k zs)).arr])) w') := hid (fun q d w' h => by rw [← hPO]; unfold SldP; rw [hn]; exact ⟨q, d, rfl, h⟩)
 have hrow := heap_alloc_new w (.cells a.arr 29)
 have hfa : Frm [] w (w.alloc (.cells a.arr 29)) := (Frm.refl _ _).alloc _
 obtain ⟨wa, hwa⟩ := eX (w.alloc (.cells a.arr 29))
 obtain ⟨ba, hba⟩ := eX (w.heap.size)
 rw [hwa, hba] at hrow
 rw [hwa] at hfa
 have hrw2 := heap_alloc_new wa (.cells S4.z.arr 29)
 have hfr : Frm [] wa (wa.alloc (.cells S4.z.arr 29)) := (Frm.refl _ _).alloc _
 obtain ⟨wr, hwr⟩ := eX (wa.alloc (.cells S4.z.arr 29))
 obtain ⟨br, hbr⟩ := eX (wa.heap.size)
 rw [hwr, hbr] at hrw2
 rw [hwr] at hfr
 have hrw3 := heap_alloc_new wr (.cells #[.int .u8 k] 5)
 have hfk : Frm [] wr (wr.alloc (.cells #[.int .u8 k] 5)) := (Frm.refl _ _).alloc _
 obtain ⟨wk, hwk⟩ := eX (wr.alloc (.cells #[.int .u8 k] 5))
 obtain ⟨bk, hbk⟩ := eX (wr.heap.size)
 rw [hwk, hbk] at hrw3
 rw [hwk] at hfk
 have hb1 : ba + 1 = br := by rw [← hbr, ← hwa, ← hba]; simp
 have hb2 : br + 1 = bk := by rw [← hbk, ← hwr, ← hbr]; simp
 have HB1 := hid hb1
 have HB2 := hid hb2
 have HFW : Hid (Frm [] w wr) := hid (hfa.trans hfr (by simp))
 have HOK : Hid (BufF wr none wk (some ⟨bk, 0, none⟩) 1 1 [k]) := hid ⟨own_of_block (E := 5) (zs := [k]) hrw3 (by simp [maxLen]), rfl, hfk.mono (by simp), fun i hi => by simp [blk] at hi; subst hi; right; omega⟩
 have HRA : Hid (∀ V, Frm [] wr V → V.heap[ba]? = some (.cells a.arr 29 (0, 0))) := hid (fun V hf => hf.heap (hfr.heap hrow (by simp)) (by simp))
 have HRR : Hid (∀ V, Frm [] wr V → V.heap[br]? = some (.cells S4.z.arr 29 (0, 0))) := hid (fun V hf => hf.heap hrw2 (by simp))
 have HRD := hid (fun V (hf : Frm [] wr V) => hrd.kept (HFW.out.trans hf (by simp)) (by simp))
 have HVS := hid (fun V (hf : Frm [] wr V) => hv.kept (HFW.out.trans hf (by simp)))
 have HSA := hid (fun V => refSealBytes_any a ha V)
 have HN := hid hn
 have HPC := hid hpc
 have HZB := hid hb
 have HSB := hid (selL_bd a)
 have HWA := hid hwa
 have HWR := hid hwr
 have HWK := hid hwk
 have HBA := hid hba
 have HBR := hid hbr
 have HBK := hid hbk
 have HLK : Hid (le k 1 = [k]) := hid (le_one hk0 hk1)
 have HBR2 : Hid (w.heap.size ≤ br) := hid (by have := hfa.size; omega)
 have HBW : Hid (br < wr.heap.size) := hid (lt_of_heap (HRR.out wr (Frm.refl _ _)))
 clear hPO hrow hfa hwa hba hrw2 hfr hwr hbr hrw3 hfk hwk hbk hb1 hb2 ha hn hpc hrd hb hv
 obtain ⟨a0, a1, a2, a3⟩ := a
 unfold S4.arr at HWA HRA HSA ⊢
 unfold S4.z S4.arr at HWR HRR
 simp only at HWA HRA HSA HWR HRR ⊢
 go_enter Tryz.func16, Tryz.ntmps16
 go_upto_region 1 with fail
 try rw [HWA.out]
 try rw [HBA.out]
 try rw [HB1.out]
 try rw [HWR.out]
 try rw [HBR.out]
 have kw : IntKind.u8.wrap k = k := by rw [IntKind.wrap_u8]; omega
 have kw2 : k % 256 = k := by omega
 have HKW := hid kw
 have HKW2 := hid kw2
 go_upto_region 2 with fail
 try rw [HKW2.out]
 try rw [HWK.out]
 try rw [HBK.out]
 try rw [HB2.out]
 clear HWA HBA HWR HBR HWK HBK HB1 HB2 kw kw2
 have HC := hid (refNumF_any (some ⟨bk, 0, none⟩) 1 1 [k] (n : Int) 4 wk HOK.out.own rfl (by omega) (by omega) (by omega) (by omega))
 go_wp2_with fail
 refine HC.out.mono ?_
 rintro e w2 ⟨p2, c2, rfl, hb⟩
 have HB2 := hid (HOK.out.trans hb)
 obtain ⟨z2, hz2⟩ := eX ([k] ++ le (n : Int) 4)
 rw [hz2] at HB2
 have HZ2 := hid hz2
 obtain ⟨n2, hn2⟩ := eX (1 + 4)
 rw [hn2] at HB2
 rw [hn2]
 have hn2b : n2 = 5 := hn2.symm
 have HN2 := hid hn2b
 clear hb hz2 hn2 hn2b HC
 have HR2 := hid (HRD.out w2 HB2.out.nil.1)
 go_wp2_with (at_builtin; refine wpList_appB rfl _ _ 24 rfl 5 Tryz.underlying24 infoE p2 n2 c2 z2 rfl HB2.out.len.symm (by rw [HB2.out.len]; exact HB2.out.own) p n c zs rfl HN.out.symm HPC.out HR2.out (by rw [HB2.out.len, HN.out, HN2.out]; omega) ?_)
 intro hb3 p3 c3 w3 hxs ho3 hf3 hfr3
 have HB3 := hid (HB2.out.trans (⟨ho3.out, rfl, hf3.out, hfr3.out⟩ : BufF w2 p2 w3 p3 hb3.length c3 hb3))
 have HE3 : Hid (hb3 = hbL k zs) := hid (by rw [hxs.out, ← HZ2.out, ← HLK.out]; unfold hbL; rw [HN.out])
 have hl3 : hb3.length = 5 + n := by rw [HE3.out, hbL_len, HN.out]
 have HL3 := hid hl3
 obtain ⟨n3, hn3⟩ := eX (hb3.length)
 rw [hn3] at HB3
 rw [hn3]
 have hn3b : n3 ≤ 140737488351237 := by omega
 have HN3 := hid hn3
 clear hxs ho3 hf3 hfr3 hl3 hn3
 have y0 := cR 0 (.int .u64 a0) (HRA.out w3 HB3.out.nil.1)
 have y1 := cR 1 (.int .u64 a1) (HRA.out w3 HB3.out.nil.1)
 have y2 := cR 2 (.int .u64 a2) (HRA.out w3 HB3.out.nil.1)
 have y3 := cR 3 (.int .u64 a3) (HRA.out w3 HB3.out.nil.1)
 go_wp2_with fail
 refine (HSA.out w3).mono ?_
 rintro e w4 ⟨p4, c4, rfl, hb⟩
 have HB4 := hid hb
 have HB34 := hid (HB3.out.post hb.nil.1)
 obtain ⟨z4, hz4⟩ := eX (selL ⟨a0, a1, a2, a3⟩)
 rw [hz4] at HB4
 have HZ4 := hid hz4
 clear hb y0 y1 y2 y3 hz4 HSA
 go_wp2_with (at_builtin; refine wpList_appB rfl _ _ 24 rfl 5 Tryz.underlying24 infoE p4 32 c4 z4 rfl HB4.out.len.symm (by rw [HB4.out.len]; exact HB4.out.own) p3 n3 c3 hb3 rfl HN3.out.symm (fun h _ => by have := HL3.out; rw [h] at this; simp at this; omega) HB34.out.own.rd (by rw [HB4.out.len, HN3.out]; omega) ?_)
 intro al p5 c5 w5 hxs ho5 hf5 hfr5
 have HB5 := hid (HB4.out.trans (⟨ho5.out, rfl, hf5.out, hfr5.out⟩ : BufF w4 p4 w5 p5 al.length c5 al))
 have HEA : Hid (al = selL ⟨a0, a1, a2, a3⟩ ++ hbL k zs) := hid (by rw [hxs.out, HE3.out, HZ4.out])
 have HO35 : Hid (Own w5 5 (.slice p3 n3 c3) hb3) := hid (HB34.out.own.kept hf5.out (by
  intro i hi hi4
  rw [own_blk] at hi
  have h1 := HB4.out.nil.2 i hi4
  have h2 := HB3.out.own.lows i hi
  omega))
 have HF5 : Hid (Frm [] wr w5) := hid (HB3.out.nil.1.trans HB5.out.nil.1 (by simp))
 have hla : al.length = 37 + n := by rw [HEA.out, List.length_append, selL_len, hbL_len, HN.out]; omega
 have HLA := hid hla
 clear hxs ho5 hf5 hfr5 hla
 have hof := refOf_any 2 p5 al.length c5 al w5 rfl (fun h _ => by have := HLA.out; rw [h] at this; simp at this; omega) (by rw [HLA.out]; omega) HB5.out.own.rd (fun z hz => by
  rw [HEA.out] at hz
  rcases List.mem_append.1 hz with h | h
  ·exact HSB.out z h
  ·exact hbL_bd HZB.out z h) (HVS.out w5 HF5.out)
 have hsr : (ofS 2 al).1 = sealR ⟨a0, a1, a2, a3⟩ (hbL k zs) := by
  unfold ofS sealR
  rw [if_neg (by omega), if_pos rfl, HEA.out]
 rw [hsr] at hof
 have hsb := shaD_Bd (selL ⟨a0, a1, a2, a3⟩ ++ hbL k zs)
 have HREC : Hid (recL ⟨a0, a1, a2, a3⟩ k zs = hbL k zs ++ selL (sealR ⟨a0, a1, a2, a3⟩ (hbL k zs))) := hid rfl
 have hsd : (sealR ⟨a0, a1, a2, a3⟩ (hbL k zs)).Bd := hsb
 obtain ⟨T, hT⟩ := eX (sealR ⟨a0, a1, a2, a3⟩ (hbL k zs))
 rw [hT] at hof hsd HREC HP
 obtain ⟨t0, t1, t2, t3⟩ := T
 have HSL := hid (fun V => refSealBytes_any ⟨t0, t1, t2, t3⟩ hsd V)
 unfold S4.arr at hof HP HSL
 simp only at hof HP HSL
 have HOF := hid hof
 clear hof hsr hsb hsd hT
 go_wp2_with fail
 refine HOF.out.mono ?_
 rintro e w6 ⟨rfl, hf6⟩
 have hrw := heap_alloc_new w6 (.cells #[.int .u64 t0, .int .u64 t1, .int .u64 t2, .int .u64 t3] 29)
 have hf7 : Frm [] w6 (w6.alloc (.cells #[.int .u64 t0, .int .u64 t1, .int .u64 t2, .int .u64 t3] 29)) := (Frm.refl _ _).alloc _
 obtain ⟨wo, hwo⟩ := eX (w6.alloc (.cells #[.int .u64 t0, .int .u64 t1, .int .u64 t2, .int .u64 t3] 29))
 obtain ⟨bo, hbo⟩ := eX (w6.heap.size)
 rw [hwo, hbo] at hrw
 rw [hwo] at hf7
 have HF5O : Hid (Frm [] w5 wo) := hid (hf6.trans hf7 (by simp))
 have HFO : Hid (Frm [] wr wo) := hid (HF5.out.trans HF5O.out (by simp))
 have HROW : Hid (∀ V, Frm [] wo V → V.heap[bo]? = some (.cells #[.int .u64 t0, .int .u64 t1, .int .u64 t2, .int .u64 t3] 29 (0, 0))) := hid (fun V hf => hf.heap hrw (by simp))
 have HCQ : Hid (∀ V, Frm [] wo V → V.cell? ⟨bo, 0, none⟩ = some (.int .u64 t0) ∧ V.cell? ⟨bo, 1, none⟩ = some (.int .u64 t1) ∧ V.cell? ⟨bo, 2, none⟩ = some (.int .u64 t2) ∧ V.cell? ⟨bo, 3, none⟩ = some (.int .u64 t3)) := hid (fun V hf => by
  have h := HROW.out V hf
  refine ⟨?_, ?_, ?_, ?_⟩ <;> (rw [cell_of_row _ _ _ _ _ _ h]; rfl))
 have HO3 : Hid (∀ V, Frm [] wo V → Own V 5 (.slice p3 n3 c3) hb3) := hid (fun V hf => HO35.out.kept (HF5O.out.trans hf (by simp)) (by simp))
 have HBO : Hid (∀ k ∈ blk p3, ¬ k = bo) := hid (fun k hk he => by
  have h2 := HO35.out.lows k hk
  have h3 := hf6.size
  omega)
 have HCR : Hid (∀ V W, Frm [] wo V → Frm (blk p3) V W → W.cell? ⟨bo, 0, none⟩ = some (.int .u64 t0) ∧ W.cell? ⟨bo, 1, none⟩ = some (.int .u64 t1) ∧ W.cell? ⟨bo, 2, none⟩ = some (.int .u64 t2) ∧ W.cell? ⟨bo, 3, none⟩ = some (.int .u64 t3)) := hid (fun V W h1 h2 => by
  have h := h2.heap (HROW.out V h1) (fun hk => HBO.out bo hk rfl)
  refine ⟨?_, ?_, ?_, ?_⟩ <;> (rw [cell_of_row _ _ _ _ _ _ h]; rfl))
 have HWO := hid hwo
 have HBOQ := hid hbo
 clear hrw hf7 hwo hbo hf6
 go_upto_region 7 with fail
 try rw [HBOQ.out]
 try rw [HWO.out]
 have x0 := HCQ.out wo (Frm.refl _ _)
 clear x0
 refine wp_region_tail (S := fun W => (W.cell? ⟨bo, 0, none⟩ = some (.int .u64 t0) ∧ W.cell? ⟨bo, 1, none⟩ = some (.int .u64 t1) ∧ W.cell? ⟨bo, 2, none⟩ = some (.int .u64 t2) ∧ W.cell? ⟨bo, 3, none⟩ = some (.int .u64 t3))) 6 7 rfl (by kernel_rfl) (by kernel_rfl) ?_
 refine hI (i := 0) (v := ?_) rfl ?_ (HCQ.out _ (Frm.refl [] wo).drew) ?_
 rotate_left 1
 ·rintro W ⟨q0, q1, q2, q3⟩; (try simp only [lA, lZ]); go_simp; try with_reducible rfl
 try simp only [lA, lZ, Act.put, lI, lW, lX]
 refine hI (i := 1) (v := ?_) rfl ?_ (HCQ.out _ (Frm.refl [] wo).drew) ?_
 rotate_left 1
 ·rintro W ⟨q0, q1, q2, q3⟩; (try simp only [lA, lS, lZ]); go_simp; try with_reducible rfl
 try simp only [lA, lS, lZ, Act.put, lI, lW, lX]
 refine hI (i := 4) (v := ?_) rfl ?_ (HCQ.out _ (Frm.refl [] wo).drew) ?_
 rotate_left 1
 ·rintro W ⟨q0, q1, q2, q3⟩; (try simp only [lA, lS, lZ]); go_simp; try with_reducible rfl
 try simp only [lA, lS, lZ, Act.put, lI, lW, lX]
 refine wpAnyHT_one (i := 2) rfl (by kernel_rfl) (by kernel_rfl) (fun K hK => ?_)
 try simp only [lA, lS, lZ]
 go_simp
 refine (HSL.out _).mono ?_
 rintro e w7 ⟨p7, c7, rfl, hb⟩
 have HB7 := hid hb
 have HF7 : Hid (Frm [] wo w7) := hid ((Frm.refl [] wo).drew.trans hb.nil.1 (by simp))
 clear hb
 refine hK _ _ (HCQ.out _ HF7.out) ?_
 clear hK K
 try simp only [lA, lS, lZ, Act.put, lI, lW, lX]
 refine wpAnyHT_one (i := 3) rfl (by kernel_rfl) (by kernel_rfl) (fun K hK => ?_)
 try simp only [lA, lS, lZ]
 rw [if_pos (by rfl)]
 apply wp_appR (sl := .tmp 32) (x := .tmp 34) (t := 24) (E := 5) (p0 := p3) (n0 := n3) (c0 := c3) (zs := hb3) (p := p7) (n := 32) (c := c7) (ns := selL ⟨t0, t1, t2, t3⟩)
 case hgd => exact rfl
 case ho => exact rfl
 case ht => exact Tryz.underlying24
 case hI => exact infoB
 case hs => exact rfl
 case hn0 => exact HB3.out.len.symm
 case hown => rw [HB3.out.len]; exact HO3.out w7 HF7.out
 case hx => exact rfl
 case hn => exact (selL_len _).symm
 case hp => exact (fun h _ => by have h2 := selL_len ⟨t0, t1, t2, t3⟩; rw [h] at h2; simp at h2)
 case hrd => exact HB7.out.own.rd
 case hsz => rw [HB3.out.len, selL_len]; omega
 intro xs p8 c8 w8 hxs ho8 hf8 hb8
 refine hK _ _ (HCR.out _ _ HF7.out hf8.out) ?_
 clear hK K
 try simp only [Act.put, lI, lW, lX]
 refine hI (i := 5) (v := ?_) rfl ?_ (HCR.out _ _ HF7.out hf8.out) ?_
 rotate_left 1
 ·rintro W ⟨q0, q1, q2, q3⟩; (try simp only [lA, lS, lZ]); go_simp; try with_reducible rfl
 try simp only [lA, lS, lZ, Act.put, lI, lW, lX]
 refine wpAnyHT_end (by kernel_rfl) ?_
 simp only [List.drop_succ_cons, List.drop_zero]
 have HX8 : Hid (hb3 ++ selL ⟨t0, t1, t2, t3⟩ = recL ⟨a0, a1, a2, a3⟩ k zs) := hid (by rw [HREC.out, HE3.out])
 obtain rfl : xs = recL ⟨a0, a1, a2, a3⟩ k zs := by rw [hxs.out, HX8.out]
 have hlr : (recL ⟨a0, a1, a2, a3⟩ k zs).length = 37 + n := by rw [recL_len, HN.out]
 rw [hlr]
 have ho8x := ho8.out
 rw [hlr] at ho8x
 have HB3O : Hid (BufF wr none w7 p3 n3 c3 hb3) := hid (HB3.out.post ((HB5.out.nil.1.trans HF5O.out (by simp)).trans HF7.out (by simp)) |> fun _ => ⟨HO3.out w7 HF7.out, HB3.out.len, ((HFO.out.trans HF7.out (by simp)).mono (by simp)), HB3.out.bk⟩)
 have HB8 : Hid (BufF wr none w8 p8 (37 + n) c8 (recL ⟨a0, a1, a2, a3⟩ k zs)) := hid (HB3O.out.trans ⟨ho8x, hlr, hf8.out, hb8.out⟩)
 have hr8 := HRR.out w8 HB8.out.nil.1
 have y0 := fZ 0 hr8
 have y1 := fZ 1 hr8
 have y2 := fZ 2 hr8
 have y3 := fZ 3 hr8
 have v0 := cR 0 (.int .u64 0) hr8
 have v1 := cR 1 (.int .u64 0) hr8
 have v2 := cR 2 (.int .u64 0) hr8
 have v3 := cR 3 (.int .u64 0) hr8
 have HR8 := hid hr8
 clear hxs ho8 hf8 hb8 hlr ho8x hr8
 go_wp2_with fail
 obtain ⟨h4, f4⟩ := set4 (y0 := .int .u64 t0) (y1 := .int .u64 t1) (y2 := .int .u64 t2) (y3 := .int .u64 t3) HR8.out
 obtain ⟨Wz, hWz⟩ := eX (((((w8.setCell ⟨br, 0, none⟩ (.int .u64 t0)).setCell ⟨br, 1, none⟩ (.int .u64 t1)).setCell ⟨br, 2, none⟩ (.int .u64 t2)).setCell ⟨br, 3, none⟩ (.int .u64 t3)))
 rw [hWz] at h4 f4
 rw [hWz]
 have u0 := cR 0 (.int .u64 t0) h4
 have u1 := cR 1 (.int .u64 t1) h4
 have u2 := cR 2 (.int .u64 t2) h4
 have u3 := cR 3 (.int .u64 t3) h4
 refine bodyPost_ret (v := .tuple #[.slice p8 (37 + n) c8, .agg #[.int .u64 t0, .int .u64 t1, .int .u64 t2, .int .u64 t3]]) (by simp [results, Tryz.results16, go_sem, u0, u1, u2, u3]) rfl ?_
 refine HP.out _ _ _ ⟨HB8.out.own.kept f4 (fun i hi he => ?_), HB8.out.len, ?_, ?_⟩
 ·rw [own_blk] at hi
  rw [List.mem_singleton] at he
  have h1 := HB8.out.nil.2 i hi
  have h2 := HBW.out
  omega
 ·have h1 : Frm [] w w8 := HFW.out.trans HB8.out.nil.1 (by simp)
  exact (h1.trans f4 (fun i hi hl => by rw [List.mem_singleton] at hi; have := HBR2.out; omega)).mono (by simp)
 ·intro i hi
  have h1 := HB8.out.nil.2 i hi
  have h2 := HFW.out.size
  omega
end
end Go.Proofs.YtajfjkfnmmfhmaaGreatDoor
