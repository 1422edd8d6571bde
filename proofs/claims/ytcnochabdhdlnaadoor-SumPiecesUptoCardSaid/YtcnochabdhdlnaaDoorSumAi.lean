/- Helpers of the laws of layer 2: bytes that are lent, and whether they stayed. -/
import Derived.Test.YtcnochabdhdlnaaDoorSumK
namespace Go.Proofs.YtcnochabdhdlnaaDoor
open Go.RowKit
set_option maxRecDepth 100000

set_option maxHeartbeats 1600000 in
theorem lent2_any (p : Option Addr) (n c : Nat) (zs : List Int) (w : World) (hn : zs.length = n) (hp : zs = [] → p = none → c = 0) (hnb : n + 2 ≤ 140737488355328) (hrd : Rd w p zs) :
    Calls Tryd.prog 9 #[.slice p n c] w fun e w' => ∃ g d, e = .returned (.slice (some ⟨g, 0, none⟩) n d) ∧ n + 2 ≤ d ∧ Own w' 5 (.slice (some ⟨g, 0, none⟩) (n + 2) d) (zs ++ [77, 78]) ∧ Frm [] w w' ∧ w.heap.size ≤ g := by
  have HRD := hid hrd
  have HN := hid hn
  have HP := hid hp
  clear hrd hn hp
  go_enter Tryd.func9, Tryd.ntmps9
  go_wp2_with (at_builtin; refine wpList_appB rfl _ _ 22 rfl 5 Tryd.underlying22 infoB none 0 0 [] rfl rfl (Own.nil _ _) p n c zs rfl HN.out.symm HP.out HRD.out (by rw [HN.out]; simp; omega) ?_)
  intro xs1 p1 c1 w1 hxs ho hf1 hfr
  have hx1 : xs1 = zs := hxs.out
  subst xs1
  have HO1 := hid ho.out
  have HF1 : Hid (Frm [] w w1) := hid (hf1.out.mono (by simp [blk]))
  have HB1 : Hid (∀ k ∈ blk p1, w.heap.size ≤ k) := hid (fun k hk => by
    rcases hfr.out k hk with h | h
    · simp [blk] at h
    · exact h)
  rw [HN.out] at HO1 ⊢
  clear ho hf1 hfr
  have HF2 : Hid (Frm [] w (w1.alloc (.cells #[.int .u8 77, .int .u8 78] 5))) := hid (HF1.out.alloc _)
  have HO2 : Hid (Own (w1.alloc (.cells #[.int .u8 77, .int .u8 78] 5)) 5 (.slice p1 n c1) zs) := hid (HO1.out.kept ((Frm.refl [] w1).alloc _) (by simp))
  have HR2 : Hid (Rd (w1.alloc (.cells #[.int .u8 77, .int .u8 78] 5)) (some ⟨w1.heap.size, 0, none⟩) [77, 78]) := hid (own_of_block (E := 5) (zs := [77, 78]) (heap_alloc_new _ _) (by simp [maxLen])).rd
  go_wp2_with (at_builtin; refine wpList_appB rfl _ _ 22 rfl 5 Tryd.underlying22 infoB p1 n c1 zs rfl HN.out.symm (by rw [HN.out]; exact HO2.out) (some ⟨w1.heap.size, 0, none⟩) 2 2 [77, 78] rfl rfl (by simp) HR2.out (by rw [HN.out]; simp; omega) ?_)
  intro xs2 p2 c2 w2 hxs ho hf2 hfr
  have hl2 : xs2.length = n + 2 := by rw [hxs.out, List.length_append, HN.out]; rfl
  have ho2 := ho.out
  rw [hl2] at ho2 ⊢
  have hx2 := hxs.out
  subst hx2
  have HF3 : Hid (Frm [] w w2) := hid (HF2.out.trans hf2.out (fun k hk hl => by have := HB1.out k hk; omega))
  obtain ⟨p', c', he, hle, hnone, hsome, _⟩ := ho2.shape
  simp only [Value.slice.injEq] at he
  obtain ⟨rfl, _, rfl⟩ := he
  cases p2 with
  | none => exact absurd (congrArg List.length (hnone rfl).1) (by rw [hl2]; simp)
  | some a =>
  obtain ⟨ea, eb, _⟩ := hsome a rfl
  obtain ⟨g, o, s⟩ := a
  simp only at ea eb
  subst ea
  subst eb
  have hg : w.heap.size ≤ g := by
    rcases hfr.out g (by simp [blk]) with h | h
    · exact HB1.out g h
    · have := HF1.out.size; have := HF2.out.size; omega
  have HO3 := hid ho2
  have HG := hid hg
  rw [hl2] at hle
  have hle1 : n ≤ c2 := by omega
  have HLE := hid hle
  clear ho hf2 hfr ho2 hl2 hnone hsome hg hle
  go_wp2_with fail
  go_returns
  have hnz := HN.out
  subst hnz
  exact ⟨g, c2, rfl, HLE.out, HO3.out, HF3.out, HG.out⟩
set_option maxHeartbeats 1600000 in
theorem still2_any (g n d : Nat) (p : Option Addr) (c : Nat) (zs : List Int) (w : World) (hn : zs.length = n) (hnb : n + 2 ≤ 140737488355328) (hd : n + 2 ≤ d) (hl : Rd w (some ⟨g, 0, none⟩) (zs ++ [77, 78])) (hrd : Rd w p zs) :
    Calls Tryd.prog 12 #[.slice (some ⟨g, 0, none⟩) n d, .slice p n c] w fun e w' => e = .returned (.bool true) ∧ Frm [] w w' := by
  have hln : (zs ++ [77, 78] : List Int).length = n + 2 := by rw [List.length_append, hn]; rfl
  have htk : (zs ++ [77, 78] : List Int).take n = zs := by rw [← hn, List.take_left]
  have c77 : w.cell? ⟨g, n, none⟩ = some (.int .u8 77) := by
    obtain ⟨g', o', e, hc⟩ := rd_byte (i := n) hl (by omega)
    simp only [Option.some.injEq, Addr.mk.injEq, and_true] at e
    obtain ⟨rfl, rfl⟩ := e
    rw [Nat.zero_add] at hc
    rw [hc, ← hn]
    simp
  have c78 : w.cell? ⟨g, n + 1, none⟩ = some (.int .u8 78) := by
    obtain ⟨g', o', e, hc⟩ := rd_byte (i := n + 1) hl (by omega)
    simp only [Option.some.injEq, Addr.mk.injEq, and_true] at e
    obtain ⟨rfl, rfl⟩ := e
    rw [Nat.zero_add] at hc
    rw [hc, ← hn]
    simp
  have hcv1 := fun k => cv_any (P := Tryd.prog) (w := w.drewN k) 22 5 9 Tryd.underlying22 Tryd.underlying5 Tryd.underlying9 (n := n) ((by have h := hl.take n; rw [htk] at h; exact h : Rd w (some ⟨g, 0, none⟩) zs).drewN k) d hn
  have hcv2 := fun k => cv_any (P := Tryd.prog) (w := w.drewN k) 22 5 9 Tryd.underlying22 Tryd.underlying5 Tryd.underlying9 (hrd.drewN k) c hn
  generalize strOfNums zs = S at hcv1 hcv2
  have q0 : IntKind.i64.wrap ((n : Int) + 2) = ((n + 2 : Nat) : Int) := by rw [IntWalk.i64_in _ (by omega)]; omega
  have q1 : IntKind.i64.wrap ((n : Int) + 1) = ((n + 1 : Nat) : Int) := by rw [IntWalk.i64_in _ (by omega)]; omega
  have hd0 : n ≤ d := by omega
  have i0 : (n : Int) < ((n + 2 : Nat) : Int) := by omega
  have i1 : ((n + 1 : Nat) : Int) < ((n + 2 : Nat) : Int) := by omega
  clear hln htk hl hrd
  go_enter Tryd.func12, Tryd.ntmps12
  go_wp2_with fail
  go_quiet (fail)
  go_wp2_with fail
  go_returns
  exact ⟨rfl, (Frm.refl _ _).drewN _⟩
end Go.Proofs.YtcnochabdhdlnaaDoor
