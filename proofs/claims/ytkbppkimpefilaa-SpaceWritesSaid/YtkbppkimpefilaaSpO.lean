/- The law's lent and still: entries with another one behind them. -/
import Derived.Test.YtkbppkimpefilaaSpK
import Derived.Test.YtkbppkimpefilaaSpE
import Derived.Test.YtkbppkimpefilaaRowT
namespace Go.Proofs.Ytkbppkimpefilaa
open Go.RowKit Go.Lib
set_option maxRecDepth 100000

def sq7 : Sq := ⟨false, ⟨-7, 0⟩⟩
/-- A list that was lent: its own, one more entry behind it. -/
def Lent (w : World) (p : Option Addr) (n c : Nat) (es : List Sq) : Prop := OwnE w p (n + 1) c (es ++ [sq7]) ∧ es.length = n
theorem Lent.kept {w w' : World} {p : Option Addr} {n c : Nat} {es : List Sq} {T : List Nat} (h : Lent w p n c es) (hf : Frm T w w') (hp : ∀ k ∈ blk p, k ∉ T) : Lent w' p n c es := ⟨h.1.kept hf hp, h.2⟩
theorem Lent.rv {w : World} {p : Option Addr} {n c : Nat} {es : List Sq} (h : Lent w p n c es) : Rv w p (rowE es) := by
  have h1 := (h.1.rv).takeV (k := n * 3)
  rw [rowE_take, ← h.2, List.take_left] at h1
  exact h1
set_option maxHeartbeats 6400000 in
theorem lent10_any (p : Option Addr) (n c : Nat) (es : List Sq) (w : World) (hr : Rv w p (rowE es)) (hn : es.length = n) (hp : p = none → c = 0) (hc : n * 24 ≤ 140737488351232) :
    Calls Try.prog 12 #[.slice p n c] w fun e w' => ∃ p' c', e = .returned (.slice p' n c') ∧ Lent w' p' n c' es ∧ Frm [] w w' ∧ ∀ k ∈ blk p', w.heap.size ≤ k := by
  have HR := hid hr
  have HN := hid hn
  have HP := hid hp
  have hu : Try.prog.underlying 22 = some (.slice 41) := Try.underlying22
  have HOW : Hid (∀ W : World, W.ownsRow 0 41 3 (.slice none 0 0) 0 (rowE [])) := hid (fun W => ⟨rfl, Or.inl ⟨rfl, rfl⟩⟩)
  clear hr hn hp
  go_enter Try.func12, Try.ntmps12
  go_wp2_with (at_builtin; refine wpList_appV rfl _ _ 22 rfl 41 3 24 _ hu infoSq rfl (by decide) none 0 0 (rowE []) rfl (HOW.out _) p n c (rowE es) rfl (by rw [rowE_len, HN.out]) (fun _ h => HP.out h) HR.out (rowE_one _) (by unfold maxLen; omega) (by omega) ?_)
  intro p2 c2 w2 ho2 hf2 hb2
  have HF2 : Hid (Frm [] w w2) := hid (by have := hf2.out; simpa [blk] using this)
  have HB2 : Hid (∀ k ∈ blk p2, w.heap.size ≤ k) := hid (fun k hk => by have := hb2.out k hk; simpa [blk] using this)
  have HO2 : Hid (w2.ownsRow 0 41 3 (.slice p2 n c2) n (rowE es)) := hid (by have := ho2.out; simpa [rowE] using this)
  have e0 : 0 + n = n := by omega
  have h3 : Frm [] w2 (w2.alloc (.cells #[.bool false, .int .i64 (-7), .int .i64 0] 41)) := (Frm.refl _ _).alloc _
  have HOX := hid (ownsRow_kept HO2.out h3 (by simp))
  have HRV := hid (rv_block (heap_alloc_new w2 (.cells #[.bool false, .int .i64 (-7), .int .i64 0] 41)))
  have HF3 := hid h3
  try rw [e0]
  clear ho2 hf2 hb2 HOW h3 e0
  go_wp2_with (at_builtin; refine wpList_appV rfl _ _ 22 rfl 41 3 24 _ hu infoSq rfl (by decide) p2 n c2 (rowE es) rfl HOX.out (some ⟨w2.heap.size, 0, none⟩) 1 1 [.bool false, .int .i64 (-7), .int .i64 0] rfl rfl (by simp) HRV.out (by intro u hu; simp at hu; rcases hu with rfl | rfl | rfl <;> rfl) (by unfold maxLen; omega) (by omega) ?_)
  intro p4 c4 w4 ho4 hf4 hb4
  have HL : Hid (Lent w4 p4 n c4 es) := hid ⟨⟨by rw [rowE_app]; exact ho4.out, by rw [List.length_append, HN.out]; rfl⟩, HN.out⟩
  have HF4 : Hid (Frm [] w w4) := hid ((HF2.out.trans HF3.out (by simp)).trans hf4.out (fun k hk hkl => by have := HB2.out k hk; omega))
  have HB4 : Hid (∀ k ∈ blk p4, w.heap.size ≤ k) := hid (fun k hk => by
    rcases hb4.out k hk with h | h
    · exact HB2.out k h
    · have h8 := HF2.out.size; have h9 := HF3.out.size; omega)
  have hs1 : ∀ W, (Instr.slice 22 (.slice p4 (n + 1) c4) none (some (.int .i64 (n : Int))) none).run Try.prog W = _ := fun W => sl_h hu infoSq p4 (n + 1) c4 n (by have := HL.out.1.cap; omega) W
  clear ho4 hf4 hb4 HOX HRV HF2 HF3 HB2 HO2
  go_wp2_with fail
  first | go_returns | skip
  exact ⟨p4, c4, rfl, HL.out, HF4.out, HB4.out⟩
set_option maxHeartbeats 6400000 in
theorem still10_any (p q : Option Addr) (n c d : Nat) (es : List Sq) (w : World) (h : Lent w p n c es) (hq : Rv w q (rowE es)) (hn : n ≤ 9223372036854775800) :
    Calls Try.prog 19 #[.slice p n c, .slice q n d] w fun e w' => e = .returned (.bool true) ∧ Frm [] w w' := by
  have HL := hid (fun W (hf : Frm [] w W) => h.kept hf (by simp))
  have HSA := hid (same10_any p q c d es n w h.rv hq h.2 (by omega))
  have hu : Try.prog.underlying 22 = some (.slice 41) := Try.underlying22
  have hs1 : ∀ W, (Instr.slice 22 (.slice p n c) none (some (.int .i64 ((n : Int) + 1))) none).run Try.prog W = .ok (.slice p (n + 1) c) W := fun W => by
    have := sl_h hu infoSq p n c (n + 1) (h.1.cap.1) W
    simpa using this
  have hw : IntKind.i64.wrap ((n : Int) + 1) = (n : Int) + 1 := IntWalk.i64_in _ ⟨by omega, by omega⟩
  have HEN := hid h.2
  clear h hq
  go_enter Try.func19, Try.ntmps19
  go_wp2_with fail
  refine HSA.out.mono ?_
  rintro e w2 ⟨rfl, hf2⟩
  have HF2 := hid hf2
  obtain ⟨g, o, hg, y0, y1, y2⟩ := rvE_at ((HL.out w2 hf2).1.rv) (i := n) (y := sq7) (by rw [← HEN.out, List.getElem?_append_right (by omega)]; simp)
  obtain ⟨g', C, hg', _, _, _, _, _⟩ := (HL.out w2 hf2).1.block (by omega)
  rw [hg'] at hg
  cases hg
  subst hg'
  rw [Nat.zero_add] at y0 y1 y2
  rw [show sq7.f = false from rfl] at y0
  rw [show sq7.s.a = -7 from rfl] at y1
  rw [show sq7.s.m = 0 from rfl] at y2
  clear hf2 HSA
  go_wp2_with fail
  first | go_returns | skip
  exact ⟨rfl, HF2.out⟩
end Go.Proofs.Ytkbppkimpefilaa
