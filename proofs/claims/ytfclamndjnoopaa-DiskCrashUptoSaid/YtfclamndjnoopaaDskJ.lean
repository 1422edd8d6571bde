/- Disks and their power: Flush. -/
import Derived.Test.YtfclamndjnoopaaDskI
namespace Go.Proofs.Ytfclamndjnoopaa
open Go.RowKit Go.Lib
set_option maxRecDepth 100000

/-- What is answered before anything else. -/
def downE (S : PSt) (D : DSt) : Int := if S.out then 5 else if D.failed then 30 else 0
theorem askE_down {S : PSt} {D : DSt} : askE S D 0 0 = downE S D := by
  unfold askE downE
  split
  · rfl
  split
  · rfl
  rw [if_neg (by omega)]
/-- A disk that was flushed. -/
def DSt.flush (D : DSt) (S : PSt) : DSt := { D with plat := over D.db D.plat S.ws }
def PSt.rest (S : PSt) (db : Nat) : PSt := { S with ws := restW db S.ws }
theorem IsRack.other {w : World} {pb : Nat} {S : PSt} {q : Option Addr} {c : Nat} {Ds : List DSt} (h : IsRack w pb S q c Ds) {i : Nat} {D : DSt} (hi : Ds[i]? = some D) : ∀ x ∈ S.ws, x.disk ≠ D.gp ∧ x.disk ≠ D.gs ∧ x.disk ∉ blk q ∧ x.disk ≠ pb ∧ ∃ ca ta, w.heap[x.disk]? = some (.cells ca ta (0, 0)) := by
  intro x hx
  obtain ⟨_, j, E, hj, hxd, _⟩ := h.wt x hx
  have hE := h.dsk j E hj
  have hD := h.dsk i D hi
  refine ⟨fun e => ?_, fun e => ?_, fun e => ?_, fun e => ?_, ?_⟩
  · by_cases hij : i = j
    · subst hij; rw [hi] at hj; cases hj; exact hD.a2 (hxd.symm.trans e)
    · exact h.apD i j D E hi hj hij D.gp (by simp [DSt.blks]) (by simp [DSt.blks, ← e, hxd])
  · by_cases hij : i = j
    · subst hij; rw [hi] at hj; cases hj; exact hD.a3 (hxd.symm.trans e)
    · exact h.apD i j D E hi hj hij D.gs (by simp [DSt.blks]) (by simp [DSt.blks, ← e, hxd])
  · exact h.apQ j E hj _ e (by simp [DSt.blks, hxd])
  · exact h.apP j E hj (by simp [DSt.blks, ← e, hxd])
  · exact ⟨_, _, by rw [hxd]; exact hE.row⟩
theorem IsRack.at_of {w : World} {pb : Nat} {S : PSt} {q : Option Addr} {c : Nat} {Ds : List DSt} (h : IsRack w pb S q c Ds) {i : Nat} {D : DSt} (hi : Ds[i]? = some D) : ∀ x ∈ S.ws, x.disk = D.db → x.bytes.length = 128 ∧ x.at_ < D.n ∧ ∀ z ∈ x.bytes, 0 ≤ z ∧ z < 256 := by
  intro x hx hd
  obtain ⟨hz, j, E, hj, hxd, ha⟩ := h.wt x hx
  have : E = D := by
    by_cases hij : i = j
    · subst hij; rw [hi] at hj; cases hj; rfl
    · exact absurd (hd.symm.trans hxd) (fun e => h.apD i j D E hi hj hij D.db (by simp [DSt.blks]) (by simp [DSt.blks, e]))
  subst this
  exact ⟨h.pow.len x hx, ha, hz⟩
/-- drop over a rack. -/
theorem drop_any (pb : Nat) (S : PSt) (q : Option Addr) (c : Nat) (Ds : List DSt) (i : Nat) (D : DSt) (keep : Bool) (f : FuncId) (cap : Array Value) (w : World) (h : IsRack w pb S q c Ds) (hi : Ds[i]? = some D)
    (hcf : ∀ v W, Sem.run Try.prog (callFunc f (#[v] ++ cap)) W = .ok (.enter f (#[v] ++ cap)) W) (hform : Tells w pb q S D keep f cap) :
    Calls Try.prog 31 #[.pointer (some ⟨pb, 0, none⟩), .pointer (some ⟨D.db, 0, none⟩), .func (.func f) #[] cap] w fun e w' => e = .returned (.tuple #[]) ∧ IsPow w' pb (S.rest D.db) q c ∧ IsDisk w' pb { D with plat := if keep then over D.db D.plat S.ws else D.plat } ∧ Frm ([pb, D.gp] ++ blk q) w w' := by
  have hap := h.apP i D hi
  have haq := h.apQ i D hi
  simp only [DSt.blks, List.mem_cons, List.not_mem_nil, or_false, not_or] at hap
  have hsh : q = none ∨ ∃ gq, q = some ⟨gq, 0, none⟩ := by
    rcases h.pow.own.2 with ⟨e, _⟩ | ⟨g, cp, cur, he, _⟩
    · simp at e; exact Or.inl e.1
    · simp at he; exact Or.inr ⟨g, he.1⟩
  rcases hsh with rfl | ⟨gq, rfl⟩
  · refine (drop_none pb c S (.pointer (some ⟨D.db, 0, none⟩)) (.func (.func f) #[] cap) w h.pow).mono ?_
    rintro e w' ⟨rfl, hp, hnil, hf⟩
    have e1 : S.rest D.db = S := by simp [PSt.rest, hnil, restW]; rw [← hnil]
    have e2 : ({ D with plat := if keep then over D.db D.plat S.ws else D.plat } : DSt) = D := by rw [hnil]; cases keep <;> rfl
    refine ⟨rfl, by rw [e1]; exact hp, by rw [e2]; exact (h.dsk i D hi).kept hf (by simp; exact fun e => hap.1 e.symm) (by simp; exact fun e => hap.2.1 e.symm) (by simp; exact fun e => hap.2.2 e.symm), hf.mono (by simp)⟩
  · have hq : ∀ k, k ∈ D.blks → k ≠ gq := fun k hk e => haq gq (by simp [blk]) (by rw [← e]; exact hk)
    refine (drop_some pb gq c S D keep f cap w h.pow (h.dsk i D hi) ⟨hq _ (by simp [DSt.blks]), hq _ (by simp [DSt.blks]), hq _ (by simp [DSt.blks]), fun e => hap.1 e.symm, fun e => hap.2.1 e.symm, fun e => hap.2.2 e.symm⟩ (fun x hx => ?_) hcf hform).mono ?_
    · obtain ⟨o1, _, o2, _, o3⟩ := h.other hi x hx
      exact ⟨o1, fun e => o2 (by simp [blk, e]), o3⟩
    · rintro e w' ⟨rfl, hp, hd, hf⟩
      exact ⟨rfl, hp, hd, hf.mono (by simp [blk])⟩
theorem callableD {P : Program} {f : FuncId} {fn : Func} (h : P.funcs[f]? = some fn) (h1 : (fn.name == "runtime.NumGoroutine") = false) (h2 : fn.body.isNone = false) (cap : Array Value) (w : World) : Sem.run P (callFunc f cap) w = .ok (.enter f cap) w := by
  have e1 : ¬ (fn.name = "runtime.NumGoroutine") := by simpa using h1
  have e2 : ¬ fn.body = none := by intro h; simp [h] at h2
  simp [callFunc, h, e1, e2]
set_option maxHeartbeats 1600000 in
theorem flush_any (pb : Nat) (S : PSt) (q : Option Addr) (c : Nat) (Ds : List DSt) (i : Nat) (D : DSt) (w : World) (h : IsRack w pb S q c Ds) (hi : Ds[i]? = some D) :
    Calls Try.prog 12 #[.pointer (some ⟨D.db, 0, none⟩)] w fun e w' => e = .returned (.int .i64 (downE S D)) ∧ ((downE S D ≠ 0 ∧ Frm [] w w') ∨ (downE S D = 0 ∧ IsPow w' pb (S.rest D.db) q c ∧ IsDisk w' pb (D.flush S) ∧ Frm ([pb, D.gp] ++ blk q) w w')) := by
  have H := hid h
  have hlow : ∀ k ∈ D.blks, k < w.heap.size := h.disk_low hi
  have hdb := hlow D.db (by simp [DSt.blks])
  have hfa : Frm [] w (w.alloc (.cells #[.pointer (some ⟨D.db, 0, none⟩)] 26)) := (Frm.refl _ _).alloc _
  have hbx := heap_alloc_new w (.cells #[.pointer (some ⟨D.db, 0, none⟩)] 26)
  obtain ⟨bx, hb⟩ : ∃ b, w.heap.size = b := ⟨_, rfl⟩
  obtain ⟨w1, hw1⟩ : ∃ W, w.alloc (.cells #[.pointer (some ⟨D.db, 0, none⟩)] 26) = W := ⟨_, rfl⟩
  rw [hw1] at hfa hbx
  rw [hb] at hbx
  have hr1 := h.kept hfa (by simp) (by simp) (by simp)
  have HA := hid (ask_any pb S q c D 0 0 _ hr1.pow (hr1.dsk i D hi) (by omega) (by omega))
  rw [askE_down] at HA
  have cb : w1.cell? ⟨bx, 0, none⟩ = some (.pointer (some ⟨D.db, 0, none⟩)) := by rw [cell_of_row _ _ _ _ _ _ hbx]; rfl
  obtain ⟨C, hC⟩ : ∃ C, downE S D = C := ⟨_, rfl⟩
  rw [hC] at HA ⊢
  obtain ⟨PO, hPO⟩ : ∃ PO : Ending → World → Prop, (fun e w' => e = .returned (.int .i64 C) ∧ ((C ≠ 0 ∧ Frm [] w w') ∨ (C = 0 ∧ IsPow w' pb (S.rest D.db) q c ∧ IsDisk w' pb (D.flush S) ∧ Frm ([pb, D.gp] ++ blk q) w w'))) = PO := ⟨_, rfl⟩
  rw [hPO]
  have HPO := hid hPO
  have HFA := hid hfa
  have HBX := hid hbx
  have HR1 := hid hr1
  have HBN : Hid (bx ∉ D.blks ∧ bx ≠ pb ∧ bx ∉ blk q) := hid ⟨fun hk => by have := hlow _ hk; omega, fun e => by have := lt_of_heap h.pow.row; omega, fun hk => by have := ownsRow_low h.pow.own _ hk; omega⟩
  clear h hlow hfa hbx hr1 hC hPO
  go_enter Try.func12, Try.ntmps12
  go_wp2_with fail
  refine HA.out.mono ?_
  rintro e w2 ⟨rfl, rfl⟩
  by_cases h0 : C = 0
  case neg =>
    have hb0 : (C != 0) = true := by simpa using h0
    go_wp2_with fail
    rw [← HPO.out]
    exact ⟨rfl, Or.inl ⟨h0, HFA.out⟩⟩
  subst h0
  obtain ⟨c0, c1, c2, c3, c4⟩ := (HR1.out.dsk i D hi).cells
  clear HA c1 c2 c3 c4
  go_wp2_with fail
  go_still_tail 6, (by kernel_rfl)
  change wpList _ _ _ _ _ w2.drew
  obtain ⟨w3, hw3⟩ : ∃ W, w2.drew = W := ⟨_, rfl⟩
  have hf3 : Frm [] w2 w3 := by rw [← hw3]; exact (Frm.refl _ _).drew
  rw [hw3]
  have HF3 := hid hf3
  have HR3 := hid (HR1.out.kept hf3 (by simp) (by simp) (by simp))
  have HBX3 := hid (hf3.heap HBX.out (by simp))
  have HDR := hid (drop_any pb S q c Ds i D true 32 #[.pointer (some ⟨bx, 0, none⟩)] w3 HR3.out hi (fun v W => callableD Try.func32 (by kernel_rfl) (by kernel_rfl) _ W) (fun W gq k x P hx hxd hq hf hd hr => by
    obtain ⟨b1, b2, b3⟩ := HR3.out.at_of hi x hx hxd
    have hn : bx ∉ [D.gp] ++ blk q := by
      simp only [List.mem_append, List.mem_singleton, not_or]
      exact ⟨fun e => HBN.out.1 (by simp [DSt.blks, e]), HBN.out.2.2⟩
    refine flush1_any pb _ bx gq k x W hd (by rw [cell_of_row _ _ _ _ _ _ (hf.heap HBX3.out hn)]; rfl) hr b1 b2 b3))
  clear hw3 hf3 hw1 cb c0
  go_wp2_with fail
  refine HDR.out.mono ?_
  rintro e w4 ⟨rfl, hp4, hd4, hf4⟩
  have HP4 := hid hp4
  have HD4 := hid hd4
  have HF4 := hid hf4
  clear hp4 hd4 hf4
  go_wp2_with fail
  rw [← HPO.out]
  exact ⟨rfl, Or.inr ⟨trivial, HP4.out, HD4.out, ((HFA.out.trans HF3.out (by simp)).mono (by simp)).trans HF4.out (fun k hk _ => hk)⟩⟩
end Go.Proofs.Ytfclamndjnoopaa
