/- Disks and their power together: what holds of them between two calls. Disks and their power: Flush. -/
import Derived.Test.YtfclamndjnoopaaDskG
namespace Go.Proofs.Ytfclamndjnoopaa
section
open Go.RowKit Go.Lib
set_option maxRecDepth 100000

def DSt.blks (D : DSt) : List Nat := [D.db, D.gp, D.gs]
/-- A power with its disks: nothing lies in one block, what waits is of these disks, and what is seen is the platter with all that waits. -/
structure IsRack (w : World) (pb : Nat) (S : PSt) (q : Option Addr) (c : Nat) (Ds : List DSt) : Prop where
  pow : IsPow w pb S q c
  dsk : ∀ (i : Nat) (D : DSt), Ds[i]? = some D → IsDisk w pb D
  apP : ∀ (i : Nat) (D : DSt), Ds[i]? = some D → pb ∉ D.blks
  apQ : ∀ (i : Nat) (D : DSt), Ds[i]? = some D → ∀ k ∈ blk q, k ∉ D.blks
  apD : ∀ (i j : Nat) (D E : DSt), Ds[i]? = some D → Ds[j]? = some E → i ≠ j → ∀ k ∈ D.blks, k ∉ E.blks
  wt : ∀ x ∈ S.ws, (∀ z ∈ x.bytes, 0 ≤ z ∧ z < 256) ∧ ∃ (i : Nat) (D : DSt), Ds[i]? = some D ∧ x.disk = D.db ∧ x.at_ < D.n
  lf : S.bounded = true → 0 ≤ S.left
  inv : ∀ (i : Nat) (D : DSt), Ds[i]? = some D → D.seen = over D.db D.plat S.ws
theorem IsRack.disk_low {w : World} {pb : Nat} {S : PSt} {q : Option Addr} {c : Nat} {Ds : List DSt} (h : IsRack w pb S q c Ds) {i : Nat} {D : DSt} (hi : Ds[i]? = some D) : ∀ k ∈ D.blks, k < w.heap.size := by
  intro k hk
  have hd := h.dsk i D hi
  simp only [DSt.blks, List.mem_cons, List.not_mem_nil, or_false] at hk
  rcases hk with rfl | rfl | rfl
  · exact lt_of_heap hd.row
  · exact lt_of_heap hd.pl
  · exact lt_of_heap hd.se
theorem IsDisk.keptB {w w' : World} {pb : Nat} {D : DSt} {T : List Nat} (h : IsDisk w pb D) (hf : Frm T w w') (hn : ∀ k ∈ D.blks, k ∉ T) : IsDisk w' pb D :=
  h.kept hf (hn _ (by simp [DSt.blks])) (hn _ (by simp [DSt.blks])) (hn _ (by simp [DSt.blks]))
theorem IsRack.kept {w w' : World} {pb : Nat} {S : PSt} {q : Option Addr} {c : Nat} {Ds : List DSt} {T : List Nat} (h : IsRack w pb S q c Ds) (hf : Frm T w w') (h1 : pb ∉ T) (h2 : ∀ k ∈ blk q, k ∉ T) (h3 : ∀ (i : Nat) (D : DSt), Ds[i]? = some D → ∀ k ∈ D.blks, k ∉ T) : IsRack w' pb S q c Ds :=
  ⟨h.pow.kept hf h1 h2, fun i D hi => (h.dsk i D hi).keptB hf (h3 i D hi), h.apP, h.apQ, h.apD, h.wt, h.lf, h.inv⟩
/-- One disk and the power change, nothing else. -/
theorem IsRack.step {w w' : World} {pb : Nat} {S S' : PSt} {q q' : Option Addr} {c c' : Nat} {Ds : List DSt} {i : Nat} {D D' : DSt} {T : List Nat} (h : IsRack w pb S q c Ds) (hi : Ds[i]? = some D)
    (hb : D'.blks = D.blks) (hn : D'.n = D.n) (hp : IsPow w' pb S' q' c') (hd : IsDisk w' pb D') (hf : Frm T w w') (hT : ∀ k ∈ T, k = pb ∨ k ∈ blk q ∨ k ∈ D.blks ∨ w.heap.size ≤ k)
    (hq : ∀ k ∈ blk q', k ∈ blk q ∨ w.heap.size ≤ k) (hw : ∀ x ∈ S'.ws, x ∈ S.ws ∨ ((∀ z ∈ x.bytes, 0 ≤ z ∧ z < 256) ∧ x.disk = D.db ∧ x.at_ < D.n))
    (hl : S'.bounded = true → 0 ≤ S'.left) (hv : D'.seen = over D'.db D'.plat S'.ws) (ho : ∀ db p, db ≠ D.db → over db p S'.ws = over db p S.ws) : IsRack w' pb S' q' c' (Ds.set i D') := by
  have hlt : i < Ds.length := (List.getElem?_eq_some_iff.1 hi).1
  have hdb : D'.db = D.db := by simp only [DSt.blks, List.cons.injEq] at hb; exact hb.1
  have hget : ∀ (j : Nat) (E : DSt), (Ds.set i D')[j]? = some E → (j = i ∧ E = D') ∨ (j ≠ i ∧ Ds[j]? = some E) := fun j E hj => by
    rw [List.getElem?_set] at hj
    by_cases e : i = j
    · subst e; rw [if_pos rfl, if_pos hlt] at hj; exact Or.inl ⟨rfl, by simpa using hj.symm⟩
    · rw [if_neg e] at hj; exact Or.inr ⟨fun h => e h.symm, hj⟩
  have hblk : ∀ (j : Nat) (E : DSt), (Ds.set i D')[j]? = some E → ∃ E0, Ds[j]? = some E0 ∧ E.blks = E0.blks := fun j E hj => by
    rcases hget j E hj with ⟨rfl, rfl⟩ | ⟨_, h0⟩
    · exact ⟨D, hi, hb⟩
    · exact ⟨E, h0, rfl⟩
  refine ⟨hp, ?_, ?_, ?_, ?_, ?_, hl, ?_⟩
  · intro j E hj
    rcases hget j E hj with ⟨rfl, rfl⟩ | ⟨hne, h0⟩
    · exact hd
    · refine (h.dsk j E h0).keptB hf (fun k hk hm => ?_)
      rcases hT k hm with rfl | h1 | h1 | h1
      · exact h.apP j E h0 hk
      · exact h.apQ j E h0 k h1 hk
      · exact h.apD i j D E hi h0 (fun e => hne e.symm) k h1 hk
      · have := h.disk_low h0 k hk; omega
  · intro j E hj
    obtain ⟨E0, h0, he⟩ := hblk j E hj
    rw [he]; exact h.apP j E0 h0
  · intro j E hj k hk
    obtain ⟨E0, h0, he⟩ := hblk j E hj
    rw [he]
    rcases hq k hk with h1 | h1
    · exact h.apQ j E0 h0 k h1
    · intro h2; have := h.disk_low h0 k h2; omega
  · intro a b A B ha hb' hne
    obtain ⟨A0, h0, he⟩ := hblk a A ha
    obtain ⟨B0, h1, he1⟩ := hblk b B hb'
    rw [he, he1]; exact h.apD a b A0 B0 h0 h1 hne
  · intro x hx
    have back : ∀ (j : Nat) (E : DSt), Ds[j]? = some E → ∃ E', (Ds.set i D')[j]? = some E' ∧ E'.db = E.db ∧ E'.n = E.n := fun j E hj => by
      by_cases e : i = j
      · subst e
        rw [hi] at hj; cases hj
        exact ⟨D', by rw [List.getElem?_set, if_pos rfl, if_pos hlt], hdb, hn⟩
      · exact ⟨E, by rw [List.getElem?_set, if_neg e]; exact hj, rfl, rfl⟩
    rcases hw x hx with h0 | ⟨hz, hxd, hxa⟩
    · obtain ⟨hz, j, E, hj, hxd, hxa⟩ := h.wt x h0
      obtain ⟨E', hj', e1, e2⟩ := back j E hj
      exact ⟨hz, j, E', hj', by rw [e1]; exact hxd, by rw [e2]; exact hxa⟩
    · obtain ⟨E', hj', e1, e2⟩ := back i D hi
      exact ⟨hz, i, E', hj', by rw [e1]; exact hxd, by rw [e2]; exact hxa⟩
  · intro j E hj
    rcases hget j E hj with ⟨rfl, rfl⟩ | ⟨hne, h0⟩
    · exact hv
    · rw [ho E.db E.plat (fun e => h.apD i j D E hi h0 (fun e => hne e.symm) D.db (by simp [DSt.blks]) (by simp [DSt.blks, e])), h.inv j E h0]
/-- All blocks of a rack. -/
def foot (pb : Nat) (q : Option Addr) (Ds : List DSt) : List Nat := pb :: (blk q ++ Ds.flatMap DSt.blks)
def Rack (w : World) (pb : Nat) (S : PSt) (Ds : List DSt) (F : List Nat) : Prop := ∃ q c, IsRack w pb S q c Ds ∧ F = foot pb q Ds
/-- A call that touches a rack. -/
structure Stp (F F' : List Nat) (w w' : World) : Prop where
  fr : Frm F w w'
  nb : ∀ k ∈ F', k ∈ F ∨ w.heap.size ≤ k
theorem mem_foot {pb : Nat} {q : Option Addr} {Ds : List DSt} {k : Nat} : k ∈ foot pb q Ds ↔ k = pb ∨ k ∈ blk q ∨ ∃ (i : Nat) (D : DSt), Ds[i]? = some D ∧ k ∈ D.blks := by
  simp only [foot, List.mem_cons, List.mem_append, List.mem_flatMap]
  refine or_congr_right (or_congr_right ⟨fun ⟨D, hD, hk⟩ => ?_, fun ⟨i, D, hi, hk⟩ => ⟨D, List.mem_of_getElem? hi, hk⟩⟩)
  obtain ⟨i, hi⟩ := List.mem_iff_getElem?.1 hD
  exact ⟨i, D, hi, hk⟩
theorem IsRack.stp {w w' : World} {pb : Nat} {q q' : Option Addr} {Ds : List DSt} {i : Nat} {D D' : DSt} {T : List Nat} (hi : Ds[i]? = some D)
    (hb : D'.blks = D.blks) (hf : Frm T w w') (hT : ∀ k ∈ T, k = pb ∨ k ∈ blk q ∨ k ∈ D.blks ∨ w.heap.size ≤ k)
    (hq : ∀ k ∈ blk q', k ∈ blk q ∨ w.heap.size ≤ k) : Stp (foot pb q Ds) (foot pb q' (Ds.set i D')) w w' := by
  refine ⟨hf.mono (fun k hk hl => ?_), fun k hk => ?_⟩
  · rw [mem_foot]
    rcases hT k hk with h | h | h | h
    · exact Or.inl h
    · exact Or.inr (Or.inl h)
    · exact Or.inr (Or.inr ⟨i, D, hi, h⟩)
    · omega
  · rw [mem_foot] at hk
    rcases hk with rfl | h | ⟨j, E, hj, hk⟩
    · exact Or.inl (mem_foot.2 (Or.inl rfl))
    · exact (hq k h).imp (fun h => mem_foot.2 (Or.inr (Or.inl h))) id
    · refine Or.inl (mem_foot.2 (Or.inr (Or.inr ?_)))
      rw [List.getElem?_set] at hj
      by_cases e : i = j
      · subst e
        rw [if_pos rfl, if_pos (List.getElem?_eq_some_iff.1 hi).1] at hj
        cases hj
        exact ⟨i, D, hi, by rw [← hb]; exact hk⟩
      · rw [if_neg e] at hj
        exact ⟨j, E, hj, hk⟩
theorem Rack.low {w : World} {pb : Nat} {S : PSt} {Ds : List DSt} {F : List Nat} (h : Rack w pb S Ds F) : ∀ k ∈ F, k < w.heap.size := by
  obtain ⟨q, c, hr, rfl⟩ := h
  intro k hk
  rw [mem_foot] at hk
  rcases hk with rfl | h | ⟨i, D, hi, hk⟩
  · exact lt_of_heap hr.pow.row
  · exact ownsRow_low hr.pow.own k h
  · exact hr.disk_low hi k hk
theorem Rack.kept {w w' : World} {pb : Nat} {S : PSt} {Ds : List DSt} {F T : List Nat} (h : Rack w pb S Ds F) (hf : Frm T w w') (hn : ∀ k ∈ F, k ∉ T) : Rack w' pb S Ds F := by
  obtain ⟨q, c, hr, rfl⟩ := h
  exact ⟨q, c, hr.kept hf (hn _ (mem_foot.2 (Or.inl rfl))) (fun k hk => hn _ (mem_foot.2 (Or.inr (Or.inl hk)))) (fun i D hi k hk => hn _ (mem_foot.2 (Or.inr (Or.inr ⟨i, D, hi, hk⟩)))), rfl⟩
theorem Stp.trans {F G H : List Nat} {a b c : World} (h : Stp F G a b) (k : Stp G H b c) : Stp F H a c :=
  ⟨h.fr.trans k.fr (fun i hi hl => (h.nb i hi).elim id (fun h => by omega)), fun x hx => (k.nb x hx).elim (h.nb x) (fun h2 => Or.inr (by have := h.fr.size; omega))⟩
theorem Stp.refl (F : List Nat) (w : World) : Stp F F w w := ⟨Frm.refl _ _, fun _ h => Or.inl h⟩
theorem Stp.new {F : List Nat} {w w' : World} (h : Frm [] w w') : Stp F F w w' := ⟨h.mono (by simp), fun _ h => Or.inl h⟩
/-- What of other disks waits is not touched. -/
theorem over_rest {db eb : Nat} (h : eb ≠ db) : ∀ (ws : List Wt) (p : List Int), over eb p (restW db ws) = over eb p ws := by
  intro ws
  induction ws with
  | nil => intro p; rfl
  | cons x ws ih =>
    intro p
    by_cases hx : x.disk = db
    · have e1 : restW db (x :: ws) = restW db ws := by simp [restW, hx]
      have e2 : over eb p (x :: ws) = over eb p ws := by simp only [over, List.foldl_cons]; rw [if_neg (by rw [hx]; exact fun e => h e.symm)]
      rw [e1, e2, ih]
    · have e1 : restW db (x :: ws) = x :: restW db ws := by simp [restW, hx]
      rw [e1]
      simp only [over, List.foldl_cons]
      exact ih _
theorem over_none {db : Nat} : ∀ (ws : List Wt) (p : List Int), over db p (restW db ws) = p := by
  intro ws
  induction ws with
  | nil => intro p; rfl
  | cons x ws ih =>
    intro p
    by_cases hx : x.disk = db
    · have e1 : restW db (x :: ws) = restW db ws := by simp [restW, hx]
      rw [e1, ih]
    · have e1 : restW db (x :: ws) = x :: restW db ws := by simp [restW, hx]
      rw [e1]
      simp only [over, List.foldl_cons]
      rw [if_neg hx]
      exact ih p
theorem restW_sub {db : Nat} {ws : List Wt} : ∀ x ∈ restW db ws, x ∈ ws := fun _ hx => (List.mem_filter.1 hx).1
end
section
open Go.RowKit Go.Lib
set_option maxRecDepth 100000

/-- What is answered before anything else. -/
def downE (S : PSt) (D : DSt) : Int := if S.out then 5 else if D.failed then 30 else 0
theorem askE_down {S : PSt} {D : DSt} : askE S D 0 0 = downE S D := by
  unfold askE downE
  split
  · rfl
  split
  · rfl
  rw [if_neg (by omega)]
/-- A disk that was flushed. -/
def DSt.flush (D : DSt) (S : PSt) : DSt := { D with plat := over D.db D.plat S.ws }
def PSt.rest (S : PSt) (db : Nat) : PSt := { S with ws := restW db S.ws }
theorem IsRack.other {w : World} {pb : Nat} {S : PSt} {q : Option Addr} {c : Nat} {Ds : List DSt} (h : IsRack w pb S q c Ds) {i : Nat} {D : DSt} (hi : Ds[i]? = some D) : ∀ x ∈ S.ws, x.disk ≠ D.gp ∧ x.disk ≠ D.gs ∧ x.disk ∉ blk q ∧ x.disk ≠ pb ∧ ∃ ca ta, w.heap[x.disk]? = some (.cells ca ta (0, 0)) := by
  intro x hx
  obtain ⟨_, j, E, hj, hxd, _⟩ := h.wt x hx
  have hE := h.dsk j E hj
  have hD := h.dsk i D hi
  refine ⟨fun e => ?_, fun e => ?_, fun e => ?_, fun e => ?_, ?_⟩
  · by_cases hij : i = j
    · subst hij; rw [hi] at hj; cases hj; exact hD.a2 (hxd.symm.trans e)
    · exact h.apD i j D E hi hj hij D.gp (by simp [DSt.blks]) (by simp [DSt.blks, ← e, hxd])
  · by_cases hij : i = j
    · subst hij; rw [hi] at hj; cases hj; exact hD.a3 (hxd.symm.trans e)
    · exact h.apD i j D E hi hj hij D.gs (by simp [DSt.blks]) (by simp [DSt.blks, ← e, hxd])
  · exact h.apQ j E hj _ e (by simp [DSt.blks, hxd])
  · exact h.apP j E hj (by simp [DSt.blks, ← e, hxd])
  · exact ⟨_, _, by rw [hxd]; exact hE.row⟩
theorem IsRack.at_of {w : World} {pb : Nat} {S : PSt} {q : Option Addr} {c : Nat} {Ds : List DSt} (h : IsRack w pb S q c Ds) {i : Nat} {D : DSt} (hi : Ds[i]? = some D) : ∀ x ∈ S.ws, x.disk = D.db → x.bytes.length = 128 ∧ x.at_ < D.n ∧ ∀ z ∈ x.bytes, 0 ≤ z ∧ z < 256 := by
  intro x hx hd
  obtain ⟨hz, j, E, hj, hxd, ha⟩ := h.wt x hx
  have : E = D := by
    by_cases hij : i = j
    · subst hij; rw [hi] at hj; cases hj; rfl
    · exact absurd (hd.symm.trans hxd) (fun e => h.apD i j D E hi hj hij D.db (by simp [DSt.blks]) (by simp [DSt.blks, e]))
  subst this
  exact ⟨h.pow.len x hx, ha, hz⟩
/-- drop over a rack. -/
theorem drop_any (pb : Nat) (S : PSt) (q : Option Addr) (c : Nat) (Ds : List DSt) (i : Nat) (D : DSt) (keep : Bool) (f : FuncId) (cap : Array Value) (w : World) (h : IsRack w pb S q c Ds) (hi : Ds[i]? = some D)
    (hcf : ∀ v W, Sem.run Try.prog (callFunc f (#[v] ++ cap)) W = .ok (.enter f (#[v] ++ cap)) W) (hform : Tells w pb q S D keep f cap) :
    Calls Try.prog 31 #[.pointer (some ⟨pb, 0, none⟩), .pointer (some ⟨D.db, 0, none⟩), .func (.func f) #[] cap] w fun e w' => e = .returned (.tuple #[]) ∧ IsPow w' pb (S.rest D.db) q c ∧ IsDisk w' pb { D with plat := if keep then over D.db D.plat S.ws else D.plat } ∧ Frm ([pb, D.gp] ++ blk q) w w' := by
  have hap := h.apP i D hi
  have haq := h.apQ i D hi
  simp only [DSt.blks, List.mem_cons, List.not_mem_nil, or_false, not_or] at hap
  have hsh : q = none ∨ ∃ gq, q = some ⟨gq, 0, none⟩ := by
    rcases h.pow.own.2 with ⟨e, _⟩ | ⟨g, cp, cur, he, _⟩
    · simp at e; exact Or.inl e.1
    · simp at he; exact Or.inr ⟨g, he.1⟩
  rcases hsh with rfl | ⟨gq, rfl⟩
  · refine (drop_none pb c S (.pointer (some ⟨D.db, 0, none⟩)) (.func (.func f) #[] cap) w h.pow).mono ?_
    rintro e w' ⟨rfl, hp, hnil, hf⟩
    have e1 : S.rest D.db = S := by simp [PSt.rest, hnil, restW]; rw [← hnil]
    have e2 : ({ D with plat := if keep then over D.db D.plat S.ws else D.plat } : DSt) = D := by rw [hnil]; cases keep <;> rfl
    refine ⟨rfl, by rw [e1]; exact hp, by rw [e2]; exact (h.dsk i D hi).kept hf (by simp; exact fun e => hap.1 e.symm) (by simp; exact fun e => hap.2.1 e.symm) (by simp; exact fun e => hap.2.2 e.symm), hf.mono (by simp)⟩
  · have hq : ∀ k, k ∈ D.blks → k ≠ gq := fun k hk e => haq gq (by simp [blk]) (by rw [← e]; exact hk)
    refine (drop_some pb gq c S D keep f cap w h.pow (h.dsk i D hi) ⟨hq _ (by simp [DSt.blks]), hq _ (by simp [DSt.blks]), hq _ (by simp [DSt.blks]), fun e => hap.1 e.symm, fun e => hap.2.1 e.symm, fun e => hap.2.2 e.symm⟩ (fun x hx => ?_) hcf hform).mono ?_
    · obtain ⟨o1, _, o2, _, o3⟩ := h.other hi x hx
      exact ⟨o1, fun e => o2 (by simp [blk, e]), o3⟩
    · rintro e w' ⟨rfl, hp, hd, hf⟩
      exact ⟨rfl, hp, hd, hf.mono (by simp [blk])⟩
theorem callableD {P : Program} {f : FuncId} {fn : Func} (h : P.funcs[f]? = some fn) (h1 : (fn.name == "runtime.NumGoroutine") = false) (h2 : fn.body.isNone = false) (cap : Array Value) (w : World) : Sem.run P (callFunc f cap) w = .ok (.enter f cap) w := by
  have e1 : ¬ (fn.name = "runtime.NumGoroutine") := by simpa using h1
  have e2 : ¬ fn.body = none := by intro h; simp [h] at h2
  simp [callFunc, h, e1, e2]
set_option maxHeartbeats 1600000 in
theorem flush_any (pb : Nat) (S : PSt) (q : Option Addr) (c : Nat) (Ds : List DSt) (i : Nat) (D : DSt) (w : World) (h : IsRack w pb S q c Ds) (hi : Ds[i]? = some D) :
    Calls Try.prog 12 #[.pointer (some ⟨D.db, 0, none⟩)] w fun e w' => e = .returned (.int .i64 (downE S D)) ∧ ((downE S D ≠ 0 ∧ Frm [] w w') ∨ (downE S D = 0 ∧ IsPow w' pb (S.rest D.db) q c ∧ IsDisk w' pb (D.flush S) ∧ Frm ([pb, D.gp] ++ blk q) w w')) := by
  have H := hid h
  have hlow : ∀ k ∈ D.blks, k < w.heap.size := h.disk_low hi
  have hdb := hlow D.db (by simp [DSt.blks])
  have hfa : Frm [] w (w.alloc (.cells #[.pointer (some ⟨D.db, 0, none⟩)] 26)) := (Frm.refl _ _).alloc _
  have hbx := heap_alloc_new w (.cells #[.pointer (some ⟨D.db, 0, none⟩)] 26)
  obtain ⟨bx, hb⟩ : ∃ b, w.heap.size = b := ⟨_, rfl⟩
  obtain ⟨w1, hw1⟩ : ∃ W, w.alloc (.cells #[.pointer (some ⟨D.db, 0, none⟩)] 26) = W := ⟨_, rfl⟩
  rw [hw1] at hfa hbx
  rw [hb] at hbx
  have hr1 := h.kept hfa (by simp) (by simp) (by simp)
  have HA := hid (ask_any pb S q c D 0 0 _ hr1.pow (hr1.dsk i D hi) (by omega) (by omega))
  rw [askE_down] at HA
  have cb : w1.cell? ⟨bx, 0, none⟩ = some (.pointer (some ⟨D.db, 0, none⟩)) := by rw [cell_of_row _ _ _ _ _ _ hbx]; rfl
  obtain ⟨C, hC⟩ : ∃ C, downE S D = C := ⟨_, rfl⟩
  rw [hC] at HA ⊢
  obtain ⟨PO, hPO⟩ : ∃ PO : Ending → World → Prop, (fun e w' => e = .returned (.int .i64 C) ∧ ((C ≠ 0 ∧ Frm [] w w') ∨ (C = 0 ∧ IsPow w' pb (S.rest D.db) q c ∧ IsDisk w' pb (D.flush S) ∧ Frm ([pb, D.gp] ++ blk q) w w'))) = PO := ⟨_, rfl⟩
  rw [hPO]
  have HPO := hid hPO
  have HFA := hid hfa
  have HBX := hid hbx
  have HR1 := hid hr1
  have HBN : Hid (bx ∉ D.blks ∧ bx ≠ pb ∧ bx ∉ blk q) := hid ⟨fun hk => by have := hlow _ hk; omega, fun e => by have := lt_of_heap h.pow.row; omega, fun hk => by have := ownsRow_low h.pow.own _ hk; omega⟩
  clear h hlow hfa hbx hr1 hC hPO
  go_enter Try.func12, Try.ntmps12
  go_wp2_with fail
  refine HA.out.mono ?_
  rintro e w2 ⟨rfl, rfl⟩
  by_cases h0 : C = 0
  case neg =>
    have hb0 : (C != 0) = true := by simpa using h0
    go_wp2_with fail
    rw [← HPO.out]
    exact ⟨rfl, Or.inl ⟨h0, HFA.out⟩⟩
  subst h0
  obtain ⟨c0, c1, c2, c3, c4⟩ := (HR1.out.dsk i D hi).cells
  clear HA c1 c2 c3 c4
  go_wp2_with fail
  go_still_tail 6, (by kernel_rfl)
  change wpList _ _ _ _ _ w2.drew
  obtain ⟨w3, hw3⟩ : ∃ W, w2.drew = W := ⟨_, rfl⟩
  have hf3 : Frm [] w2 w3 := by rw [← hw3]; exact (Frm.refl _ _).drew
  rw [hw3]
  have HF3 := hid hf3
  have HR3 := hid (HR1.out.kept hf3 (by simp) (by simp) (by simp))
  have HBX3 := hid (hf3.heap HBX.out (by simp))
  have HDR := hid (drop_any pb S q c Ds i D true 32 #[.pointer (some ⟨bx, 0, none⟩)] w3 HR3.out hi (fun v W => callableD Try.func32 (by kernel_rfl) (by kernel_rfl) _ W) (fun W gq k x P hx hxd hq hf hd hr => by
    obtain ⟨b1, b2, b3⟩ := HR3.out.at_of hi x hx hxd
    have hn : bx ∉ [D.gp] ++ blk q := by
      simp only [List.mem_append, List.mem_singleton, not_or]
      exact ⟨fun e => HBN.out.1 (by simp [DSt.blks, e]), HBN.out.2.2⟩
    refine flush1_any pb _ bx gq k x W hd (by rw [cell_of_row _ _ _ _ _ _ (hf.heap HBX3.out hn)]; rfl) hr b1 b2 b3))
  clear hw3 hf3 hw1 cb c0
  go_wp2_with fail
  refine HDR.out.mono ?_
  rintro e w4 ⟨rfl, hp4, hd4, hf4⟩
  have HP4 := hid hp4
  have HD4 := hid hd4
  have HF4 := hid hf4
  clear hp4 hd4 hf4
  go_wp2_with fail
  rw [← HPO.out]
  exact ⟨rfl, Or.inr ⟨trivial, HP4.out, HD4.out, ((HFA.out.trans HF3.out (by simp)).mono (by simp)).trans HF4.out (fun k hk _ => hk)⟩⟩
end
end Go.Proofs.Ytfclamndjnoopaa
