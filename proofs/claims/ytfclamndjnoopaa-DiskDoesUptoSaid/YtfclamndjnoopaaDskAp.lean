/- The law's rack: what a call of the law leaves, and where the law stands between its calls. The law's rack: each kind of call, the program's and then the document's, said for the walk of the law. -/
import Derived.Test.YtfclamndjnoopaaDskAo
namespace Go.Proofs.Ytfclamndjnoopaa
section
open Go.RowKit Go.Lib
set_option maxRecDepth 100000

/-- What a call on both leaves. -/
def Adv (idx : Nat → Nat) (w : World) (pb : Nat) (F : List Nat) (φ : Nat → Rl) (H : RHp) (S' : PSt) (Ds' : List DSt) (w' : World) : Prop :=
  ∃ F' φ' H', H'.rb = H.rb ∧ Pair idx w' pb S' Ds' F' φ' H' ∧ Stp (both F φ w) (both F' φ' w') w w' ∧ ∀ k, k < w.heap.size → φ' k = φ k
theorem LawR.set {w : World} {xb pb rb : Nat} {p : Option Addr} {c : Nat} {Ds Ds' : List DSt} (h : LawR w xb pb rb p c Ds) (e : Ds'.map DSt.db = Ds.map DSt.db) : LawR w xb pb rb p c Ds' := by
  have hl : Ds'.length = Ds.length := by have := congrArg List.length e; simpa using this
  have hm : Ds'.map (fun D => Value.pointer (some ⟨D.db, 0, none⟩)) = Ds.map (fun D => Value.pointer (some ⟨D.db, 0, none⟩)) := by
    have h1 := congrArg (List.map (fun b : Nat => Value.pointer (some ⟨b, 0, none⟩))) e
    simpa [List.map_map, Function.comp_def] using h1
  exact ⟨by rw [hl]; exact h.row, by rw [hl, hm]; exact h.own⟩
theorem map_db_set {Ds : List DSt} {i : Nat} {D D' : DSt} (hi : Ds[i]? = some D) (e : D'.db = D.db) : (Ds.set i D').map DSt.db = Ds.map DSt.db := by
  rw [List.map_set, e]
  apply List.ext_getElem?
  intro j
  rw [List.getElem?_set]
  by_cases hij : i = j
  · subst hij
    have h1 := (List.getElem?_eq_some_iff.1 hi).1
    rw [if_pos rfl, if_pos (by simpa using h1), List.getElem?_map, hi]; rfl
  · rw [if_neg hij]
theorem map_db_up {Ds : List DSt} {S : PSt} {st : List Bool} : (Ds.map (DSt.up S st)).map DSt.db = Ds.map DSt.db := by
  rw [List.map_map]; rfl
/-- The program's call, then the document's. -/
theorem Pair.adv {idx : Nat → Nat} {w w1 w2 : World} {pb : Nat} {S S' : PSt} {Ds Ds' : List DSt} {F : List Nat} {φ φ' : Nat → Rl} {H H' : RHp} (p : Pair idx w pb S Ds F φ H) (l : Left w pb F S' Ds' w1) (d : RStp w1 φ H H' φ' w2) (r : Rel idx S' Ds' H') : Adv idx w pb F φ H S' Ds' w2 := by
  obtain ⟨F', hk, hr, ha, hs⟩ := p.prog l
  obtain ⟨d1, d2⟩ := Pair.doc hk ha hs d r
  exact ⟨F', _, H', d.b, d1, d2, fun k hk => by rw [cutφ_old (by have := d2.fr.size; omega)]; exact d.x k (by have := hs.fr.size; omega)⟩
theorem Pair.stay {idx : Nat → Nat} {w w' : World} {pb : Nat} {S : PSt} {Ds : List DSt} {F : List Nat} {φ : Nat → Rl} {H : RHp} (p : Pair idx w pb S Ds F φ H) (hf : Frm [] w w') : Adv idx w pb F φ H S Ds w' := by
  obtain ⟨h1, h2⟩ := p.kept hf (by simp) (by simp)
  refine ⟨F, φ, H, rfl, h1, ⟨hf.mono (by simp), fun k hk => Or.inl ?_⟩, fun _ _ => rfl⟩
  unfold both at hk ⊢
  rw [h2] at hk
  exact hk
/-- Something else is written before or behind. -/
theorem Adv.pre {idx : Nat → Nat} {w0 w w' : World} {pb : Nat} {S' : PSt} {Ds' : List DSt} {F : List Nat} {φ : Nat → Rl} {H : RHp} (a : Adv idx w pb F φ H S' Ds' w') (hf : Frm [] w0 w) (nw : ∀ k, w0.heap.size ≤ k → φ k = .oth 9) : Adv idx w0 pb F φ H S' Ds' w' := by
  obtain ⟨F', φ', H', h1, h2, h3, h4⟩ := a
  have hz := hf.size
  have hm : ∀ k, k ∈ both F φ w → k ∈ both F φ w0 := fun k hk => by
    unfold both at hk ⊢
    rw [List.mem_append] at hk ⊢
    rcases hk with hk | hk
    · exact Or.inl hk
    · obtain ⟨h5, h6⟩ := mem_mutL.1 hk
      by_cases h7 : k < w0.heap.size
      · exact Or.inr (mem_mutL.2 ⟨h7, h6⟩)
      · rw [nw k (by omega)] at h6; exact h6.elim
  refine ⟨F', φ', H', h1, h2, ⟨(hf.mono (by simp)).trans h3.fr (fun k hk hkl => hm k hk), fun k hk => ?_⟩, fun k hk => h4 k (by omega)⟩
  rcases h3.nb k hk with h | h
  · exact Or.inl (hm k h)
  · exact Or.inr (by omega)
theorem Adv.post {idx : Nat → Nat} {w w1 w2 : World} {pb : Nat} {S' : PSt} {Ds' : List DSt} {F : List Nat} {φ : Nat → Rl} {H : RHp} (a : Adv idx w pb F φ H S' Ds' w1) (hf : Frm [] w1 w2) : Adv idx w pb F φ H S' Ds' w2 := by
  obtain ⟨F', φ', H', h1, h2, h3, h4⟩ := a
  obtain ⟨k1, k2⟩ := h2.kept hf (by simp) (by simp)
  refine ⟨F', φ', H', h1, k1, ⟨h3.fr.trans (hf.mono (by simp)) (fun k hk _ => hk), fun k hk => h3.nb k ?_⟩, h4⟩
  unfold both at hk ⊢
  rw [k2] at hk
  exact hk
/-- Where the law stands between its calls. -/
structure LawD (W0 : World) (idx : Nat → Nat) (xb pb rb : Nat) (p : Option Addr) (c n : Nat) (b : Int) (wr : World) (S : PSt) (Ds : List DSt) (F : List Nat) (φ : Nat → Rl) (H : RHp) : Prop where
  pr : Pair idx wr pb S Ds F φ H
  er : H.rb = rb
  lw : LawR wr xb pb rb p c Ds
  ln : Ds.length = n
  xs : ∀ k, k = xb ∨ k ∈ blk p → k ∉ both F φ wr
  lo : ∀ k ∈ both F φ wr, W0.heap.size ≤ k
  fr : Frm [] W0 wr
  ot : ∀ k, k < W0.heap.size → ∃ n, φ k = .oth n
  cw : S.writes + S.ws.length ≤ b
def LawDs (W0 : World) (idx : Nat → Nat) (xb pb rb : Nat) (p : Option Addr) (c n : Nat) (b : Int) (wr : World) : Prop := ∃ S Ds F φ H, LawD W0 idx xb pb rb p c n b wr S Ds F φ H
theorem LawD.adv {W0 : World} {idx : Nat → Nat} {xb pb rb : Nat} {p : Option Addr} {c n : Nat} {b b' : Int} {w w' : World} {S S' : PSt} {Ds Ds' : List DSt} {F : List Nat} {φ : Nat → Rl} {H : RHp} (h : LawD W0 idx xb pb rb p c n b w S Ds F φ H) (a : Adv idx w pb F φ H S' Ds' w') (e : Ds'.map DSt.db = Ds.map DSt.db) (hb : S'.writes + S'.ws.length ≤ b') : LawDs W0 idx xb pb rb p c n b' w' := by
  obtain ⟨F', φ', H', h1, h2, h3, h4⟩ := a
  obtain ⟨s1, s2⟩ := stp_new h.fr h.lo h3
  have hl : Ds'.length = Ds.length := by have := congrArg List.length e; simpa using this
  have hxlt : ∀ k, k = xb ∨ k ∈ blk p → k < w.heap.size := fun k hk => by
    rcases hk with rfl | hk
    · exact lt_of_heap h.lw.row
    · exact ownsRow_low h.lw.own k hk
  refine ⟨S', Ds', F', φ', H', h2, h1.trans h.er, (h.lw.kept h3.fr (h.xs xb (Or.inl rfl)) (fun k hk => h.xs k (Or.inr hk))).set e, hl.trans h.ln, fun k hk hm => ?_, s2, s1, fun k hk => by rw [h4 k (by have := h.fr.size; omega)]; exact h.ot k hk, hb⟩
  rcases h3.nb k hm with h5 | h5
  · exact h.xs k hk h5
  · have := hxlt k hk; omega
theorem LawD.kept {W0 : World} {idx : Nat → Nat} {xb pb rb : Nat} {p : Option Addr} {c n : Nat} {b : Int} {w w' : World} {S : PSt} {Ds : List DSt} {F : List Nat} {φ : Nat → Rl} {H : RHp} (h : LawD W0 idx xb pb rb p c n b w S Ds F φ H) (hf : Frm [] w w') : LawD W0 idx xb pb rb p c n b w' S Ds F φ H := by
  obtain ⟨k1, k2⟩ := h.pr.kept hf (by simp) (by simp)
  have e : both F φ w' = both F φ w := by unfold both; rw [k2]
  exact ⟨k1, h.er, h.lw.kept hf (by simp) (by simp), h.ln, by rw [e]; exact h.xs, by rw [e]; exact h.lo, h.fr.trans hf (by simp), h.ot, h.cw⟩
/-- How the count of writes grows. -/
theorem wr_count (S : PSt) (D : DSt) (at_ : Int) (bs : List Int) (h : bs.length ≤ 1048576) : (S.wr D at_ bs).writes + (S.wr D at_ bs).ws.length ≤ S.writes + S.ws.length + 16384 := by
  unfold PSt.wr
  by_cases h0 : wrAsk S D at_ bs = 0
  · rw [if_neg (fun hn => hn h0)]
    show S.writes + ((jW S (bs.length / 128) : Nat) : Int) + (((S.ws ++ wts D at_.toNat bs (jW S (bs.length / 128))).length : Nat) : Int) ≤ _
    rw [List.length_append, wts_length]
    have hj : jW S (bs.length / 128) ≤ bs.length / 128 := by unfold jW; split <;> omega
    omega
  · rw [if_pos h0]
    omega
theorem rest_count (S : PSt) (db : Nat) : (S.rest db).writes + (S.rest db).ws.length ≤ S.writes + S.ws.length := by
  show S.writes + (((restW db S.ws).length : Nat) : Int) ≤ _
  have h : (restW db S.ws).length ≤ S.ws.length := List.length_filter_le _ _
  omega
theorem fl_count (S : PSt) (D : DSt) : (flS S D).writes + (flS S D).ws.length ≤ S.writes + S.ws.length := by
  unfold flS
  split
  · exact rest_count S D.db
  · exact Int.le_refl _
theorem cor_count (S : PSt) (D : DSt) (at_ : Int) (ms : List Int) : (coS S D at_ ms).writes + (coS S D at_ ms).ws.length ≤ S.writes + S.ws.length := by
  unfold coS
  split
  · show S.writes + (((S.ws.map (turnW D.db at_.toNat ms)).length : Nat) : Int) ≤ _
    rw [List.length_map]
    exact Int.le_refl _
  · exact Int.le_refl _
theorem cut_count (S : PSt) (a : Int) : (S.cut a).writes + (S.cut a).ws.length ≤ S.writes + S.ws.length := Int.le_refl _
theorem up_count (S : PSt) : S.up.writes + S.up.ws.length ≤ S.writes + S.ws.length := by
  show S.writes + ((0 : Nat) : Int) ≤ _
  omega
end
section
open Go.RowKit Go.Lib
set_option maxRecDepth 100000

/-- The law's own cells are as they were. -/
def Kz (w w' : World) (xb g bx : Nat) : Prop := ∀ z t, z = xb ∨ z = g ∨ z = bx → w'.cell? ⟨z, t, none⟩ = w.cell? ⟨z, t, none⟩
theorem Kz.trans {w w' w2 : World} {xb g bx : Nat} (h : Kz w w' xb g bx) (k : Kz w' w2 xb g bx) : Kz w w2 xb g bx := fun z t hz => (k z t hz).trans (h z t hz)
/-- Where the law stands in a call: its rack, one disk picked, a variable of its own. -/
structure At (W0 : World) (idx : Nat → Nat) (xb pb rb : Nat) (g c n : Nat) (b : Int) (w : World) (S : PSt) (Ds : List DSt) (F : List Nat) (φ : Nat → Rl) (H : RHp) (i : Nat) (D : DSt) (bx : Nat) : Prop where
  h : LawD W0 idx xb pb rb (some ⟨g, 0, none⟩) c n b w S Ds F φ H
  d : Ds[i]? = some D
  f : φ bx = .oth 9
  nf : bx ∉ F
  l : bx < w.heap.size
section
variable {W0 : World} {idx : Nat → Nat} {xb pb rb g c n : Nat} {b : Int} {w : World} {S : PSt} {Ds : List DSt} {F : List Nat} {φ : Nat → Rl} {H : RHp} {i : Nat} {D : DSt} {bx : Nat}
theorem At.lt (a : At W0 idx xb pb rb g c n b w S Ds F φ H i D bx) {z : Nat} (hz : z = xb ∨ z = g ∨ z = bx) : z < w.heap.size ∧ z ∉ F ∧ ¬ (φ z).mut := by
  have hx : ∀ z, z = xb ∨ z ∈ blk (some (⟨g, 0, none⟩ : Addr)) → z < w.heap.size → z < w.heap.size ∧ z ∉ F ∧ ¬ (φ z).mut := fun z h1 h2 => by
    have h3 := a.h.xs z h1
    unfold both at h3
    rw [List.mem_append, not_or] at h3
    exact ⟨h2, h3.1, fun hm => h3.2 (mem_mutL.2 ⟨h2, hm⟩)⟩
  rcases hz with rfl | rfl | rfl
  · exact hx _ (Or.inl rfl) (lt_of_heap a.h.lw.row)
  · exact hx _ (Or.inr (by simp [blk])) (ownsRow_low a.h.lw.own _ (by simp [blk]))
  · exact ⟨a.l, a.nf, by rw [a.f]; exact fun h => h⟩
theorem At.kzP (a : At W0 idx xb pb rb g c n b w S Ds F φ H i D bx) {w' : World} (hf : Frm F w w') : Kz w w' xb g bx := fun z t hz => by
  obtain ⟨h1, h2, _⟩ := a.lt hz
  unfold World.cell?
  rw [hf.block z h1 h2]
theorem At.kzR (a : At W0 idx xb pb rb g c n b w S Ds F φ H i D bx) {w3 w' : World} (hl : w.heap.size ≤ w3.heap.size) (hf : FrR φ w3 w') : Kz w3 w' xb g bx := fun z t hz => by
  obtain ⟨h1, _, h2⟩ := a.lt hz
  unfold World.cell?
  rw [hf.block z (by omega) h2]
theorem Left.pre {w w1 w' : World} {pb : Nat} {F : List Nat} {S' : PSt} {Ds' : List DSt} (l : Left w1 pb F S' Ds' w') (hf : Frm [] w w1) : Left w pb F S' Ds' w' := by
  obtain ⟨F', h1, h2⟩ := l
  exact ⟨F', h1, (hf.mono (by simp)).trans h2.fr (fun k hk _ => hk), fun k hk => (h2.nb k hk).imp id (fun h => by have := hf.size; omega)⟩
theorem Left.post {w w1 w' : World} {pb : Nat} {F : List Nat} {S' : PSt} {Ds' : List DSt} (l : Left w pb F S' Ds' w1) (hf : Frm [] w1 w') : Left w pb F S' Ds' w' := by
  obtain ⟨F', h1, h2⟩ := l
  exact ⟨F', h1.kept hf (by simp), h2.fr.trans (hf.mono (by simp)) (fun k hk _ => hk), h2.nb⟩
/-- What the program's call leaves. -/
def PP (w : World) (pb : Nat) (F : List Nat) (xb g bx : Nat) (S' : PSt) (Ds' : List DSt) (w' : World) : Prop := Left w pb F S' Ds' w' ∧ Kz w w' xb g bx
theorem At.pp (a : At W0 idx xb pb rb g c n b w S Ds F φ H i D bx) {w1 w' : World} (hf : Frm [] w w1) {S' : PSt} {Ds' : List DSt} (l : Left w1 pb F S' Ds' w') : PP w pb F xb g bx S' Ds' w' := by
  have h1 := l.pre hf
  refine ⟨h1, ?_⟩
  obtain ⟨_, _, h2⟩ := h1
  exact a.kzP h2.fr
theorem At.rk (a : At W0 idx xb pb rb g c n b w S Ds F φ H i D bx) {w1 : World} (hf : Frm [] w w1) : Rack w1 pb S Ds F := a.h.pr.rk.kept hf (by simp)
/-- What the document's call leaves. -/
def QQ (W0 : World) (idx : Nat → Nat) (xb pb rb g c n : Nat) (b : Int) (w : World) (bx : Nat) (w' : World) : Prop := LawDs W0 idx xb pb rb (some ⟨g, 0, none⟩) c n (b + 16384) w' ∧ Kz w w' xb g bx
theorem At.qq (a : At W0 idx xb pb rb g c n b w S Ds F φ H i D bx) {w2 w3 w4 : World} {S' : PSt} {Ds' : List DSt} {H' : RHp} {φ' : Nat → Rl} (p : PP w pb F xb g bx S' Ds' w2) (hf : Frm [] w2 w3) (d : RStp w3 φ H H' φ' w4) (r : Rel idx S' Ds' H') (e : Ds'.map DSt.db = Ds.map DSt.db) (hb : S'.writes + S'.ws.length ≤ S.writes + S.ws.length + 16384) : QQ W0 idx xb pb rb g c n b w bx w4 := by
  have l := p.1.post hf
  have hw := a.h.cw
  refine ⟨a.h.adv (a.h.pr.adv l d r) e (by omega), ?_⟩
  obtain ⟨_, _, h2⟩ := l
  exact (a.kzP h2.fr).trans (a.kzR h2.fr.size d.f)
theorem At.rf (a : At W0 idx xb pb rb g c n b w S Ds F φ H i D bx) {w2 w3 : World} {S' : PSt} {Ds' : List DSt} (p : PP w pb F xb g bx S' Ds' w2) (hf : Frm [] w2 w3) : IsRf w3 φ H := by
  obtain ⟨_, _, h2⟩ := p.1.post hf
  exact a.h.pr.rf.far h2.fr a.h.pr.ap
theorem At.arg (a : At W0 idx xb pb rb g c n b w S Ds F φ H i D bx) {q : Option Addr} {bs : List Int} (hr : Rd W0 q bs) : bs ≠ [] → ∀ k ∈ blk q, ∃ n, φ k = .oth n := fun hne k hk => by
  rcases hr with h | ⟨g, o, rfl, hc⟩
  · exact absurd h hne
  · simp [blk] at hk
    subst hk
    exact a.h.ot _ (World.block_lt_of_cell? W0 _ (hc 0 (List.length_pos_iff.2 hne)))
theorem At.argV (a : At W0 idx xb pb rb g c n b w S Ds F φ H i D bx) {q : Option Addr} {st : List Bool} (hr : Rv W0 q (st.map Value.bool)) : st ≠ [] → ∀ k ∈ blk q, (∃ n, φ k = .oth n) ∧ k < W0.heap.size := fun hne k hk => by
  rcases hr with h | ⟨g, o, rfl, hc⟩
  · exact absurd (by simpa using h) hne
  · simp [blk] at hk
    subst hk
    obtain ⟨v, hv⟩ : ∃ v, (st.map Value.bool)[0]? = some v := ⟨_, List.getElem?_eq_getElem (by rw [List.length_map]; exact List.length_pos_iff.2 hne)⟩
    have := World.block_lt_of_cell? W0 _ (hc 0 v hv)
    exact ⟨a.h.ot _ this, this⟩
theorem At.inF (a : At W0 idx xb pb rb g c n b w S Ds F φ H i D bx) : ∀ k ∈ F, W0.heap.size ≤ k := fun k hk => a.h.lo k (List.mem_append_left _ hk)

theorem At.flushP (a : At W0 idx xb pb rb g c n b w S Ds F φ H i D bx) {w1 : World} (hf : Frm [] w w1) :
    Calls Try.prog 12 #[.pointer (some ⟨D.db, 0, none⟩)] w1 fun e w' => e = .returned (.int .i64 (downE S D)) ∧ Hid (PP w pb F xb g bx (flS S D) (Ds.set i (flD S D)) w') :=
  (rFlush pb S Ds F i D w1 (a.rk hf) a.d).mono (by rintro e w' ⟨rfl, l⟩; exact ⟨rfl, hid (a.pp hf l)⟩)
theorem At.flushR (a : At W0 idx xb pb rb g c n b w S Ds F φ H i D bx) {w2 w3 : World} (p : PP w pb F xb g bx (flS S D) (Ds.set i (flD S D)) w2) (hf : Frm [] w2 w3) :
    Calls Try.prog 37 #[.pointer (some ⟨rb, 0, none⟩), .int .i64 (i : Int)] w3 fun e w' => e = .returned (.int .i64 (downE S D)) ∧ Hid (QQ W0 idx xb pb rb g c n b w bx w') := by
  obtain ⟨q, cq, hk, _⟩ := a.h.pr.rk
  have h1 := refFlushR hk a.h.pr.rel φ i D w3 (a.rf p hf) a.d
  rw [a.h.er] at h1
  refine h1.mono ?_
  rintro e w' ⟨rfl, H', φ', hs, hr⟩
  exact ⟨rfl, hid (a.qq p hf hs hr (map_db_set a.d (flD_n S D).2.2) (by have := fl_count S D; omega))⟩
theorem At.failP (a : At W0 idx xb pb rb g c n b w S Ds F φ H i D bx) {w1 : World} (hf : Frm [] w w1) :
    Calls Try.prog 19 #[.pointer (some ⟨D.db, 0, none⟩)] w1 fun e w' => e = .returned (.tuple #[]) ∧ Hid (PP w pb F xb g bx (S.rest D.db) (Ds.set i D.fail) w') :=
  (rFail pb S Ds F i D w1 (a.rk hf) a.d).mono (by rintro e w' ⟨rfl, l⟩; exact ⟨rfl, hid (a.pp hf l)⟩)
theorem At.failR (a : At W0 idx xb pb rb g c n b w S Ds F φ H i D bx) {w2 w3 : World} (p : PP w pb F xb g bx (S.rest D.db) (Ds.set i D.fail) w2) (hf : Frm [] w2 w3) :
    Calls Try.prog 38 #[.pointer (some ⟨rb, 0, none⟩), .int .i64 (i : Int)] w3 fun e w' => e = .returned (.tuple #[]) ∧ Hid (QQ W0 idx xb pb rb g c n b w bx w') := by
  obtain ⟨q, cq, hk, _⟩ := a.h.pr.rk
  have h1 := refFailR hk a.h.pr.rel φ i D w3 (a.rf p hf) a.d
  rw [a.h.er] at h1
  refine h1.mono ?_
  rintro e w' ⟨rfl, H', φ', hs, hr⟩
  exact ⟨rfl, hid (a.qq p hf hs hr (map_db_set a.d rfl) (by have := rest_count S D.db; omega))⟩
theorem At.replaceP (a : At W0 idx xb pb rb g c n b w S Ds F φ H i D bx) {w1 : World} (hf : Frm [] w w1) :
    Calls Try.prog 20 #[.pointer (some ⟨D.db, 0, none⟩)] w1 fun e w' => e = .returned (.tuple #[]) ∧ Hid (PP w pb F xb g bx (S.rest D.db) (Ds.set i D.fresh) w') :=
  (rReplace pb S Ds F i D w1 (a.rk hf) a.d).mono (by rintro e w' ⟨rfl, l⟩; exact ⟨rfl, hid (a.pp hf l)⟩)
theorem At.replaceR (a : At W0 idx xb pb rb g c n b w S Ds F φ H i D bx) {w2 w3 : World} (p : PP w pb F xb g bx (S.rest D.db) (Ds.set i D.fresh) w2) (hf : Frm [] w2 w3) :
    Calls Try.prog 39 #[.pointer (some ⟨rb, 0, none⟩), .int .i64 (i : Int)] w3 fun e w' => e = .returned (.tuple #[]) ∧ Hid (QQ W0 idx xb pb rb g c n b w bx w') := by
  obtain ⟨q, cq, hk, _⟩ := a.h.pr.rk
  have h1 := refReplaceR hk a.h.pr.rel φ i D w3 (a.rf p hf) a.d
  rw [a.h.er] at h1
  refine h1.mono ?_
  rintro e w' ⟨rfl, H', φ', hs, hr⟩
  exact ⟨rfl, hid (a.qq p hf hs hr (map_db_set a.d rfl) (by have := rest_count S D.db; omega))⟩
theorem coD_db (D : DSt) (at_ : Int) (ms : List Int) : (coD D at_ ms).db = D.db := by unfold coD; split <;> rfl
theorem At.corruptP (a : At W0 idx xb pb rb g c n b w S Ds F φ H i D bx) {w1 : World} (hf : Frm [] w w1) (at_ : Int) (q : Option Addr) (cm : Nat) (ms : List Int) (ha : -9223372036854775808 ≤ at_ ∧ at_ ≤ 9223372036854775807) (hr : Rd W0 q ms) (hz : ∀ z ∈ ms, 0 ≤ z ∧ z < 256) (hl : ms.length ≤ 140737488355328) :
    Calls Try.prog 40 #[.pointer (some ⟨D.db, 0, none⟩), .int .i64 at_, .slice q ms.length cm] w1 fun e w' => e = .returned (.int .i64 (corE D at_ ms.length)) ∧ Hid (PP w pb F xb g bx (coS S D at_ ms) (Ds.set i (coD D at_ ms)) w') :=
  (rCorrupt pb S Ds F i D at_ q cm ms w1 (a.rk hf) a.d ha (inB_arg hr hz (a.h.fr.trans hf (by simp)) a.inF) hl).mono (by rintro e w' ⟨rfl, l⟩; exact ⟨rfl, hid (a.pp hf l)⟩)
theorem At.corruptR (a : At W0 idx xb pb rb g c n b w S Ds F φ H i D bx) {w2 w3 : World} (at_ : Int) (q : Option Addr) (cm : Nat) (ms : List Int) (ha : -9223372036854775808 ≤ at_ ∧ at_ ≤ 9223372036854775807) (hr : Rd W0 q ms) (hz : ∀ z ∈ ms, 0 ≤ z ∧ z < 256) (hl : ms.length ≤ 140737488355328) (p : PP w pb F xb g bx (coS S D at_ ms) (Ds.set i (coD D at_ ms)) w2) (hf : Frm [] w2 w3) :
    Calls Try.prog 41 #[.pointer (some ⟨rb, 0, none⟩), .int .i64 (i : Int), .int .i64 at_, .slice q ms.length cm] w3 fun e w' => e = .returned (.int .i64 (corE D at_ ms.length)) ∧ Hid (QQ W0 idx xb pb rb g c n b w bx w') := by
  obtain ⟨q', cq, hk, _⟩ := a.h.pr.rk
  have hr3 : Rd w3 q ms := by
    obtain ⟨_, _, h2⟩ := p.1.post hf
    have h3 := (stp_new a.h.fr a.inF h2).1
    exact hr.kept h3 (by simp)
  have h1 := refCorruptR hk a.h.pr.rel φ i D at_ q cm ms w3 (a.rf p hf) a.d ha hr3 hz (a.arg hr) hl
  rw [a.h.er] at h1
  refine h1.mono ?_
  rintro e w' ⟨rfl, H', φ', hs, hr⟩
  exact ⟨rfl, hid (a.qq p hf hs hr (map_db_set a.d (coD_db D at_ ms)) (by have := cor_count S D at_ ms; omega))⟩
theorem At.cutP (a : At W0 idx xb pb rb g c n b w S Ds F φ H i D bx) {w1 : World} (hf : Frm [] w w1) (m : Int) (hm : -9223372036854775808 ≤ m ∧ m ≤ 9223372036854775807) :
    Calls Try.prog 10 #[.pointer (some ⟨pb, 0, none⟩), .int .i64 m] w1 fun e w' => e = .returned (.tuple #[]) ∧ Hid (PP w pb F xb g bx (S.cut m) Ds w') :=
  (rCut pb S Ds F m hm w1 (a.rk hf)).mono (by
    rintro e w' ⟨rfl, h1, h2⟩
    exact ⟨rfl, hid (a.pp hf ⟨F, h1, h2.mono (by intro k hk; simp at hk; subst hk; exact fun _ => (a.rk hf).ptr), fun k hk => Or.inl hk⟩)⟩)
theorem At.cutR (a : At W0 idx xb pb rb g c n b w S Ds F φ H i D bx) {w2 w3 : World} (m : Int) (hm : -9223372036854775808 ≤ m ∧ m ≤ 9223372036854775807) (p : PP w pb F xb g bx (S.cut m) Ds w2) (hf : Frm [] w2 w3) :
    Calls Try.prog 42 #[.pointer (some ⟨rb, 0, none⟩), .int .i64 m] w3 fun e w' => e = .returned (.tuple #[]) ∧ Hid (QQ W0 idx xb pb rb g c n b w bx w') := by
  have h1 := refCutR a.h.pr.rel φ m hm w3 (a.rf p hf)
  rw [a.h.er] at h1
  refine h1.mono ?_
  rintro e w' ⟨rfl, H', φ', hs, hr⟩
  exact ⟨rfl, hid (a.qq p hf hs hr rfl (by have := cut_count S m; omega))⟩
theorem At.upP (a : At W0 idx xb pb rb g c n b w S Ds F φ H i D bx) {w1 : World} (hf : Frm [] w w1) (q : Option Addr) (st : List Bool) (cc : Nat) (hst : Rv W0 q (st.map Value.bool)) (hl : st.length ≤ 140737488355328) :
    Calls Try.prog 17 #[.pointer (some ⟨pb, 0, none⟩), .slice q st.length cc] w1 fun e w' => e = .returned (.tuple #[]) ∧ Hid (PP w pb F xb g bx S.up (Ds.map (DSt.up S st)) w') :=
  (rUp pb S Ds F q st cc w1 (a.rk hf) (hst.kept (a.h.fr.trans hf (by simp)) (by simp)) (fun hne k hk hm => by have := (a.argV hst hne k hk).2; have := a.inF k hm; omega) hl).mono (by rintro e w' ⟨rfl, l⟩; exact ⟨rfl, hid (a.pp hf l)⟩)
theorem At.upR (a : At W0 idx xb pb rb g c n b w S Ds F φ H i D bx) {w2 w3 : World} (q : Option Addr) (st : List Bool) (cc : Nat) (hst : Rv W0 q (st.map Value.bool)) (hl : st.length ≤ 140737488355328) (p : PP w pb F xb g bx S.up (Ds.map (DSt.up S st)) w2) (hf : Frm [] w2 w3) :
    Calls Try.prog 26 #[.pointer (some ⟨rb, 0, none⟩), .slice q st.length cc] w3 fun e w' => e = .returned (.tuple #[]) ∧ Hid (QQ W0 idx xb pb rb g c n b w bx w') := by
  obtain ⟨q', cq, hk, _⟩ := a.h.pr.rk
  have hr3 : Rv w3 q (st.map Value.bool) := by
    obtain ⟨_, _, h2⟩ := p.1.post hf
    have h3 := (stp_new a.h.fr a.inF h2).1
    exact hst.kept h3 (by simp)
  have h1 := refUpR hk a.h.pr.rel φ q st cc w3 (a.rf p hf) hr3 (fun hne k hk => (a.argV hst hne k hk).1) hl
  rw [a.h.er] at h1
  refine h1.mono ?_
  rintro e w' ⟨rfl, H', φ', hs, hr⟩
  exact ⟨rfl, hid (a.qq p hf hs hr map_db_up (by have := up_count S; omega))⟩
end
end
end Go.Proofs.Ytfclamndjnoopaa
