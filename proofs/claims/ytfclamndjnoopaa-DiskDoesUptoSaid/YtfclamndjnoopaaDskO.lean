/- Disks and their power: the calls, over a rack whose list of what waits lies anywhere. -/
import Derived.Test.YtfclamndjnoopaaDskN
namespace Go.Proofs.Ytfclamndjnoopaa
open Go.RowKit Go.Lib
set_option maxRecDepth 100000

theorem set_same {Ds : List DSt} {i : Nat} {D : DSt} (hi : Ds[i]? = some D) : Ds.set i D = Ds := by
  apply List.ext_getElem?
  intro j
  rw [List.getElem?_set]
  by_cases hij : i = j
  · subst hij; rw [if_pos rfl, if_pos (List.getElem?_eq_some_iff.1 hi).1, hi]
  · rw [if_neg hij]
theorem Rack.ptr {w : World} {pb : Nat} {S : PSt} {Ds : List DSt} {F : List Nat} (h : Rack w pb S Ds F) : pb ∈ F := by obtain ⟨q, c, hr, rfl⟩ := h; exact mem_foot.2 (Or.inl rfl)
theorem Rack.mem {w : World} {pb : Nat} {S : PSt} {Ds : List DSt} {F : List Nat} (h : Rack w pb S Ds F) {i : Nat} {D : DSt} (hi : Ds[i]? = some D) : ∀ k ∈ D.blks, k ∈ F := by obtain ⟨q, c, hr, rfl⟩ := h; exact fun k hk => mem_foot.2 (Or.inr (Or.inr ⟨i, D, hi, hk⟩))
theorem Rack.disk {w : World} {pb : Nat} {S : PSt} {Ds : List DSt} {F : List Nat} (h : Rack w pb S Ds F) {i : Nat} {D : DSt} (hi : Ds[i]? = some D) : IsDisk w pb D := by obtain ⟨q, c, hr, rfl⟩ := h; exact hr.dsk i D hi
theorem Rack.inv {w : World} {pb : Nat} {S : PSt} {Ds : List DSt} {F : List Nat} (h : Rack w pb S Ds F) {i : Nat} {D : DSt} (hi : Ds[i]? = some D) : D.seen = over D.db D.plat S.ws := by obtain ⟨q, c, hr, rfl⟩ := h; exact hr.inv i D hi
/-- What is left of a call that changes power and disks. -/
def Left (w : World) (pb : Nat) (F : List Nat) (S' : PSt) (Ds' : List DSt) (w' : World) : Prop := ∃ F', Rack w' pb S' Ds' F' ∧ Stp F F' w w'
theorem rNew (w : World) : Calls Try.prog 8 #[] w fun e w' => ∃ pb, e = .returned (.pointer (some ⟨pb, 0, none⟩)) ∧ Rack w' pb PSt.new [] [pb] ∧ Frm [] w w' ∧ w.heap.size ≤ pb := by
  refine (newPower_any w).mono ?_
  rintro e w' ⟨pb, rfl, hp, hf, hl⟩
  exact ⟨pb, rfl, ⟨none, 0, ⟨hp, by simp, by simp, by simp, by simp, by simp [PSt.new], by simp [PSt.new], by simp⟩, rfl⟩, hf, hl⟩
theorem over_away {db : Nat} : ∀ (ws : List Wt) (p : List Int), (∀ x ∈ ws, x.disk ≠ db) → over db p ws = p := by
  intro ws
  induction ws with
  | nil => intro p _; rfl
  | cons x ws ih =>
    intro p h
    show over db (if x.disk = db then splice p (x.at_ * 128) x.bytes else p) ws = p
    rw [if_neg (h x (by simp)), ih p (fun y hy => h y (by simp [hy]))]
theorem rDisk (pb n : Nat) (S : PSt) (Ds : List DSt) (F : List Nat) (h1 : 1 ≤ n) (h2 : n ≤ 8192) (w : World) (h : Rack w pb S Ds F) :
    Calls Try.prog 9 #[.pointer (some ⟨pb, 0, none⟩), .int .i64 (n : Int)] w fun e w' => ∃ D : DSt, e = .returned (.tuple #[.pointer (some ⟨D.db, 0, none⟩), .int .i64 0]) ∧ D.n = n ∧ D.failed = false ∧ D.plat = List.replicate (n * 128) 0 ∧ D.seen = List.replicate (n * 128) 0 ∧ (∀ k ∈ D.blks, w.heap.size ≤ k) ∧ Rack w' pb S (Ds ++ [D]) (F ++ D.blks) ∧ Frm [] w w' := by
  refine (new_any pb n h1 h2 w).mono ?_
  rintro e w' ⟨D, rfl, hd, hn, hf, hp, hs, l1, l2, l3, hfr⟩
  have hlow := h.low
  obtain ⟨q, c, hr, rfl⟩ := h
  have hnew : ∀ k ∈ D.blks, w.heap.size ≤ k := fun k hk => by
    simp only [DSt.blks, List.mem_cons, List.not_mem_nil, or_false] at hk
    rcases hk with rfl | rfl | rfl <;> assumption
  have hr' := hr.kept hfr (by simp) (by simp) (by simp)
  have get : ∀ (i : Nat) (E : DSt), (Ds ++ [D])[i]? = some E → Ds[i]? = some E ∨ (i = Ds.length ∧ E = D) := fun i E hi => by
    by_cases hlt : i < Ds.length
    · rw [List.getElem?_append_left hlt] at hi; exact Or.inl hi
    · rw [List.getElem?_append_right (by omega)] at hi
      by_cases h0 : i - Ds.length = 0
      · rw [h0] at hi; simp at hi; exact Or.inr ⟨by omega, hi.symm⟩
      · obtain ⟨m, hm⟩ : ∃ m, i - Ds.length = m + 1 := ⟨i - Ds.length - 1, by omega⟩
        rw [hm] at hi; simp at hi
  have hin : ∀ (i : Nat) (E : DSt), Ds[i]? = some E → ∀ k ∈ E.blks, k < w.heap.size := fun i E hi => hr.disk_low hi
  refine ⟨D, rfl, hn, hf, hp, hs, hnew, ⟨q, c, ⟨hr'.pow, ?_, ?_, ?_, ?_, ?_, hr.lf, ?_⟩, by simp [foot]⟩, hfr⟩
  · intro i E hi
    rcases get i E hi with h | ⟨_, rfl⟩
    · exact hr'.dsk i E h
    · exact hd
  · intro i E hi
    rcases get i E hi with h | ⟨_, rfl⟩
    · exact hr.apP i E h
    · intro hk; have := hnew _ hk; have := lt_of_heap hr.pow.row; omega
  · intro i E hi k hk
    rcases get i E hi with h | ⟨_, rfl⟩
    · exact hr.apQ i E h k hk
    · intro hk2; have := hnew _ hk2; have := ownsRow_low hr.pow.own k hk; omega
  · intro i j A B ha hb hne k hk hk2
    rcases get i A ha with h | ⟨h, rfl⟩ <;> rcases get j B hb with h' | ⟨h', rfl⟩
    · exact hr.apD i j A B h h' hne k hk hk2
    · have := hnew k hk2; have := hin i A h k hk; omega
    · have := hnew k hk; have := hin j B h' k hk2; omega
    · omega
  · intro x hx
    obtain ⟨hz, i, E, hi, h1, h2⟩ := hr.wt x hx
    exact ⟨hz, i, E, by rw [List.getElem?_append_left (List.getElem?_eq_some_iff.1 hi).1]; exact hi, h1, h2⟩
  · intro i E hi
    rcases get i E hi with h | ⟨_, rfl⟩
    · exact hr.inv i E h
    · rw [hs, hp, over_away]
      intro x hx e
      obtain ⟨_, i, A, hi, h1, _⟩ := hr.wt x hx
      have := hin i A hi A.db (by simp [DSt.blks])
      have := hnew E.db (by simp [DSt.blks])
      omega
theorem rCut (pb : Nat) (S : PSt) (Ds : List DSt) (F : List Nat) (after : Int) (ha : -9223372036854775808 ≤ after ∧ after ≤ 9223372036854775807) (w : World) (h : Rack w pb S Ds F) :
    Calls Try.prog 10 #[.pointer (some ⟨pb, 0, none⟩), .int .i64 after] w fun e w' => e = .returned (.tuple #[]) ∧ Rack w' pb (S.cut after) Ds F ∧ Frm [pb] w w' := by
  obtain ⟨q, c, hr, rfl⟩ := h
  refine (cut_any pb S q c after ha w hr.pow).mono ?_
  rintro e w' ⟨rfl, hp, hf⟩
  exact ⟨rfl, ⟨q, c, ⟨hp, fun i D hi => (hr.dsk i D hi).keptB hf (fun k hk hm => by simp at hm; subst hm; exact hr.apP i D hi hk), hr.apP, hr.apQ, hr.apD, hr.wt, by simp [PSt.cut], hr.inv⟩, rfl⟩, hf⟩
theorem rOn (pb : Nat) (S : PSt) (Ds : List DSt) (F : List Nat) (w : World) (h : Rack w pb S Ds F) :
    Calls Try.prog 14 #[.pointer (some ⟨pb, 0, none⟩)] w fun e w' => e = .returned (.bool (!S.out)) ∧ w' = w := by
  obtain ⟨q, c, hr, rfl⟩ := h; exact on_any pb S q c w hr.pow
theorem rWaiting (pb : Nat) (S : PSt) (Ds : List DSt) (F : List Nat) (w : World) (h : Rack w pb S Ds F) :
    Calls Try.prog 16 #[.pointer (some ⟨pb, 0, none⟩)] w fun e w' => e = .returned (.int .i64 (S.ws.length : Int)) ∧ w' = w := by
  obtain ⟨q, c, hr, rfl⟩ := h; exact waiting_any pb S q c w hr.pow
theorem rWrites (pb : Nat) (S : PSt) (Ds : List DSt) (F : List Nat) (w : World) (h : Rack w pb S Ds F) :
    Calls Try.prog 15 #[.pointer (some ⟨pb, 0, none⟩)] w fun e w' => e = .returned (.int .i64 S.writes) ∧ w' = w := by
  obtain ⟨q, c, hr, rfl⟩ := h; exact writes_any pb S q c w hr.pow
theorem rRead (pb : Nat) (S : PSt) (Ds : List DSt) (F : List Nat) (i : Nat) (D : DSt) (at_ many : Int) (w : World) (h : Rack w pb S Ds F) (hi : Ds[i]? = some D) (ha : -9223372036854775808 ≤ at_ ∧ at_ ≤ 9223372036854775807) (hm : -9223372036854775808 ≤ many ∧ many ≤ 9223372036854775807) :
    Calls Try.prog 13 #[.pointer (some ⟨D.db, 0, none⟩), .int .i64 at_, .int .i64 many] w (PostRd w ((D.seen.drop (at_.toNat * 128)).take (many.toNat * 128)) (askE S D at_ many)) := by
  obtain ⟨q, c, hr, rfl⟩ := h; exact read_any pb S q c D at_ many w hr.pow (hr.dsk i D hi) ha hm
theorem rWrite (pb : Nat) (S : PSt) (Ds : List DSt) (F : List Nat) (i : Nat) (D : DSt) (at_ : Int) (p : Option Addr) (cc : Nat) (bs : List Int) (w : World) (h : Rack w pb S Ds F) (hi : Ds[i]? = some D) (ha : -9223372036854775808 ≤ at_ ∧ at_ ≤ 9223372036854775807)
    (hb : InB w F p bs) (hcc : bs.length ≤ cc) (hbl : bs.length ≤ 140737488355328) (hwr : S.writes + S.ws.length + 16384 < 500000000000) :
    Calls Try.prog 11 #[.pointer (some ⟨D.db, 0, none⟩), .int .i64 at_, .slice p bs.length cc] w fun e w' => e = .returned (.int .i64 (wrE S D at_ bs)) ∧ Left w pb F (S.wr D at_ bs) (Ds.set i (D.wr S at_ bs)) w' := by
  obtain ⟨q, c, hr, rfl⟩ := h
  refine (write_any pb S q c Ds i D at_ p cc bs w hr hi ha hb hcc hbl hwr).mono ?_
  rintro e w' ⟨rfl, q', c', h1, h2⟩
  exact ⟨rfl, _, ⟨q', c', h1, rfl⟩, h2⟩
theorem rUp (pb : Nat) (S : PSt) (Ds : List DSt) (F : List Nat) (p : Option Addr) (stay : List Bool) (cc : Nat) (w : World) (h : Rack w pb S Ds F) (hst : Rv w p (stay.map Value.bool)) (hap : stay ≠ [] → ∀ k ∈ blk p, k ∉ F) (hlen : stay.length ≤ 140737488355328) :
    Calls Try.prog 17 #[.pointer (some ⟨pb, 0, none⟩), .slice p stay.length cc] w fun e w' => e = .returned (.tuple #[]) ∧ Left w pb F S.up (Ds.map (DSt.up S stay)) w' := by
  obtain ⟨q, c, hr, rfl⟩ := h
  refine (up_any pb S q c Ds p stay cc w hr hst hap hlen).mono ?_
  rintro e w' ⟨rfl, h1, h2⟩
  exact ⟨rfl, _, ⟨none, 0, h1, rfl⟩, h2⟩
theorem rUpNil (pb : Nat) (S : PSt) (Ds : List DSt) (F : List Nat) (w : World) (h : Rack w pb S Ds F) :
    Calls Try.prog 17 #[.pointer (some ⟨pb, 0, none⟩), .slice none 0 0] w fun e w' => e = .returned (.tuple #[]) ∧ Left w pb F S.up (Ds.map (DSt.up S [])) w' :=
  rUp pb S Ds F none [] 0 w h (Or.inl rfl) (by simp [blk]) (by simp)
/-- One disk lost or kept what waited of it. -/
theorem IsRack.dropped {w w' : World} {pb : Nat} {S : PSt} {q : Option Addr} {c : Nat} {Ds : List DSt} {i : Nat} {D D' : DSt} {T : List Nat} (h : IsRack w pb S q c Ds) (hi : Ds[i]? = some D) (hb : D'.blks = D.blks) (hn : D'.n = D.n)
    (hp : IsPow w' pb (S.rest D.db) q c) (hd : IsDisk w' pb D') (hf : Frm T w w') (hT : ∀ k ∈ T, k = pb ∨ k ∈ blk q ∨ k ∈ D.blks ∨ w.heap.size ≤ k) (hs : D'.seen = D'.plat) : Left w pb (foot pb q Ds) (S.rest D.db) (Ds.set i D') w' := by
  have hdb : D'.db = D.db := by simp only [DSt.blks, List.cons.injEq] at hb; exact hb.1
  refine ⟨_, ⟨q, c, h.step hi hb hn hp hd hf hT (fun k hk => Or.inl hk) (fun x hx => Or.inl (restW_sub x hx)) h.lf ?_ (fun db p hne => over_rest hne _ _), rfl⟩, IsRack.stp hi hb hf hT (fun k hk => Or.inl hk)⟩
  rw [hs, hdb]
  exact (over_none _ _).symm
def flS (S : PSt) (D : DSt) : PSt := if downE S D = 0 then S.rest D.db else S
def flD (S : PSt) (D : DSt) : DSt := if downE S D = 0 then D.flush S else D
theorem rFlush (pb : Nat) (S : PSt) (Ds : List DSt) (F : List Nat) (i : Nat) (D : DSt) (w : World) (h : Rack w pb S Ds F) (hi : Ds[i]? = some D) :
    Calls Try.prog 12 #[.pointer (some ⟨D.db, 0, none⟩)] w fun e w' => e = .returned (.int .i64 (downE S D)) ∧ Left w pb F (flS S D) (Ds.set i (flD S D)) w' := by
  obtain ⟨q, c, hr, rfl⟩ := h
  refine (flush_any pb S q c Ds i D w hr hi).mono ?_
  rintro e w' ⟨rfl, hcase⟩
  refine ⟨rfl, ?_⟩
  rcases hcase with ⟨h0, hf⟩ | ⟨h0, hp, hd, hf⟩
  · unfold flS flD
    rw [if_neg h0, if_neg h0, set_same hi]
    exact ⟨_, ⟨q, c, hr.kept hf (by simp) (by simp) (by simp), rfl⟩, Stp.new hf⟩
  · unfold flS flD
    rw [if_pos h0, if_pos h0]
    refine hr.dropped hi (D' := D.flush S) rfl rfl hp hd hf (fun k hk => ?_) (hr.inv i D hi)
    simp only [List.cons_append, List.nil_append, List.mem_cons] at hk
    rcases hk with rfl | rfl | hk
    · exact Or.inl rfl
    · exact Or.inr (Or.inr (Or.inl (by simp [DSt.blks])))
    · exact Or.inr (Or.inl hk)
theorem foot3 {pb : Nat} {q : Option Addr} {D : DSt} {n : Nat} : ∀ k ∈ [pb] ++ D.blks ++ blk q, k = pb ∨ k ∈ blk q ∨ k ∈ D.blks ∨ n ≤ k := by
  intro k hk
  simp only [List.mem_append, List.mem_singleton] at hk
  rcases hk with (h | h) | h
  · exact Or.inl h
  · exact Or.inr (Or.inr (Or.inl h))
  · exact Or.inr (Or.inl h)
theorem rFail (pb : Nat) (S : PSt) (Ds : List DSt) (F : List Nat) (i : Nat) (D : DSt) (w : World) (h : Rack w pb S Ds F) (hi : Ds[i]? = some D) :
    Calls Try.prog 19 #[.pointer (some ⟨D.db, 0, none⟩)] w fun e w' => e = .returned (.tuple #[]) ∧ Left w pb F (S.rest D.db) (Ds.set i D.fail) w' := by
  obtain ⟨q, c, hr, rfl⟩ := h
  refine (fail_any pb S q c Ds i D w hr hi).mono ?_
  rintro e w' ⟨rfl, hp, hd, hf⟩
  exact ⟨rfl, hr.dropped hi (D' := D.fail) rfl rfl hp hd hf foot3 rfl⟩
theorem rReplace (pb : Nat) (S : PSt) (Ds : List DSt) (F : List Nat) (i : Nat) (D : DSt) (w : World) (h : Rack w pb S Ds F) (hi : Ds[i]? = some D) :
    Calls Try.prog 20 #[.pointer (some ⟨D.db, 0, none⟩)] w fun e w' => e = .returned (.tuple #[]) ∧ Left w pb F (S.rest D.db) (Ds.set i D.fresh) w' := by
  obtain ⟨q, c, hr, rfl⟩ := h
  refine (replace_any pb S q c Ds i D w hr hi).mono ?_
  rintro e w' ⟨rfl, hp, hd, hf⟩
  exact ⟨rfl, hr.dropped hi (D' := D.fresh) rfl rfl hp hd hf foot3 rfl⟩
theorem rSectors (pb : Nat) (S : PSt) (Ds : List DSt) (F : List Nat) (i : Nat) (D : DSt) (w : World) (h : Rack w pb S Ds F) (hi : Ds[i]? = some D) :
    Calls Try.prog 25 #[.pointer (some ⟨D.db, 0, none⟩)] w fun e w' => e = .returned (.int .i64 (D.n : Int)) ∧ w' = w := sectors_any pb D w (h.disk hi)
end Go.Proofs.Ytfclamndjnoopaa
