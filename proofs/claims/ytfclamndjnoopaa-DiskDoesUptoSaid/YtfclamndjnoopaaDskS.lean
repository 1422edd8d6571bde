/- Disks and their power: plain facts for the laws. -/
import Derived.Test.YtfclamndjnoopaaDskQ
namespace Go.Proofs.Ytfclamndjnoopaa
open Go.RowKit Go.Lib
set_option maxRecDepth 100000

/-- A Write where the power has no bound: all of it, or nothing. -/
theorem wr_unb {S : PSt} {D : DSt} {at_ : Int} {bs : List Int} (ho : S.out = false) (hb : S.bounded = false) (hf : D.failed = false) :
    (wrE S D at_ bs = 0 ∧ S.wr D at_ bs = S.wrote D at_.toNat bs (bs.length / 128) ∧ bs.length % 128 = 0 ∧ 0 ≤ at_ ∧ at_ + ((bs.length / 128 : Nat) : Int) ≤ D.n) ∨ (wrE S D at_ bs = 1 ∧ S.wr D at_ bs = S) := by
  by_cases h0 : wrAsk S D at_ bs = 0
  · obtain ⟨_, _, z3, z4, z5, z6⟩ := wrAsk_zero h0
    obtain ⟨a, rfl⟩ : ∃ a : Nat, at_ = a := ⟨at_.toNat, by omega⟩
    obtain ⟨h1, h2⟩ := wr_free (m := bs.length / 128) (at_ := a) (bs := bs) ho hb hf (by omega) (by omega) (by omega)
    exact Or.inl ⟨h1, h2, z4, z3, z6⟩
  · refine Or.inr ⟨?_, by unfold PSt.wr; rw [if_pos h0]⟩
    unfold wrE
    rw [if_pos h0]
    unfold wrAsk askE at h0 ⊢
    rw [ho, hf] at h0 ⊢
    simp only [Bool.false_eq_true, if_false] at h0 ⊢
    split
    · rfl
    · rename_i hc; rw [if_neg hc] at h0; exact absurd rfl h0
/-- A power that is on, has no bound and not written much. -/
structure Calm (S : PSt) (k : Nat) : Prop where
  o : S.out = false
  b : S.bounded = false
  w : S.writes ≤ k
  l : S.ws.length ≤ k
theorem Calm.rest {S : PSt} {k : Nat} (h : Calm S k) (db : Nat) : Calm (S.rest db) k := ⟨h.o, h.b, h.w, Nat.le_trans (restW_le _ _) h.l⟩
theorem Calm.up {S : PSt} {k : Nat} (h : Calm S k) : Calm S.up k := ⟨rfl, rfl, h.w, by simp [PSt.up]⟩
theorem Calm.wr {S : PSt} {D : DSt} {at_ : Int} {bs : List Int} {k : Nat} (h : Calm S k) (hf : D.failed = false) : Calm (S.wr D at_ bs) (k + D.n) := by
  rcases wr_unb (at_ := at_) (bs := bs) h.o h.b hf with ⟨_, e, _, h0, h1⟩ | ⟨_, e⟩
  · rw [e]
    have := h.w
    have := h.l
    refine ⟨h.o, h.b, ?_, ?_⟩
    · show S.writes + ((bs.length / 128 : Nat) : Int) ≤ ((k + D.n : Nat) : Int); omega
    · show (S.ws ++ wts D at_.toNat bs (bs.length / 128)).length ≤ k + D.n
      rw [List.length_append, wts_length]; omega
  · rw [e]
    have := h.w
    have := h.l
    exact ⟨h.o, h.b, by omega, by omega⟩
theorem restW_wts {db : Nat} {D : DSt} (at_ : Nat) (bs : List Int) (j : Nat) : (D.db = db → restW db (wts D at_ bs j) = []) ∧ (D.db ≠ db → restW db (wts D at_ bs j) = wts D at_ bs j) := by
  refine ⟨fun h => ?_, fun h => ?_⟩
  · unfold restW
    rw [List.filter_eq_nil_iff]
    intro x hx
    simp only [wts, List.mem_map] at hx
    obtain ⟨i, _, rfl⟩ := hx
    simp [h]
  · unfold restW
    rw [List.filter_eq_self]
    intro x hx
    simp only [wts, List.mem_map] at hx
    obtain ⟨i, _, rfl⟩ := hx
    simp [h]
theorem restW_comm (a b : Nat) (ws : List Wt) : restW a (restW b ws) = restW b (restW a ws) := by
  unfold restW
  rw [List.filter_filter, List.filter_filter]
  congr 1
  funext x
  exact Bool.and_comm _ _
/-- What waits of two disks behind a write on each. -/
theorem two_ws {X Y : DSt} {a b : List Int} (hne : X.db ≠ Y.db) (hx : X.failed = false) (hy : Y.failed = false) :
    restW Y.db ((PSt.new.wr X 0 a).wr Y 0 b).ws = (PSt.new.wr X 0 a).ws ∧ restW Y.db (restW X.db ((PSt.new.wr X 0 a).wr Y 0 b).ws) = [] ∧ ((wrE PSt.new X 0 a = 0 ∧ (PSt.new.wr X 0 a).ws.length = a.length / 128) ∨ (wrE PSt.new X 0 a = 1 ∧ (PSt.new.wr X 0 a).ws.length = 0)) := by
  have h1 : restW X.db (PSt.new.wr X 0 a).ws = [] ∧ restW Y.db (PSt.new.wr X 0 a).ws = (PSt.new.wr X 0 a).ws ∧ ((wrE PSt.new X 0 a = 0 ∧ (PSt.new.wr X 0 a).ws.length = a.length / 128) ∨ (wrE PSt.new X 0 a = 1 ∧ (PSt.new.wr X 0 a).ws.length = 0)) := by
    rcases wr_unb (S := PSt.new) (D := X) (at_ := 0) (bs := a) rfl rfl hx with ⟨e0, e, _, _, _⟩ | ⟨e0, e⟩
    · rw [e]
      refine ⟨?_, ?_, Or.inl ⟨e0, by show ([] ++ wts X _ a _).length = _; rw [List.nil_append, wts_length]⟩⟩
      · show restW X.db ([] ++ wts X _ a _) = []
        exact (restW_wts _ _ _).1 rfl
      · show restW Y.db ([] ++ wts X _ a _) = [] ++ wts X _ a _
        exact (restW_wts _ _ _).2 hne
    · rw [e]
      exact ⟨rfl, rfl, Or.inr ⟨e0, rfl⟩⟩
  have h2 : restW Y.db ((PSt.new.wr X 0 a).wr Y 0 b).ws = (PSt.new.wr X 0 a).ws := by
    have hc := (Calm.wr (S := PSt.new) (D := X) (at_ := 0) (bs := a) (k := 0) ⟨rfl, rfl, by simp [PSt.new], by simp [PSt.new]⟩ hx)
    rcases wr_unb (S := PSt.new.wr X 0 a) (D := Y) (at_ := 0) (bs := b) hc.o hc.b hy with ⟨_, e, _, _, _⟩ | ⟨_, e⟩
    · rw [e]
      show restW Y.db ((PSt.new.wr X 0 a).ws ++ wts Y _ b _) = _
      rw [restW_app, h1.2.1, (restW_wts _ _ _).1 rfl, List.append_nil]
    · rw [e]; exact h1.2.1
  refine ⟨h2, by rw [restW_comm, h2]; exact h1.1, h1.2.2⟩
theorem read_all {bs : List Int} (h : bs.length = 1024) : (bs.drop (Int.toNat 0 * 128)).take (Int.toNat 8 * 128) = bs := by
  rw [show Int.toNat 0 * 128 = 0 from rfl, List.drop_zero, List.take_of_length_le (by rw [h]; decide)]
/-- One rack is left as it was by what is done to another one. -/
theorem two_step {w w' : World} {qb : Nat} {SQ : PSt} {Qs : List DSt} {F F' G : List Nat} (hq : Rack w qb SQ Qs G) (hs : Stp F F' w w') (hd : ∀ k ∈ F, k ∉ G) : Rack w' qb SQ Qs G ∧ ∀ k ∈ F', k ∉ G :=
  ⟨hq.kept hs.fr (fun k hk hm => hd k hm hk), fun k hk hg => (hs.nb k hk).elim (fun h => hd k h hg) (fun h => by have := hq.low k hg; omega)⟩
/-- Read answers all, where nothing is in the way. -/
theorem read_ok {pb : Nat} {S : PSt} {Ds : List DSt} {F : List Nat} {i : Nat} {D : DSt} {w : World} (h : Rack w pb S Ds F) (hi : Ds[i]? = some D) (ho : S.out = false) (hf : D.failed = false) (hn : D.n = 8) :
    Calls Try.prog 13 #[.pointer (some ⟨D.db, 0, none⟩), .int .i64 0, .int .i64 8] w fun e w' => ∃ g, e = .returned (.tuple #[.slice (some ⟨g, 0, none⟩) 1024 1024, .int .i64 0]) ∧ w'.heap[g]? = some (.cells (bv D.seen).toArray 5 (0, 0)) ∧ w.heap.size ≤ g ∧ Frm [] w w' := by
  have hl : D.seen.length = 1024 := by rw [(h.disk hi).sn, hn]
  refine (rRead pb S Ds F i D 0 8 w h hi (by omega) (by omega)).mono ?_
  rw [read_all hl, ask_ok ho hf (by omega) (by omega) (by rw [hn]; decide)]
  rintro e w' ⟨hf, ⟨h, _⟩ | ⟨_, g, rfl, hg, hn⟩⟩
  · exact absurd rfl h
  · rw [hl]
    exact ⟨g, rfl, hg, hn, hf⟩
end Go.Proofs.Ytfclamndjnoopaa
