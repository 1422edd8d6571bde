/- The program's disks and the document's: they say the same. The program's disks and the document's: each call keeps that they say the same. The program's disks and the document's: Flush, Fail, Replace, Corrupt, Read keep that they say the same. The program's disks and the document's: Write keeps that they say the same. -/
import Derived.Test.YtfclamndjnoopaaDskAa
import Derived.Test.YtfclamndjnoopaaRfO
import Derived.Test.YtfclamndjnoopaaRfK
import Derived.Test.YtfclamndjnoopaaRfJ
namespace Go.Proofs.Ytfclamndjnoopaa
section
open Go.RowKit Go.Lib
set_option maxRecDepth 100000

/-- A write that waits, by its disk's number. -/
def pw (idx : Nat → Nat) (x : Wt) : Nat × Nat × List Int := (idx x.disk, x.at_, x.bytes)
/-- A platter: sector by sector the same. -/
def Same (p : List Int) (ss : List SecR) : Prop := ∀ (k : Nat) (s : SecR), ss[k]? = some s → s.bs = sec p k
structure RelD (D : DSt) (d : RDk) : Prop where
  fl : d.failed = D.failed
  n : d.ss.length = D.n
  pl : Same D.plat d.ss
structure Rel (idx : Nat → Nat) (S : PSt) (Ds : List DSt) (H : RHp) : Prop where
  off : H.off = S.out
  lf : S.out = false → H.left = if S.bounded then S.left else -1
  wr : H.written = S.writes
  ix : ∀ (i : Nat) (D : DSt), Ds[i]? = some D → idx D.db = i
  len : H.ds.length = Ds.length
  dk : ∀ (i : Nat) (D : DSt) (d : RDk), Ds[i]? = some D → H.ds[i]? = some d → RelD D d
  ws : H.ws.map RWt.pure = S.ws.map (pw idx)
theorem Same.set {p : List Int} {ss : List SecR} {n a : Nat} {b : List Int} {s : SecR} (h : Same p ss) (hp : p.length = n * 128) (hb : b.length = 128) (ha : a < n) (hs : s.bs = b) : Same (splice p (a * 128) b) (ss.set a s) := by
  intro k t ht
  rw [sec_splice hp hb ha]
  rw [List.getElem?_set] at ht
  by_cases hk : a = k
  · subst hk
    rw [if_pos rfl] at ht ⊢
    split at ht
    · cases ht; exact hs
    · cases ht
  · rw [if_neg hk] at ht ⊢; exact h k t ht
theorem over_rel {idx : Nat → Nat} {db i n : Nat} : ∀ (ws : List Wt) (rs : List RWt) (p : List Int) (ss : List SecR), rs.map RWt.pure = ws.map (pw idx) → (∀ x ∈ ws, (x.disk = db ↔ idx x.disk = i)) → Fits db n ws → p.length = n * 128 → Same p ss → Same (over db p ws) (overS i ss rs) := by
  intro ws
  induction ws with
  | nil =>
    intro rs p ss h1 _ _ _ h5
    cases rs with
    | nil => exact h5
    | cons y rs => simp at h1
  | cons x ws ih =>
    intro rs p ss h1 h2 h3 h4 h5
    cases rs with
    | nil => simp at h1
    | cons y rs =>
      simp only [List.map_cons, List.cons.injEq, RWt.pure, pw, Prod.mk.injEq] at h1
      obtain ⟨⟨e1, e2, e3⟩, e4⟩ := h1
      have hx := h2 x (by simp)
      have h2' : ∀ z ∈ ws, (z.disk = db ↔ idx z.disk = i) := fun z hz => h2 z (by simp [hz])
      have h3' : Fits db n ws := fun z hz => h3 z (by simp [hz])
      by_cases hd : x.disk = db
      · obtain ⟨f1, f2⟩ := h3 x (by simp) hd
        have hyd : y.d = i := e1.trans (hx.1 hd)
        have a1 : over db p (x :: ws) = over db (splice p (x.at_ * 128) x.bytes) ws := by show over db (if x.disk = db then _ else p) ws = _; rw [if_pos hd]
        have a2 : overS i ss (y :: rs) = overS i (ss.set y.at_ y.s) rs := by show overS i (if y.d = i then _ else ss) rs = _; rw [if_pos hyd]
        rw [a1, a2, e2]
        exact ih rs _ _ e4 h2' h3' (by rw [splice_length (by omega), h4]) (h5.set h4 f1 f2 e3)
      · have hyd : y.d ≠ i := fun e => hd (hx.2 (e1.symm.trans e))
        have a1 : over db p (x :: ws) = over db p ws := by show over db (if x.disk = db then _ else p) ws = _; rw [if_neg hd]
        have a2 : overS i ss (y :: rs) = overS i ss rs := by show overS i (if y.d = i then _ else ss) rs = _; rw [if_neg hyd]
        rw [a1, a2]
        exact ih rs p ss e4 h2' h3' h4 h5
theorem overS_len (i : Nat) : ∀ (rs : List RWt) (ss : List SecR), (overS i ss rs).length = ss.length := by
  intro rs
  induction rs with
  | nil => intro ss; rfl
  | cons y rs ih =>
    intro ss
    show (overS i (if y.d = i then ss.set y.at_ y.s else ss) rs).length = _
    rw [ih]
    split
    · rw [List.length_set]
    · rfl
theorem seen_over {i k : Nat} : ∀ (rs : List RWt) (ss : List SecR) (s : SecR), ss[k]? = some s → (overS i ss rs)[k]? = some (seenS rs i k s) := by
  intro rs
  induction rs with
  | nil => intro ss s h; exact h
  | cons y rs ih =>
    intro ss s h
    have hlt := (List.getElem?_eq_some_iff.1 h).1
    show (overS i (if y.d = i then ss.set y.at_ y.s else ss) rs)[k]? = some (seenS rs i k (if y.d = i ∧ y.at_ = k then y.s else s))
    apply ih
    by_cases hd : y.d = i
    · rw [if_pos hd, List.getElem?_set]
      by_cases ha : y.at_ = k
      · rw [if_pos ha, if_pos (by rw [ha]; exact hlt), if_pos ⟨hd, ha⟩]
      · rw [if_neg ha, if_neg (fun h => ha h.2)]; exact h
    · rw [if_neg hd, if_neg (fun h => hd h.1)]; exact h
end
section
open Go.RowKit Go.Lib
set_option maxRecDepth 100000

theorem Rel.iff {w : World} {pb c : Nat} {q : Option Addr} {idx : Nat → Nat} {S : PSt} {Ds : List DSt} {H : RHp} (h : IsRack w pb S q c Ds) (r : Rel idx S Ds H) {i : Nat} {D : DSt} (hi : Ds[i]? = some D) : ∀ x ∈ S.ws, (x.disk = D.db ↔ idx x.disk = i) := by
  intro x hx
  obtain ⟨_, j, E, hj, hxe, _⟩ := h.wt x hx
  constructor
  · intro e; rw [e]; exact r.ix i D hi
  · intro e
    rw [hxe, r.ix j E hj] at e
    subst e
    rw [hj] at hi
    cases hi
    exact hxe
theorem IsRack.fitsA {w : World} {pb c : Nat} {q : Option Addr} {S : PSt} {Ds : List DSt} (h : IsRack w pb S q c Ds) {i : Nat} {D : DSt} (hi : Ds[i]? = some D) : Fits D.db D.n S.ws := fun x hx hxd => by
  obtain ⟨_, j, E, hj, hxe, hxa⟩ := h.wt x hx
  refine ⟨h.pow.len x hx, ?_⟩
  by_cases hij : j = i
  · subst hij; rw [hi] at hj; cases hj; exact hxa
  · exact absurd (by simp [DSt.blks, ← hxd, hxe]) (h.apD j i E D hj hi hij E.db (by simp [DSt.blks]))
theorem Rel.down {idx : Nat → Nat} {S : PSt} {Ds : List DSt} {H : RHp} (r : Rel idx S Ds H) {i : Nat} {D : DSt} {d : RDk} (hi : Ds[i]? = some D) (hd : H.ds[i]? = some d) : downR H d = downE S D := by
  unfold downR downE
  rw [r.off, (r.dk i D d hi hd).fl]
theorem Rel.ask {idx : Nat → Nat} {S : PSt} {Ds : List DSt} {H : RHp} (r : Rel idx S Ds H) {i : Nat} {D : DSt} {d : RDk} (hi : Ds[i]? = some D) (hd : H.ds[i]? = some d) (at_ many : Int) : askR H d at_ many = askE S D at_ many := by
  unfold askR askE
  rw [r.down hi hd, (r.dk i D d hi hd).n]
  unfold downE
  cases S.out
  · cases D.failed
    · simp only [Bool.false_eq_true, if_false, ne_eq, not_true_eq_false]
      by_cases h : at_ < 0 ∨ many < 0 ∨ (D.n : Int) < many ∨ (D.n : Int) - many < at_
      · rw [if_pos h, if_pos (by omega)]
      · rw [if_neg h, if_neg (by omega)]
    · simp
  · simp
theorem Rel.cut {idx : Nat → Nat} {S : PSt} {Ds : List DSt} {H : RHp} (r : Rel idx S Ds H) (after : Int) : Rel idx (S.cut after) Ds { H with left := if after < 0 then -1 else after } := by
  refine ⟨r.off, fun _ => ?_, r.wr, r.ix, r.len, r.dk, r.ws⟩
  show (if after < 0 then (-1 : Int) else after) = if decide (0 ≤ after) = true then after else -1
  by_cases h : after < 0
  · rw [if_pos h, if_neg (by simp; omega)]
  · rw [if_neg h, if_pos (by simp; omega)]
theorem rest_map {idx : Nat → Nat} {db i : Nat} : ∀ (ws : List Wt) (rs : List RWt), rs.map RWt.pure = ws.map (pw idx) → (∀ x ∈ ws, (x.disk = db ↔ idx x.disk = i)) → (restR i rs).map RWt.pure = (restW db ws).map (pw idx) := by
  intro ws
  induction ws with
  | nil =>
    intro rs h1 _
    cases rs with
    | nil => rfl
    | cons y rs => simp at h1
  | cons x ws ih =>
    intro rs h1 h2
    cases rs with
    | nil => simp at h1
    | cons y rs =>
      simp only [List.map_cons, List.cons.injEq] at h1
      obtain ⟨e0, e4⟩ := h1
      have e1 : y.d = idx x.disk := congrArg Prod.fst e0
      have hx := h2 x (by simp)
      have hr := ih rs e4 (fun z hz => h2 z (by simp [hz]))
      by_cases hd : x.disk = db
      · have a1 : restW db (x :: ws) = restW db ws := by simp [restW, hd]
        have a2 : restR i (y :: rs) = restR i rs := by simp [restR, e1, hx.1 hd]
        rw [a1, a2]; exact hr
      · have hyd : y.d ≠ i := fun e => hd (hx.2 (e1.symm.trans e))
        have a1 : restW db (x :: ws) = x :: restW db ws := by simp [restW, hd]
        have a2 : restR i (y :: rs) = y :: restR i rs := by simp [restR, hyd]
        rw [a1, a2, List.map_cons, List.map_cons, hr, e0]
theorem kept_map {idx : Nat → Nat} (stay : List Bool) : ∀ (ws : List Wt) (rs : List RWt) (k : Nat), rs.map RWt.pure = ws.map (pw idx) → (((rs.zipIdx k).filter (fun x => stay.getD x.2 false)).map Prod.fst).map RWt.pure = (((ws.zipIdx k).filter (fun x => stay.getD x.2 false)).map Prod.fst).map (pw idx) := by
  intro ws
  induction ws with
  | nil =>
    intro rs k h1
    cases rs with
    | nil => rfl
    | cons y rs => simp at h1
  | cons x ws ih =>
    intro rs k h1
    cases rs with
    | nil => simp at h1
    | cons y rs =>
      simp only [List.map_cons, List.cons.injEq] at h1
      obtain ⟨e0, e4⟩ := h1
      have hr := ih rs (k + 1) e4
      rw [List.zipIdx_cons, List.zipIdx_cons, List.filter_cons, List.filter_cons]
      show List.map RWt.pure (List.map Prod.fst (if stay.getD k false = true then (y, k) :: _ else _)) = List.map (pw idx) (List.map Prod.fst (if stay.getD k false = true then (x, k) :: _ else _))
      cases stay.getD k false
      · exact hr
      · simp only [if_true, List.map_cons]
        rw [e0, hr]
theorem kept_sub {stay : List Bool} {ws : List Wt} : ∀ x ∈ keptW stay ws, x ∈ ws := by
  intro x hx
  unfold keptW at hx
  obtain ⟨⟨y, k⟩, hy, rfl⟩ := List.mem_map.1 hx
  have h := (List.mem_filter.1 hy).1
  have h2 := List.mk_mem_zipIdx_iff_getElem?.1 h
  exact List.mem_of_getElem? h2
theorem putR_len : ∀ (ws : List RWt) (ds : List RDk), (putR ds ws).length = ds.length := by
  intro ws
  induction ws with
  | nil => intro ds; rfl
  | cons x ws ih =>
    intro ds
    show (putR (ds.modify x.d _) ws).length = _
    rw [ih, List.length_modify]
theorem Rel.up {w : World} {pb c : Nat} {q : Option Addr} {idx : Nat → Nat} {S : PSt} {Ds : List DSt} {H : RHp} (h : IsRack w pb S q c Ds) (r : Rel idx S Ds H) (stay : List Bool) : Rel idx S.up (Ds.map (DSt.up S stay)) { H with wp := none, wc := 0, ws := [], left := -1, off := false, ds := putR H.ds (keptR stay H.ws) } := by
  have hlen := putR_len (keptR stay H.ws) H.ds
  refine ⟨rfl, fun _ => rfl, r.wr, fun i D hi => ?_, by rw [List.length_map]; exact hlen.trans r.len, fun i D d hi hd => ?_, rfl⟩
  · rw [List.getElem?_map] at hi
    obtain ⟨E, hE, rfl⟩ := Option.map_eq_some_iff.1 hi
    exact r.ix i E hE
  · rw [List.getElem?_map] at hi
    obtain ⟨E, hE, rfl⟩ := Option.map_eq_some_iff.1 hi
    have hd2 : (putR H.ds (keptR stay H.ws))[i]? = some d := hd
    rw [putR_get] at hd2
    obtain ⟨e, he, rfl⟩ := Option.map_eq_some_iff.1 hd2
    have rd := r.dk i E e hE he
    have hI := Rel.iff h r hE
    have hF := h.fitsA hE
    exact ⟨rd.fl, by show (overS i e.ss _).length = E.n; rw [overS_len]; exact rd.n, over_rel _ _ _ _ (kept_map stay S.ws H.ws 0 r.ws) (fun x hx => hI x (kept_sub x hx)) (fun x hx => hF x (kept_sub x hx)) (h.dsk i E hE).pn rd.pl⟩
end
section
open Go.RowKit Go.Lib
set_option maxRecDepth 100000

theorem Rel.set {idx : Nat → Nat} {S S' : PSt} {Ds : List DSt} {H H' : RHp} (r : Rel idx S Ds H) {i : Nat} {D D' : DSt} {d' : RDk} (hi : Ds[i]? = some D) (hb : D'.db = D.db) (rd : RelD D' d') (e1 : H'.ds = H.ds.set i d') (e2 : H'.off = S'.out)
    (e3 : S'.out = false → H'.left = if S'.bounded then S'.left else -1) (e4 : H'.written = S'.writes) (e5 : H'.ws.map RWt.pure = S'.ws.map (pw idx)) : Rel idx S' (Ds.set i D') H' := by
  have hlt : i < Ds.length := (List.getElem?_eq_some_iff.1 hi).1
  have hlt2 : i < H.ds.length := by rw [r.len]; exact hlt
  refine ⟨e2, e3, e4, fun j E hj => ?_, by rw [e1, List.length_set, List.length_set]; exact r.len, fun j E e hj he => ?_, e5⟩
  · rw [List.getElem?_set] at hj
    by_cases hij : i = j
    · subst hij; rw [if_pos rfl, if_pos hlt] at hj; cases hj; rw [hb]; exact r.ix i D hi
    · rw [if_neg hij] at hj; exact r.ix j E hj
  · rw [e1] at he
    rw [List.getElem?_set] at hj he
    by_cases hij : i = j
    · subst hij; rw [if_pos rfl, if_pos hlt] at hj; rw [if_pos rfl, if_pos hlt2] at he; cases hj; cases he; exact rd
    · rw [if_neg hij] at hj he; exact r.dk j E e hj he
theorem Rel.flush {w : World} {pb c : Nat} {q : Option Addr} {idx : Nat → Nat} {S : PSt} {Ds : List DSt} {H : RHp} (h : IsRack w pb S q c Ds) (r : Rel idx S Ds H) {i : Nat} {D : DSt} {d : RDk} (hi : Ds[i]? = some D) (hd : H.ds[i]? = some d) (wp : Option Addr) (wc : Nat) : Rel idx (S.rest D.db) (Ds.set i (D.flush S)) (H.less i d true wp wc) := by
  have rd := r.dk i D d hi hd
  exact r.set (d' := { d with ss := overS i d.ss H.ws }) hi rfl ⟨rd.fl, by show (overS i d.ss H.ws).length = D.n; rw [overS_len]; exact rd.n, over_rel _ _ _ _ r.ws (Rel.iff h r hi) (h.fitsA hi) (h.dsk i D hi).pn rd.pl⟩ rfl r.off r.lf r.wr (rest_map _ _ r.ws (Rel.iff h r hi))
theorem Rel.fail {w : World} {pb c : Nat} {q : Option Addr} {idx : Nat → Nat} {S : PSt} {Ds : List DSt} {H : RHp} (h : IsRack w pb S q c Ds) (r : Rel idx S Ds H) {i : Nat} {D : DSt} {d : RDk} (hi : Ds[i]? = some D) (hd : H.ds[i]? = some d) (wp : Option Addr) (wc : Nat) : Rel idx (S.rest D.db) (Ds.set i D.fail) { H.less i d false wp wc with ds := H.ds.set i { d with failed := true } } := by
  have rd := r.dk i D d hi hd
  exact r.set (d' := { d with failed := true }) hi rfl ⟨rfl, rd.n, rd.pl⟩ rfl r.off r.lf r.wr (rest_map _ _ r.ws (Rel.iff h r hi))
theorem sec_repA {n k : Nat} (h : k < n) : sec (List.replicate (n * 128) (0 : Int)) k = List.replicate 128 0 := by
  unfold sec
  rw [List.drop_replicate, List.take_replicate]
  congr 1
  omega
theorem Rel.replace {w : World} {pb c : Nat} {q : Option Addr} {idx : Nat → Nat} {S : PSt} {Ds : List DSt} {H : RHp} (h : IsRack w pb S q c Ds) (r : Rel idx S Ds H) {i : Nat} {D : DSt} {d : RDk} (hi : Ds[i]? = some D) (hd : H.ds[i]? = some d) (wp : Option Addr) (wc : Nat) (ns : List SecR) (hn : ns.length = d.ss.length) (hz : ∀ s ∈ ns, s.bs = List.replicate 128 0) : Rel idx (S.rest D.db) (Ds.set i D.fresh) { H.less i d false wp wc with ds := H.ds.set i { d with failed := false, ss := ns } } := by
  have rd := r.dk i D d hi hd
  refine r.set (d' := { d with failed := false, ss := ns }) hi rfl ⟨rfl, hn.trans rd.n, fun k s hk => ?_⟩ rfl r.off r.lf r.wr (rest_map _ _ r.ws (Rel.iff h r hi))
  rw [hz s (List.mem_of_getElem? hk)]
  exact (sec_repA (by have h1 := (List.getElem?_eq_some_iff.1 hk).1; have h2 := rd.n; have h3 : k < ns.length := h1; omega)).symm
theorem Rel.cor {idx : Nat → Nat} {S : PSt} {Ds : List DSt} {H : RHp} (r : Rel idx S Ds H) {i : Nat} {D : DSt} {d : RDk} (hi : Ds[i]? = some D) (hd : H.ds[i]? = some d) (at_ : Int) (m : Nat) : corR d at_ m = corE D at_ m := by
  unfold corR corE
  rw [(r.dk i D d hi hd).fl, (r.dk i D d hi hd).n]
/-- A write that waits, turned, by its disk's number. -/
def pturn (i a : Nat) (ms : List Int) (t : Nat × Nat × List Int) : Nat × Nat × List Int := (t.1, t.2.1, if t.1 = i ∧ t.2.1 = a then xr t.2.2 ms else t.2.2)
theorem Rel.turn {w : World} {pb c : Nat} {q : Option Addr} {idx : Nat → Nat} {S : PSt} {Ds : List DSt} {H H' : RHp} (h : IsRack w pb S q c Ds) (r : Rel idx S Ds H) {i : Nat} {D : DSt} {d : RDk} (hi : Ds[i]? = some D) (hd : H.ds[i]? = some d) {a : Nat} {ms : List Int} {s sn : SecR} {ws : List RWt} (ha : a < D.n) (hm : ms.length ≤ 128) (hs : d.ss[a]? = some s)
    (hw : ws.map RWt.pure = H.ws.map (turnR i a ms)) (hsn : sn.bs = xr s.bs ms) (he : H' = { H with ds := H.ds.set i { d with ss := d.ss.set a sn }, ws := ws }) : Rel idx (S.turn D.db a ms) (Ds.set i (D.turn a ms)) H' := by
  subst he
  have rd := r.dk i D d hi hd
  have hpn := (h.dsk i D hi).pn
  have hI := Rel.iff h r hi
  refine r.set (d' := { d with ss := d.ss.set a sn }) hi rfl ⟨rd.fl, by show (d.ss.set a sn).length = D.n; rw [List.length_set]; exact rd.n, ?_⟩ rfl r.off r.lf r.wr ?_
  · show Same (turnS D.plat a ms) (d.ss.set a sn)
    exact rd.pl.set hpn (xr_length (sec_length hpn ha) hm) ha (by rw [hsn, rd.pl a s hs])
  · show ws.map RWt.pure = (S.ws.map (turnW D.db a ms)).map (pw idx)
    rw [hw]
    have e1 : H.ws.map (turnR i a ms) = (H.ws.map RWt.pure).map (pturn i a ms) := by rw [List.map_map]; rfl
    rw [e1, r.ws, List.map_map, List.map_map]
    apply List.map_congr_left
    intro x hx
    show (idx x.disk, x.at_, if idx x.disk = i ∧ x.at_ = a then xr x.bytes ms else x.bytes) = pw idx (turnW D.db a ms x)
    by_cases hc : x.disk = D.db ∧ x.at_ = a
    · have e2 : turnW D.db a ms x = { x with bytes := xr x.bytes ms } := if_pos hc
      rw [e2]
      have e3 : (if idx x.disk = i ∧ x.at_ = a then xr x.bytes ms else x.bytes) = xr x.bytes ms := if_pos ⟨(hI x hx).1 hc.1, hc.2⟩
      rw [e3]
      rfl
    · have e2 : turnW D.db a ms x = x := if_neg hc
      rw [e2]
      have e3 : (if idx x.disk = i ∧ x.at_ = a then xr x.bytes ms else x.bytes) = x.bytes := if_neg (fun h => hc ⟨(hI x hx).2 h.1, h.2⟩)
      rw [e3]
      rfl
/-- What a Read tells. -/
theorem Rel.seen {w : World} {pb c : Nat} {q : Option Addr} {idx : Nat → Nat} {S : PSt} {Ds : List DSt} {H : RHp} (h : IsRack w pb S q c Ds) (r : Rel idx S Ds H) {i : Nat} {D : DSt} {d : RDk} (hi : Ds[i]? = some D) (hd : H.ds[i]? = some d) (a : Nat) : ∀ m, a + m ≤ D.n → seenL H i d a m = (D.seen.drop (a * 128)).take (m * 128) := by
  have rd := r.dk i D d hi hd
  have ho := over_rel _ _ _ _ r.ws (Rel.iff h r hi) (h.fitsA hi) (h.dsk i D hi).pn rd.pl
  intro m
  induction m with
  | zero => intro _; simp [seenL]
  | succ m ih =>
    intro hm
    have hlt : a + m < d.ss.length := by rw [rd.n]; omega
    have hs : d.ss[a + m]? = some (d.ss.getD (a + m) SecR.none) := by rw [List.getD_eq_getElem?_getD, List.getElem?_eq_getElem hlt]; rfl
    rw [seenL_succ, ih (by omega), ho _ _ (seen_over H.ws d.ss _ hs), ← h.inv i D hi]
    unfold sec
    rw [show (m + 1) * 128 = m * 128 + 128 by omega, List.take_add, List.drop_drop, show a * 128 + m * 128 = (a + m) * 128 by omega]
end
section
open Go.RowKit Go.Lib
set_option maxRecDepth 100000

theorem Rel.wrAsk {idx : Nat → Nat} {S : PSt} {Ds : List DSt} {H : RHp} (r : Rel idx S Ds H) {i : Nat} {D : DSt} {d : RDk} (hi : Ds[i]? = some D) (hd : H.ds[i]? = some d) (at_ : Int) (bs : List Int) : badR H d at_ bs.length = wrAsk S D at_ bs := by
  have e : Go.Proofs.Ytfclamndjnoopaa.wrAsk S D at_ bs = askE S D at_ (manyW bs.length) := rfl
  rw [e]
  unfold badR askE
  rw [r.down hi hd, (r.dk i D d hi hd).n]
  unfold downE
  cases S.out
  · cases D.failed
    · simp only [Bool.false_eq_true, if_false, ne_eq, not_true_eq_false]
      unfold manyW
      by_cases h0 : bs.length % 128 = 0
      · rw [if_pos h0]
        by_cases h : bs.length % 128 ≠ 0 ∨ at_ < 0 ∨ (D.n : Int) < at_ ∨ (D.n : Int) - at_ < ((bs.length / 128 : Nat) : Int)
        · rw [if_pos h, if_pos (by omega)]
        · rw [if_neg h, if_neg (by omega)]
      · rw [if_neg h0, if_pos (Or.inl h0), if_pos (by omega)]
    · simp
  · simp
theorem Rel.same {idx : Nat → Nat} {S : PSt} {Ds : List DSt} {H : RHp} (r : Rel idx S Ds H) {i : Nat} {D : DSt} {d : RDk} (hi : Ds[i]? = some D) (hd : H.ds[i]? = some d) {at_ : Int} {bs : List Int} (h0 : Go.Proofs.Ytfclamndjnoopaa.wrAsk S D at_ bs ≠ 0) : Rel idx (S.wr D at_ bs) (Ds.set i (D.wr S at_ bs)) H := by
  have e : S.wr D at_ bs = S := by unfold PSt.wr; rw [if_pos h0]
  rw [e]
  have rd := r.dk i D d hi hd
  exact r.set (d' := d) hi rfl ⟨rd.fl, rd.n, rd.pl⟩ (set_self_r hd).symm r.off r.lf r.wr r.ws
theorem jR_jW {idx : Nat → Nat} {S : PSt} {Ds : List DSt} {H : RHp} (r : Rel idx S Ds H) (ho : S.out = false) (hl : S.bounded = true → 0 ≤ S.left) (m : Nat) : jR H.left m = jW S m := by
  unfold jR jW
  rw [r.lf ho]
  cases hb : S.bounded
  · simp
  · have := hl hb
    simp only [if_true]
    rw [if_neg (by omega)]
theorem xs_map {idx : Nat → Nat} {D : DSt} {i a j : Nat} {bs : List Int} {xs : List RWt} (hx : idx D.db = i) (hl : xs.length = j) (h : ∀ (t : Nat) (x : RWt), xs[t]? = some x → x.d = i ∧ x.at_ = a + t ∧ x.s.bs = sec bs t) : xs.map RWt.pure = (wts D a bs j).map (pw idx) := by
  apply List.ext_getElem?
  intro t
  rw [List.getElem?_map, List.getElem?_map]
  unfold wts
  rw [List.getElem?_map]
  by_cases ht : t < j
  · rw [List.getElem?_range ht]
    have e : xs[t]? = some (xs[t]'(by omega)) := List.getElem?_eq_getElem (by omega)
    obtain ⟨e1, e2, e3⟩ := h t _ e
    rw [e]
    simp only [Option.map_some, RWt.pure, pw]
    rw [e1, e2, e3, hx]
  · rw [List.getElem?_eq_none (by omega), List.getElem?_eq_none (by simp; omega)]
    rfl
theorem Rel.wrote {w : World} {pb c : Nat} {q : Option Addr} {idx : Nat → Nat} {S : PSt} {Ds : List DSt} {H H' : RHp} (h : IsRack w pb S q c Ds) (r : Rel idx S Ds H) {i : Nat} {D : DSt} {d : RDk} (hi : Ds[i]? = some D) (hd : H.ds[i]? = some d) {a : Nat} {bs : List Int} {xs : List RWt} (h0 : Go.Proofs.Ytfclamndjnoopaa.wrAsk S D (a : Int) bs = 0)
    (hl : xs.length = jR H.left (bs.length / 128)) (hx : ∀ (t : Nat) (x : RWt), xs[t]? = some x → x.d = i ∧ x.at_ = a + t ∧ x.s.bs = sec bs t)
    (he : (jR H.left (bs.length / 128) = bs.length / 128 ∧ H' = { H with wp := H'.wp, wc := H'.wc, left := lfR H.left (jR H.left (bs.length / 128)), written := H.written + jR H.left (bs.length / 128), ws := H.ws ++ xs }) ∨ (jR H.left (bs.length / 128) < bs.length / 128 ∧ H' = { H with wp := H'.wp, wc := H'.wc, left := -1, off := true, written := H.written + jR H.left (bs.length / 128), ws := H.ws ++ xs })) : Rel idx (S.wr D (a : Int) bs) (Ds.set i (D.wr S (a : Int) bs)) H' := by
  obtain ⟨ho, _, _, _, _, _⟩ := wrAsk_zero h0
  have hj := jR_jW r ho h.lf (bs.length / 128)
  rw [hj] at hl he
  obtain ⟨j, hjj⟩ : ∃ j, jW S (bs.length / 128) = j := ⟨_, rfl⟩
  rw [hjj] at hl he
  have e : S.wr D (a : Int) bs = { S.wrote D a bs j with out := !decide (j = bs.length / 128) } := by
    unfold PSt.wr
    rw [if_neg (fun hn => hn h0), hjj, Int.toNat_natCast]
  rw [e]
  have rd := r.dk i D d hi hd
  have hws : (H.ws ++ xs).map RWt.pure = (S.ws ++ wts D a bs j).map (pw idx) := by rw [List.map_append, List.map_append, r.ws, xs_map (r.ix i D hi) hl hx]
  rcases he with ⟨h1, he⟩ | ⟨h1, he⟩
  · have g1 : H'.ds = H.ds := by rw [he]
    have g2 : H'.off = H.off := by rw [he]
    have g3 : H'.left = lfR H.left j := by rw [he]
    have g4 : H'.written = H.written + j := by rw [he]
    have g5 : H'.ws = H.ws ++ xs := by rw [he]
    refine r.set (d' := d) hi rfl ⟨rd.fl, rd.n, rd.pl⟩ (g1.trans (set_self_r hd).symm) (by rw [g2, r.off, ho]; simp [h1]) (fun _ => ?_) (by rw [g4, r.wr]; rfl) (by rw [g5]; exact hws)
    rw [g3, r.lf ho]
    show lfR (if S.bounded = true then S.left else -1) j = if S.bounded = true then (if S.bounded = true then S.left - j else S.left) else -1
    cases hb : S.bounded
    · simp [lfR]
    · have := h.lf hb
      simp only [if_true, lfR]
      rw [if_pos this]
  · have g1 : H'.ds = H.ds := by rw [he]
    have g2 : H'.off = true := by rw [he]
    have g4 : H'.written = H.written + j := by rw [he]
    have g5 : H'.ws = H.ws ++ xs := by rw [he]
    have hout : (!decide (j = bs.length / 128)) = true := by simp; omega
    exact r.set (d' := d) hi rfl ⟨rd.fl, rd.n, rd.pl⟩ (g1.trans (set_self_r hd).symm) (by rw [g2]; exact hout.symm) (fun hf => by have h2 : (!decide (j = bs.length / 128)) = false := hf; rw [hout] at h2; cases h2) (by rw [g4, r.wr]; rfl) (by rw [g5]; exact hws)
end
end Go.Proofs.Ytfclamndjnoopaa
