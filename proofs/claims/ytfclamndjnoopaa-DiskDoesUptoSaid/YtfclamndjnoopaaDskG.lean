/- Disks and their power: what waits of one disk is taken away; the function that is told of it. Disks and their power: what waits of one disk is taken away: drop. -/
import Derived.Test.YtfclamndjnoopaaDskE
import Derived.LaidEqlPtr
namespace Go.Proofs.Ytfclamndjnoopaa
section
open Go.RowKit Go.Lib
set_option maxRecDepth 100000

/-- What waits of other disks. -/
def restW (db : Nat) (ws : List Wt) : List Wt := ws.filter (fun x => !(x.disk == db))
/-- A platter behind what waits of its disk. -/
def over (db : Nat) (p : List Int) (ws : List Wt) : List Int := ws.foldl (fun p x => if x.disk = db then splice p (x.at_ * 128) x.bytes else p) p
theorem restW_app (db : Nat) (a b : List Wt) : restW db (a ++ b) = restW db a ++ restW db b := by simp [restW]
theorem over_app (db : Nat) (p : List Int) (a b : List Wt) : over db p (a ++ b) = over db (over db p a) b := by simp [over]
theorem take_succ_ws {l : List Wt} {j : Nat} (h : j < l.length) : l.take (j + 1) = l.take j ++ [l[j]] := List.take_succ_eq_append_getElem h
theorem restW_same {db : Nat} {x : Wt} (h : x.disk = db) : restW db [x] = [] := by simp [restW, h]
theorem restW_other {db : Nat} {x : Wt} (h : x.disk ≠ db) : restW db [x] = [x] := by simp [restW, h]
theorem over_same {db : Nat} {x : Wt} (p : List Int) (h : x.disk = db) : over db p [x] = splice p (x.at_ * 128) x.bytes := by simp [over, h]
theorem over_other {db : Nat} {x : Wt} (p : List Int) (h : x.disk ≠ db) : over db p [x] = p := by simp [over, h]
theorem restW_le (db : Nat) (ws : List Wt) : (restW db ws).length ≤ ws.length := List.length_filter_le _ _
set_option maxHeartbeats 1600000 in
theorem flush1_any (pb : Nat) (D : DSt) (bx gq k : Nat) (x : Wt) (W : World) (hd : IsDisk W pb D) (hb : W.cell? ⟨bx, 0, none⟩ = some (.pointer (some ⟨D.db, 0, none⟩))) (hx : W.rangeAt gq k x.row) (hxl : x.bytes.length = 128) (ha : x.at_ < D.n) (hxb : ∀ z ∈ x.bytes, 0 ≤ z ∧ z < 256) :
    Calls Try.prog 32 #[.pointer (some ⟨gq, k, none⟩), .pointer (some ⟨bx, 0, none⟩)] W fun e w' => e = .returned (.tuple #[]) ∧ IsDisk w' pb { D with plat := splice D.plat (x.at_ * 128) x.bytes } ∧ Frm [D.gp] W w' := by
  have HD := hid hd
  obtain ⟨d0, d1, d2, d3, d4⟩ := hd.cells
  have hn2 := hd.n2
  have c1 : W.cell? ⟨gq, k + 1, none⟩ = some (.int .i64 (x.at_ : Int)) := hx 1 _ rfl
  have HSE := hid (fun W => sector_any D.gp 0 (D.n * 128) (D.n * 128) x.at_ (by omega) (Nat.le_refl _) (by omega) W)
  simp only [Nat.zero_add] at HSE
  have HRX : Hid (Rd W.drew (some ⟨gq, k + 2, none⟩) x.bytes) := hid (Or.inr ⟨gq, k + 2, rfl, fun i hi => by
    have h := hx (i + 1 + 1) (.int .u8 (x.bytes.getD i 0)) (by
      unfold Wt.row
      rw [List.getElem?_cons_succ, List.getElem?_cons_succ]
      exact bv_get hi)
    rw [show k + 2 + i = k + (i + 1 + 1) by omega]
    exact h⟩)
  have HXL := hid hxl
  have HXB := hid hxb
  have HPN := hid hd.pn
  clear hd hx hxl hxb
  go_enter Try.func32, Try.ntmps32
  go_wp2_with fail
  go_still_tail 13, (by kernel_rfl)
  refine wpStill_step (fun K hK => ?_)
  go_simp
  refine ⟨_, HSE.out _, hK _ ?_⟩
  clear hK K
  repeat still_step
  refine wpStill_nil ?_
  change wpList _ _ _ _ _ W.drew
  have HD9 := hid (HD.out.kept ((Frm.refl [] W).drew) (by simp) (by simp) (by simp))
  have hF : Frm [D.gp] W W.drew := (Frm.refl _ W).drew
  have HF := hid hF
  clear d0 d1 d2 d3 d4 HSE hF
  go_wp2_with (refine wpList_copyV rfl _ _ 22 rfl 5 5 Try.underlying22 infoB 128 (D.n * 128 - x.at_ * 128) D.gp (x.at_ * 128) rfl (bv D.plat) HD9.out.pl (by have := HPN.out; simp [bv]; omega) (by omega) (some ⟨gq, k + 2, none⟩) 128 x.bytes rfl HRX.out HXL.out ?_)
  intro w2 hpl hf2
  have HFF := hid (HF.out.trans hf2.out (fun i hi hl => hi))
  have HDD : Hid (IsDisk w2 pb { D with plat := splice D.plat (x.at_ * 128) x.bytes }) := hid (by
    have hd9 := HD9.out
    have h := hpl.out
    have e : (bv D.plat).take (x.at_ * 128) ++ (bv x.bytes ++ (bv D.plat).drop (x.at_ * 128 + 128)) = bv (splice D.plat (x.at_ * 128) x.bytes) := by
      unfold splice
      rw [HXL.out]
      simp [bv, List.map_take, List.map_drop]
    rw [e] at h
    refine ⟨hf2.out.heap hd9.row (by simp; exact hd9.a2), h, hf2.out.heap hd9.se (by simp; exact fun h => hd9.a1 h.symm), ?_, hd9.sn, ?_, hd9.sz, hd9.n1, hd9.n2, hd9.a1, hd9.a2, hd9.a3⟩
    · show (splice _ _ _).length = _
      rw [splice_length (by rw [HXL.out, HPN.out]; omega), HPN.out]
    · intro z hz
      have hz' : z ∈ splice D.plat (x.at_ * 128) x.bytes := hz
      unfold splice at hz'
      simp only [List.mem_append] at hz'
      rcases hz' with (h | h) | h
      · exact hd9.pz z (List.mem_of_mem_take h)
      · exact HXB.out z h
      · exact hd9.pz z (List.mem_of_mem_drop h))
  clear hpl hf2 HD9 HRX HXL HPN HXB HD
  go_wp2_with fail
  go_returns
  exact ⟨rfl, HDD.out, HFF.out⟩
theorem forget1_any (v : Value) (W : World) :
    Calls Try.prog 45 #[v] W fun e w' => e = .returned (.tuple #[]) ∧ w' = W := by
  go_enter Try.func45, Try.ntmps45
  go_wp2_with fail
  go_returns
  exact ⟨rfl, rfl⟩
end
section
open Go.RowKit Go.Lib
set_option maxRecDepth 100000

/-- append into the room that is there, of any cells. -/
theorem wpList_appRoom {P : Program} {w : World} {ops : Array Oper} {rest : List Oper} {o : Oper} {a : Act} {Q : Exit → Act → World → Prop} (hgd : o.guard = none) (s x : Operand) (t : TypeId)
    (ho : o.op = .call { callee := .builtin .append, args := #[s, x], argTypes := #[t, t] })
    (E : TypeId) (sz bytes : Nat) (z : Value) (ht : P.underlying t = some (.slice E)) (hI : (P.info? E).map (fun i => (i.zero, i.size, i.bytes)) = some (some z, sz, bytes))
    (g n cap : Nat) (C : List Value) (hg : w.heap[g]? = some (.cells C.toArray E (0, 0))) (hs : a.eval s = .slice (some ⟨g, 0, none⟩) n cap)
    (p : Addr) (m c : Nat) (hx : a.eval x = .slice (some p) m c) (news : List Value) (hnl : news.length = m * sz) (hnews : ∀ j u, news[j]? = some u → w.cell? (p.add j) = some u) (h1 : ∀ u ∈ news, u.oneCell' = true) (hroom : n + m ≤ cap) (hfit : n * sz + news.length ≤ C.length)
    (h : ∀ w', Hid (w'.heap[g]? = some (.cells (C.take (n * sz) ++ news ++ C.drop (n * sz + news.length)).toArray E (0, 0))) → Hid (Frm [g] w w') → wpList P ops Q rest (a.put o.dst (.slice (some ⟨g, 0, none⟩) (n + m) cap)) w') :
    wpList P ops Q (o :: rest) a w := by
  refine wpList_plain hgd fun K hK => ?_
  obtain ⟨i, hi, hz, hi1, hi2⟩ := info_parts hI
  have hrun := run_append_room (P := P) (w := w) t o.type E i ht hi g n cap C.toArray hg p m c news (by rw [hi1]; exact hnl) hnews h1 hroom (by rw [hi1]; simpa using hfit)
  unfold Oper.wp
  simp only [execOp, ho, resolve, invoke, builtin, Sem.run_bind, Sem.run_pure, Result.andThen_ok, List.map_toArray, List.map_cons, List.map_nil, hs, hx, hrun]
  refine hK _ _ (h _ (hid ?_) (hid (frm_setRow w g _)))
  rw [setRow_heap w g _ _ E _ hg, hi1]
theorem zeroCells_mem (Z : Array Value) (n : Nat) (h : 0 < Z.size) (v : Value) (hv : v ∈ (Builtin.zeroCells Z n).toList) : v ∈ Z.toList := by
  simp only [Builtin.zeroCells, Array.toList_map, List.mem_map] at hv
  obtain ⟨j, hj, rfl⟩ := hv
  have hlt : j % Z.size < Z.size := Nat.mod_lt _ h
  rw [getElem!_pos Z _ hlt]
  simp
theorem oneW : ∀ v ∈ ZW.toList, v.oneCell' = true := by
  intro v hv
  simp only [ZW, Array.toList_append, List.mem_append] at hv
  rcases hv with hv | hv
  · simp at hv
    rcases hv with rfl | rfl <;> rfl
  · exact bv_one v (by simpa using hv)
/-- clear of a tail of a block of writes. -/
theorem run_clearW (w : World) (g k n c : Nat) (pp : Option Addr) (C : List Value) (hg : w.heap[g]? = some (.cells C.toArray 65 (0, 0))) (hpp : 0 < n → pp = some ⟨g, k * 130, none⟩) (hk : (k + n) * 130 ≤ C.length) :
    ∃ w', (∀ ty, (Builtin.clear_ #[57] ty #[.slice pp n c]).run Try.prog w = .ok (.tuple #[]) w') ∧ (∃ C' : List Value, w'.heap[g]? = some (.cells C'.toArray 65 (0, 0)) ∧ C'.length = C.length ∧ C'.take (k * 130) = C.take (k * 130)) ∧ Frm [g] w w' := by
  have hu : Try.prog.underlying 57 = some (.slice 65) := Try.underlying57
  rcases Nat.eq_zero_or_pos n with rfl | hn
  · refine ⟨w, fun ty => ?_, ⟨C, hg, rfl, rfl⟩, Frm.refl _ _⟩
    cases pp <;> simp [Builtin.clear_, run_underlying hu]
  · obtain rfl := hpp hn
    obtain ⟨i, hi, hz, h1, h2⟩ := info_parts infoW
    obtain ⟨zs, hzs⟩ : ∃ zs, (Builtin.zeroCells (Value.agg ZW).cells n).toList = zs := ⟨_, rfl⟩
    have hZ : ZW.size = 130 := by simp [ZW, bv]
    have hzl : zs.length = n * 130 := by rw [← hzs, Array.length_toList, Builtin.zeroCells]; simp [Value.cells, hZ]
    have hone : ∀ v ∈ zs, v.oneCell' = true := fun v hv => oneW v (zeroCells_mem ZW n (by rw [hZ]; omega) v (by rw [← hzs] at hv; exact hv))
    have hst := run_storeCells_at Try.prog g (k * 130) 65 zs 0 C.toArray w hg (by rw [hzl]; simp; omega) hone
    simp only [Nat.add_zero] at hst
    obtain ⟨C', hC'⟩ : ∃ C', C.take (k * 130) ++ zs ++ C.drop (k * 130 + zs.length) = C' := ⟨_, rfl⟩
    have hst' : (storeCells ⟨g, k * 130, none⟩ zs).run Try.prog w = .ok () (w.setRow g C'.toArray) := by rw [← hC']; exact hst
    clear hst
    refine ⟨w.setRow g C'.toArray, fun ty => ?_, ⟨C', setRow_heap w g _ _ _ _ hg, ?_, ?_⟩, frm_setRow w g _⟩
    · have hzv := zero_write w
      obtain ⟨m, rfl⟩ : ∃ m, n = m + 1 := ⟨n - 1, by omega⟩
      simp [Builtin.clear_, run_underlying hu, hzv, hzs, hst']
    · rw [← hC']; simp [hzl]; omega
    · rw [← hC', List.append_assoc, List.take_append_of_le_length (by simp; omega), List.take_take]
      simp
/-- Where drop stands behind j of those that waited. -/
structure InD (w : World) (pb gq N c : Nat) (S : PSt) (D : DSt) (keep : Bool) (C0 : List Value) (j K : Nat) (w' : World) : Prop where
  kl : K = (restW D.db (S.ws.take j)).length
  row : w'.heap[pb]? = some (.cells #[.bool S.out, .bool S.bounded, .int .i64 S.left, .int .i64 S.writes, .slice (some ⟨gq, 0, none⟩) N c] 59 (0, 0))
  blk : ∃ C : List Value, w'.heap[gq]? = some (.cells C.toArray 65 (0, 0)) ∧ C.length = c * 130 ∧ C.take (K * 130) = rowsW (restW D.db (S.ws.take j)) ∧ C.drop (K * 130) = C0.drop (K * 130)
  dsk : IsDisk w' pb { D with plat := if keep then over D.db D.plat (S.ws.take j) else D.plat }
  fr : Frm [D.gp, gq] w w'
theorem rows_at {ws : List Wt} (hl : ∀ x ∈ ws, x.bytes.length = 128) {j : Nat} (hj : j < ws.length) : ((rowsW ws).drop (j * 130)).take 130 = (ws[j]).row := by
  have e : ws = ws.take j ++ ws.drop j := (List.take_append_drop j ws).symm
  have e2 : ws.drop j = ws[j] :: ws.drop (j + 1) := (List.drop_eq_getElem_cons hj)
  have h1 : (rowsW (ws.take j)).length = j * 130 := by rw [rowsW_length (fun x hx => hl x (List.mem_of_mem_take hx)), List.length_take, Nat.min_eq_left (by omega)]
  have h2 : rowsW ws = rowsW (ws.take j) ++ ((ws[j]).row ++ rowsW (ws.drop (j + 1))) := by
    have e3 := congrArg rowsW e
    rw [rowsW_app, e2] at e3
    exact e3
  rw [h2, ← h1, List.drop_left, List.take_append_of_le_length (by rw [row_length (hl _ (List.getElem_mem hj))]; omega), List.take_of_length_le (by rw [row_length (hl _ (List.getElem_mem hj))]; omega)]
theorem infoD : (Try.prog.info? 61).map (fun i => i.size) = some 5 := by kernel_rfl
theorem eql_same (b : Nat) (W : World) : (binOp .eql 26 (.pointer (some ⟨b, 0, none⟩)) (.pointer (some ⟨b, 0, none⟩))).run Try.prog W = .ok (.bool true) W := by
  have h := infoD
  cases hi : Try.prog.info? 61 with
  | none => rw [hi] at h; cases h
  | some j => exact run_eql_ptr_same W _ Try.underlying26 hi
theorem eql_other (a b : Nat) (hne : a ≠ b) (W : World) {ca cb : Array Value} {ta tb : TypeId} (ha : W.heap[a]? = some (.cells ca ta (0, 0))) (hb : W.heap[b]? = some (.cells cb tb (0, 0))) : (binOp .eql 26 (.pointer (some ⟨a, 0, none⟩)) (.pointer (some ⟨b, 0, none⟩))).run Try.prog W = .ok (.bool false) W := by
  have h := infoD
  cases hi : Try.prog.info? 61 with
  | none => rw [hi] at h; cases h
  | some j => 
    rw [hi] at h
    simp only [Option.map_some, Option.some.injEq] at h
    exact run_eql_ptr_other W Try.underlying26 hi (by omega) (fun e => by simp at e) ha hb
/-- The function that drop tells. -/
def Tells (w : World) (pb : Nat) (q : Option Addr) (S : PSt) (D : DSt) (keep : Bool) (f : FuncId) (cap : Array Value) : Prop :=
  ∀ W gq k x P, x ∈ S.ws → x.disk = D.db → q = some ⟨gq, 0, none⟩ → Frm ([D.gp] ++ blk q) w W → IsDisk W pb { D with plat := P } → W.rangeAt gq k x.row → Calls Try.prog f (#[.pointer (some ⟨gq, k, none⟩)] ++ cap) W fun e w' => e = .returned (.tuple #[]) ∧ IsDisk w' pb { D with plat := if keep then splice P (x.at_ * 128) x.bytes else P } ∧ Frm [D.gp] W w'
set_option maxHeartbeats 3200000 in
theorem drop_some (pb gq c : Nat) (S : PSt) (D : DSt) (keep : Bool) (f : FuncId) (cap : Array Value) (w : World) (hp : IsPow w pb S (some ⟨gq, 0, none⟩) c) (hd : IsDisk w pb D)
    (hap : D.db ≠ gq ∧ D.gp ≠ gq ∧ D.gs ≠ gq ∧ D.db ≠ pb ∧ D.gp ≠ pb ∧ D.gs ≠ pb)
    (hds : ∀ x ∈ S.ws, x.disk ≠ D.gp ∧ x.disk ≠ gq ∧ ∃ ca ta, w.heap[x.disk]? = some (.cells ca ta (0, 0)))
    (hcf : ∀ v W, Sem.run Try.prog (callFunc f (#[v] ++ cap)) W = .ok (.enter f (#[v] ++ cap)) W) (hform : Tells w pb (some ⟨gq, 0, none⟩) S D keep f cap) :
    Calls Try.prog 31 #[.pointer (some ⟨pb, 0, none⟩), .pointer (some ⟨D.db, 0, none⟩), .func (.func f) #[] cap] w fun e w' => e = .returned (.tuple #[]) ∧ IsPow w' pb { S with ws := restW D.db S.ws } (some ⟨gq, 0, none⟩) c ∧ IsDisk w' pb { D with plat := if keep then over D.db D.plat S.ws else D.plat } ∧ Frm [pb, D.gp, gq] w w' := by
  obtain ⟨PL, hPL⟩ : ∃ PL, (if keep then over D.db D.plat S.ws else D.plat) = PL := ⟨_, rfl⟩
  rw [hPL]
  have HPL := hid hPL
  clear hPL
  have HP := hid hp
  have HD := hid hd
  have HAP := hid hap
  have HFORM := hid hform
  have HDS := hid hds
  obtain ⟨c0, c1, c2, c3, c4⟩ := hp.cells
  obtain ⟨N, hN⟩ : ∃ N, S.ws.length = N := ⟨_, rfl⟩
  have HN := hid hN
  have hown := hp.own
  have hrow := hp.row
  have hpg : pb ≠ gq := fun h => hp.apart (by simp [blk, h])
  rw [hN] at c4 hown hrow
  obtain ⟨C0, hC0, hCl, hCt, hNc, hcm⟩ : ∃ C0 : List Value, w.heap[gq]? = some (.cells C0.toArray 65 (0, 0)) ∧ C0.length = c * 130 ∧ C0.take (N * 130) = rowsW S.ws ∧ N ≤ c ∧ c ≤ maxLen := by
    rcases hown.2 with ⟨h, _⟩ | ⟨g, cp, cur, he, _, hg, hc, hm, hs, ht⟩
    · simp at h
    · simp only [Value.slice.injEq, Option.some.injEq, Addr.mk.injEq, and_true, true_and] at he
      obtain ⟨rfl, rfl⟩ := he
      exact ⟨cur.toList, by simpa using hg, by simpa using hs, ht, hc, hm⟩
  have HCM := hid hcm
  have HCT := hid hCt
  have HCL := hid hCl
  have hNm : N ≤ 500000000000 := by have := hp.wb; omega
  have HPG := hid hpg
  have HST : Hid (InD w pb gq N c S D keep C0 0 0 w) := hid ⟨rfl, hrow, ⟨C0, hC0, hCl, by simp [restW, rowsW], rfl⟩, by cases keep <;> simpa [over] using hd, Frm.refl _ _⟩
  have hs0 : ∀ W : World, (Instr.slice 57 (.slice (some ⟨gq, 0, none⟩) N c) none (some (.int .i64 0)) none).run Try.prog W = .ok (.slice (some ⟨gq, 0, none⟩) 0 c) W := fun W => by
    have hu : Try.prog.underlying 57 = some (.slice 65) := Try.underlying57
    obtain ⟨i, hi, hz, h1, h2⟩ := info_parts infoW
    have he : Try.prog.elem 57 = 65 := by simp [Program.elem, hu]
    have hsz : (sizeOf 65).run Try.prog W = .ok 130 W := by simp [sizeOf, typeInfo, hi, h1, Result.andThen]
    rw [run_slice_h W 57 _ _ _ (by rw [he]; exact hu) .i64 0 (by omega) (by omega), he, hsz]
    simp [Result.andThen, sliced, Addr.add]
  have hs1 : ∀ (K : Nat), K ≤ N → ∃ pp, (N - K ≠ 0 → pp = some ⟨gq, K * 130, none⟩) ∧ ∀ W : World, (Instr.slice 57 (.slice (some ⟨gq, 0, none⟩) N c) (some (.int .i64 (K : Int))) none none).run Try.prog W = .ok (.slice pp (N - K) (c - K)) W := fun K hK => by
    have hu : Try.prog.underlying 57 = some (.slice 65) := Try.underlying57
    obtain ⟨i, hi, hz, h1, h2⟩ := info_parts infoW
    have he : Try.prog.elem 57 = 65 := by simp [Program.elem, hu]
    refine ⟨if c = K then some ⟨gq, 0, none⟩ else some ⟨gq, K * 130, none⟩, fun h => by rw [if_neg (by omega)], fun W => ?_⟩
    have hsz : (sizeOf 65).run Try.prog W = .ok 130 W := by simp [sizeOf, typeInfo, hi, h1, Result.andThen]
    rw [run_slice_l W 57 _ _ _ (by rw [he]; exact hu) .i64 K (by omega) (by omega), he, hsz]
    simp only [Result.andThen, sliced, Int.toNat_natCast]
    by_cases h : c = K
    · simp [h]
    · simp [h, Addr.add]
      intro h0
      simp [h0]
  have HS1 := hid hs1
  clear hs1 hds hp hd hap hform hown hrow hN hpg hcm hCt hCl hC0 c0 c1 c2 c3
  go_enter Try.func31, Try.ntmps31
  go_wp2_with fail
  go_loopw [18, 6, 7] (fun i s6 s7 wr => ∃ j K : Nat, j ≤ N ∧ i = .int .i64 (j : Int) ∧ s6 = .slice (some ⟨gq, 0, none⟩) K c ∧ Hid (InD w pb gq N c S D keep C0 j K wr)) (fun i _ _ _ => N - (intOf i).toNat)
  case atStart => exact ⟨0, 0, by omega, rfl, rfl, HST⟩
  case round =>
    clear HST
    obtain ⟨j, K, hj, rfl, rfl, hin⟩ := hrel
    have hKj : K ≤ j := by
      have h := restW_le D.db (S.ws.take j)
      rw [← hin.out.kl, List.length_take] at h
      omega
    obtain ⟨C, hC, hCl, hCt, hCd⟩ := hin.out.blk
    have k4 : wr.cell? ⟨pb, 4, none⟩ = some (.slice (some ⟨gq, 0, none⟩) N c) := by rw [cell_of_row _ _ _ _ _ _ hin.out.row]; rfl
    have f4 : wr.frozen? ⟨pb, 4, none⟩ = false := frozen_of_row _ _ _ _ _ hin.out.row
    by_cases hlt : j < N
    · have t1 : (j : Int) < (N : Int) := by omega
      have hjl : j < S.ws.length := by rw [HN.out]; exact hlt
      obtain ⟨X, hX⟩ : ∃ X, S.ws[j] = X := ⟨_, rfl⟩
      have hXl : X.bytes.length = 128 := by rw [← hX]; exact HP.out.len _ (List.getElem_mem hjl)
      have hXm : X ∈ S.ws := by rw [← hX]; exact List.getElem_mem hjl
      have hrow : (C.drop (j * 130)).take 130 = X.row := by
        rw [← hX, ← rows_at HP.out.len hjl, ← HCT.out]
        have e : C.drop (j * 130) = C0.drop (j * 130) := by
          have h := congrArg (List.drop (j * 130 - K * 130)) hCd
          rwa [List.drop_drop, List.drop_drop, show K * 130 + (j * 130 - K * 130) = j * 130 by omega] at h
        rw [e, List.drop_take, List.take_take, Nat.min_eq_left (by omega)]
      have hrg : wr.rangeAt gq (j * 130) X.row := fun i v hv => by
        have hi : i < 130 := by have := (List.getElem?_eq_some_iff.1 hv).1; rw [row_length hXl] at this; exact this
        rw [cell_of_row _ _ _ _ _ _ hC]
        rw [← hrow, List.getElem?_take, if_pos hi, List.getElem?_drop] at hv
        simpa using hv
      have ct : S.ws.take (j + 1) = S.ws.take j ++ [X] := by rw [take_succ_ws hjl, hX]
      have HX := hid hX
      have HXL := hid hXl
      have HXM := hid hXm
      have HCT2 := hid ct
      have HRG := hid hrg
      have HC := hid hC
      have HCt := hid hCt
      have HCd := hid hCd
      have HCl := hid hCl
      clear hX hXl hXm ct hrow hC hCt hCd hCl
      by_cases hsame : X.disk = D.db
      · have x0 : wr.cell? ⟨gq, j * 130, none⟩ = some (.pointer (some ⟨D.db, 0, none⟩)) := by rw [← hsame]; exact hrg 0 _ rfl
        have HSM := hid hsame
        have heq := eql_same D.db wr
        clear hsame hrg
        go_wp2_with fail
        refine (HFORM.out wr gq (j * 130) X _ HXM.out HSM.out rfl hin.out.fr hin.out.dsk HRG.out).mono ?_
        rintro e w2 ⟨rfl, hd2, hf2⟩
        have HIN : Hid (InD w pb gq N c S D keep C0 (j + 1) K w2) := hid (by
          have h := hin.out
          have e1 : restW D.db (S.ws.take (j + 1)) = restW D.db (S.ws.take j) := by rw [HCT2.out, restW_app, restW_same HSM.out, List.append_nil]
          have e2 : over D.db D.plat (S.ws.take (j + 1)) = splice (over D.db D.plat (S.ws.take j)) (X.at_ * 128) X.bytes := by rw [HCT2.out, over_app, over_same _ HSM.out]
          refine ⟨by rw [e1]; exact h.kl, hf2.heap h.row (by simp; exact fun e => HAP.out.2.2.2.2.1 e.symm), ⟨C, hf2.heap HC.out (by simp; exact fun e => HAP.out.2.1 e.symm), HCl.out, by rw [e1]; exact HCt.out, HCd.out⟩, ?_, h.fr.trans hf2 (by simp)⟩
          have e3 : (if keep = true then over D.db D.plat (S.ws.take (j + 1)) else D.plat) = (if keep = true then splice (if keep = true then over D.db D.plat (S.ws.take j) else D.plat) (X.at_ * 128) X.bytes else (if keep = true then over D.db D.plat (S.ws.take j) else D.plat)) := by
            cases keep
            · rfl
            · exact e2
          rw [e3]
          exact hd2)
        clear hd2 hf2 heq hin HX HXL HXM HCT2 HRG HC HCt HCd HCl HSM x0 k4 f4
        go_wp2_with fail
        go_roundw
        case rel => exact ⟨j + 1, K, by omega, by go_num, rfl, HIN⟩
        case measure => simp [intOf]; omega
      · have x0 : wr.cell? ⟨gq, j * 130, none⟩ = some (.pointer (some ⟨X.disk, 0, none⟩)) := hrg 0 _ rfl
        have HNS := hid hsame
        obtain ⟨o1, o2, ca, ta, o3⟩ := HDS.out X HXM.out
        have heq := eql_other X.disk D.db hsame wr (hin.out.fr.heap o3 (by simp; exact ⟨o1, o2⟩)) hin.out.dsk.row
        have HIW : Hid ((Try.prog.info? 65).map (·.size) = some X.row.length) := hid (by obtain ⟨i, hi, hz, h1, h2⟩ := info_parts infoW; simp [hi, h1, row_length HXL.out])
        clear hrg hsame o1 o2 o3
        go_wp2_with fail
        rename_i K1 hK1
        refine wp_load_mid _ _ rfl gq (j * 130) rfl X.row _ HRG.out Try.underlying65 rfl HIW.out ?_
        refine hK1 _ _ ?_
        clear hK1 K1
        refine wpList_step (fun K1 hK1 => ?_)
        refine step_buildSlice1 (by rfl) _ 57 (by rfl) 65 130 144 _ Try.underlying57 infoW (by omega) (by omega) X.row (by rfl) (row_length HXL.out) ?_
        refine hK1 _ _ ?_
        clear hK1 K1
        obtain ⟨w2, hw2⟩ : ∃ W, wr.alloc (.cells X.row.toArray 65) = W := ⟨_, rfl⟩
        obtain ⟨nb, hnb⟩ : ∃ b, wr.heap.size = b := ⟨_, rfl⟩
        have hf2 : Frm [] wr w2 := by rw [← hw2]; exact (Frm.refl _ _).alloc _
        have hr2 : w2.heap[nb]? = some (.cells X.row.toArray 65 (0, 0)) := by rw [← hw2, ← hnb]; exact heap_alloc_new _ _
        rw [hw2, hnb]
        have HF2 := hid hf2
        have HR2 := hid hr2
        have HCB := hid (hf2.heap HC.out (by simp))
        have HON : Hid (∀ v ∈ X.row, v.oneCell' = true) := hid (fun v hv => by
          simp only [Wt.row, List.mem_cons] at hv
          rcases hv with rfl | rfl | hv
          · rfl
          · rfl
          · exact bv_one v hv)
        clear hw2 hnb hf2 hr2
        refine wpList_appRoom rfl _ _ 57 rfl 65 130 144 _ Try.underlying57 infoW gq K c C HCB.out rfl ⟨nb, 0, none⟩ 1 1 rfl X.row (by rw [row_length HXL.out]) (fun i u hu => by rw [add_lit, Nat.zero_add, cell_of_row _ _ _ _ _ _ HR2.out]; simpa using hu) HON.out (by omega) (by rw [row_length HXL.out, HCl.out]; omega) ?_
        intro w3 hg3 hf3
        have HIN : Hid (InD w pb gq N c S D keep C0 (j + 1) (K + 1) w3) := hid (by
          have h := hin.out
          have e1 : restW D.db (S.ws.take (j + 1)) = restW D.db (S.ws.take j) ++ [X] := by rw [HCT2.out, restW_app, restW_other HNS.out]
          have e2 : over D.db D.plat (S.ws.take (j + 1)) = over D.db D.plat (S.ws.take j) := by rw [HCT2.out, over_app, over_other _ HNS.out]
          have hl1 : (C.take (K * 130)).length = K * 130 := by rw [List.length_take, HCl.out]; omega
          have hl2 := row_length HXL.out
          refine ⟨by rw [e1, List.length_append, ← h.kl]; rfl, hf3.out.heap (HF2.out.heap h.row (by simp)) (by simp; exact HPG.out), ⟨_, hg3.out, ?_, ?_, ?_⟩, ?_, (h.fr.trans HF2.out (by simp)).trans hf3.out (by simp)⟩
          · simp only [List.length_append, List.length_take, List.length_drop, HCl.out, hl2]; omega
          · rw [e1, rowsW_app, ← HCt.out, show rowsW [X] = X.row by simp [rowsW], List.take_append_of_le_length (by simp only [List.length_append, hl1, hl2]; omega), List.take_of_length_le (by simp only [List.length_append, hl1, hl2]; omega)]
          · rw [hl2, List.drop_append_of_le_length (by simp only [List.length_append, hl1, hl2]; omega), List.drop_of_length_le (by simp only [List.length_append, hl1, hl2]; omega), List.nil_append, show (K + 1) * 130 = K * 130 + 130 by omega]
            have h2 := congrArg (List.drop 130) HCd.out
            rwa [List.drop_drop, List.drop_drop] at h2
          · rw [e2]
            exact (h.dsk.kept HF2.out (by simp) (by simp) (by simp)).kept hf3.out (by simp; exact HAP.out.1) (by simp; exact HAP.out.2.1) (by simp; exact HAP.out.2.2.1))
        clear hg3 hf3 HIW heq hin HX HXL HXM HCT2 HRG HC HCt HCd HCl HNS x0 k4 f4 HON HCB HR2 HF2
        go_wp2_with fail
        go_roundw
        case rel => exact ⟨j + 1, K + 1, by omega, by go_num, by rfl, HIN⟩
        case measure => simp [intOf]; omega
    · obtain rfl : j = N := by omega
      obtain ⟨pp, hpp, hsl⟩ := HS1.out K hKj
      obtain ⟨w2, hcl, ⟨C', hg2, hl2, ht2⟩, hf2⟩ := run_clearW wr gq K (j - K) (c - K) pp C hC (fun h => hpp (by omega)) (by rw [hCl]; omega)
      have HF2 := hid hf2
      have HG2 := hid hg2
      have k42 := (hf2.cell (p := ⟨pb, 4, none⟩) (lt_of_heap hin.out.row) (by simp; exact HPG.out)).trans k4
      have f42 := (hf2.frozen (p := ⟨pb, 4, none⟩) (lt_of_heap hin.out.row) (by simp; exact HPG.out)).trans f4
      have HL2 := hid hl2
      have HT2 := hid (ht2.trans hCt)
      have HCl := hid hCl
      clear hpp hf2 hg2 hl2 ht2 hC hCl hCt hCd
      have hfin : Frm [gq, pb] wr (w2.setCell ⟨pb, 4, none⟩ (.slice (some ⟨gq, 0, none⟩) K c)) := (HF2.out.mono (by simp)).setCell _ _ (by simp)
      have HFIN := hid hfin
      have hrow2 := heap_setCell_same w2 pb 4 _ _ (Value.slice (some ⟨gq, 0, none⟩) K c) (HF2.out.heap hin.out.row (by simp; exact HPG.out))
      have HROW2 := hid hrow2
      have hg3 : (w2.setCell ⟨pb, 4, none⟩ (.slice (some ⟨gq, 0, none⟩) K c)).heap[gq]? = some (.cells C'.toArray 65 (0, 0)) := ((Frm.refl [pb] w2).setCell ⟨pb, 4, none⟩ (.slice (some ⟨gq, 0, none⟩) K c) (by simp)).heap HG2.out (by simp; exact fun e => HPG.out e.symm)
      have HG3 := hid hg3
      clear hfin hrow2 hg3
      go_wp2_with fail
      go_returns
      have h := hin.out
      have hall : S.ws.take j = S.ws := List.take_of_length_le (by rw [HN.out]; omega)
      have hkl := h.kl
      have hds := h.dsk
      have ht2 := HT2.out
      rw [hall] at hkl hds ht2
      rw [HPL.out] at hds
      refine ⟨rfl, ⟨?_, ?_, fun x hx => HP.out.len x (List.mem_filter.1 hx).1, HP.out.lb, ?_, HP.out.apart⟩, ?_, ?_⟩
      · have e : ({ S with ws := restW D.db S.ws } : PSt).ws.length = K := hkl.symm
        rw [HROW2.out, e]
        rfl
      · have e : ({ S with ws := restW D.db S.ws } : PSt).ws.length = K := hkl.symm
        rw [e]
        refine ⟨by rw [← ht2, List.length_take, HL2.out, HCl.out]; omega, Or.inr ⟨gq, c, C'.toArray, rfl, Nat.zero_le _, HG3.out, by omega, HCM.out, by simp [HL2.out, HCl.out], by simpa using ht2⟩⟩
      · show 0 ≤ S.writes ∧ S.writes + ((restW D.db S.ws).length : Int) ≤ 500000000000
        have h1 := HP.out.wb
        have h2 := restW_le D.db S.ws
        omega
      · exact (hds.kept HFIN.out (by simp; exact ⟨HAP.out.1, HAP.out.2.2.2.1⟩) (by simp; exact ⟨HAP.out.2.1, HAP.out.2.2.2.2.1⟩) (by simp; exact ⟨HAP.out.2.2.1, HAP.out.2.2.2.2.2⟩))
      · exact (h.fr.mono (by simp)).trans (HFIN.out) (by simp)
set_option maxHeartbeats 800000 in
theorem drop_none (pb c : Nat) (S : PSt) (v : Value) (fv : Value) (w : World) (hp : IsPow w pb S none c) :
    Calls Try.prog 31 #[.pointer (some ⟨pb, 0, none⟩), v, fv] w fun e w' => e = .returned (.tuple #[]) ∧ IsPow w' pb S none c ∧ S.ws = [] ∧ Frm [pb] w w' := by
  have HP := hid hp
  obtain ⟨c0, c1, c2, c3, c4⟩ := hp.cells
  have f4 := hp.froz 4
  obtain ⟨h0, rfl⟩ : S.ws.length = 0 ∧ c = 0 := by
    rcases hp.own.2 with ⟨h, h0⟩ | ⟨g, cp, cur, he, _⟩
    · simp at h
      exact ⟨h0, h.2⟩
    · simp at he
  rw [h0] at c4
  have H0 := hid h0
  have hnil := List.eq_nil_of_length_eq_zero h0
  have HNIL := hid hnil
  have hcl : ∀ ty, (Builtin.clear_ #[57] ty #[.slice none 0 0]).run Try.prog w = .ok (.tuple #[]) w := fun ty => by
    have hu : Try.prog.underlying 57 = some (.slice 65) := Try.underlying57
    simp [Builtin.clear_, run_underlying hu]
  clear hp h0 hnil c0 c1 c2 c3
  go_enter Try.func31, Try.ntmps31
  go_wp2_with fail
  go_loopw [18, 6, 7] (fun i s6 s7 wr => i = .int .i64 0 ∧ s6 = .slice none 0 0 ∧ wr = w) (fun i _ _ _ => 0)
  case atStart => exact ⟨rfl, rfl, rfl⟩
  case round =>
    obtain ⟨rfl, rfl, rfl⟩ := hrel
    go_wp2_with fail
    go_returns
    have hf : Frm [pb] wr (wr.setCell ⟨pb, 4, none⟩ (.slice none 0 0)) := (Frm.refl _ _).setCell _ _ (by simp)
    refine ⟨rfl, ⟨?_, ?_, HP.out.len, HP.out.lb, HP.out.wb, HP.out.apart⟩, HNIL.out, hf⟩
    · rw [heap_setCell_same _ _ 4 _ _ _ HP.out.row, H0.out]
      rfl
    · exact ownsRow_kept HP.out.own hf (by simp [blk])
end
end Go.Proofs.Ytfclamndjnoopaa
