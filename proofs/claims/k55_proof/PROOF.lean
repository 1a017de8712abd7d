import PyProof.Rows.All
import Wide.All
import OpenK.AllK
import Wide.FinOn
import HandS.ForMost
import HandS.Wide
import HandS.Flow
import HandS.Deep
import HandS.Codes
import HandS.TupAny
import PyProof.Rows.InDataRows
import KE.SortData
import KE.KDictPairs
import PyProof.ReprRoads
import PyProof.CallFns
import PySem.Challenge.RW_mustmays_k55_schemes_told
set_option Elab.async false
set_option linter.all false
set_option maxRecDepth 100000
/-! rules of our own over the layer: repr of data, sorted of data, dict of a tuple of pairs -/
namespace Ms55
open PySem PySem.Spec PyProof.Rows L2
section
variable {X : Cx}
/-- repr of data that holds no dict -/
theorem call_reprD (hgd : X.A.guards = some []) : CallR X (.builtin "repr") (fun xs H Q => ∃ x d, xs = [x] ∧ Dp X.K H x d ∧ (d = .none ∨ ∃ ds, d = .tuple ds) ∧ d.showable = true ∧ d.hasDict = false ∧ d.shown.length ≤ sizeLine ∧
    X.A.units + (d.depth + 1) < cLine ∧ Q (.str d.shown) H) := by
  intro pins s σ H xs us Q I r h
  obtain ⟨x, d, rfl, hd, hform, hs, hnd, hsz, hu, q⟩ := h
  obtain ⟨u, rfl, ru⟩ := vals1 r
  rcases hform with rfl | ⟨ds, rfl⟩
  · cases hd
    cases ru
    exact PySem.P.repr_of_none ⟨.str _, H, I.tok _, ⟨_, rfl⟩, q⟩
  · obtain ⟨as, rd⟩ := Dp.reads I _ _ u hd ru
    cases hd with
    | tup hsq hall =>
      cases ru
      exact repr_of_reads' rd hs (fun z => by rw [hnd] at z; cases z) hgd hu (fun _ _ e => e) (fun h' u tk hk => ⟨.str _, H, I.kept hk, ⟨_, rfl⟩, q⟩) hsz
/-- values and what they stand for, one beside the other -/
theorem each_of {R : Value → V × PyData → Prop} : ∀ {bs : List (V × PyData)} {us : List Value}, Vals (bs.map (·.1)) us → (∀ b ∈ bs, ∀ u, RelV b.1 u → R u b) → PySem.W.EachIs R us bs
  | [], _, .nil, _ => .nil
  | b :: bs, _, .cons r t, h => .cons (h b List.mem_cons_self _ r) (each_of t fun c hc => h c (List.mem_cons_of_mem _ hc))
theorem vals_each : ∀ {bs : List (V × PyData)} {us : List Value}, PySem.W.EachIs (fun u b => RelV b.1 u) us bs → Vals (bs.map (·.1)) us
  | _, _, .nil => .nil
  | _, _, .cons r t => .cons r (vals_each t)
/-- sorted of data that are alike -/
theorem call_sortedD : CallR X (.builtin "sorted") (fun xs H Q => ∃ (a : Addr) (bs : List (V × PyData)), xs = [.ref a] ∧ SqL X.K H a (bs.map (·.1)) ∧ (∀ b ∈ bs, Dp X.K H b.1 b.2) ∧ PySem.W.AllAlike (bs.map (·.2)) ∧ PySem.W.Sortable (bs.map (·.2)) ∧
    (∀ b ∈ bs, X.A.units + 2 + b.2.depth < cLine) ∧ ∀ cs p, cs = bs.mergeSort (PySem.W.dataLe false (·.2)) → H p = none → Q (.ref p) (upd H p (.lst (cs.map (·.1))))) := by
  intro pins s σ H xs us Q I r h
  obtain ⟨a, bs, rfl, hq, hdp, hal, hso, hu, q⟩ := h
  obtain ⟨u, rfl, ru⟩ := vals1 r
  cases ru
  obtain ⟨its, rv, pl, hz⟩ := I.list hq
  have hlen := rv.length
  rw [List.length_map] at hlen hz
  refine PySem.W.sorted_data (R := fun u b => RelV b.1 u) (enc := fun b : V × PyData => b.2) pl.isList (each_of rv fun b _ u r => r) (each_of rv fun b hb u r => Dp.reads I _ _ _ (hdp b hb) r) hal hso hz hu fun out ho he => ?_
  have hlo : (bs.mergeSort (PySem.W.dataLe false (·.2))).length = bs.length := List.length_mergeSort _
  refine ⟨.ref (s.heap.objs.size + 1), _, I.laid (t' := s.toks) (fun b o e => sortedAll_old e) (Nat.le_succ _) ?_, rfl, q _ _ rfl (I.hok.fresh (Nat.le_succ _))⟩
  obtain ⟨e, hat⟩ := sortedAll_at s.heap its (List.toArray out)
  exact ⟨by rw [List.length_map, hlo]; exact hz, out, e, vals_each he, hat⟩
/-- tuple of a list: the new object is known -/
theorem call_tupleF : CallR X (.type "tuple") (fun xs H Q => ∃ (a : Addr) (ys : List V), xs = [.ref a] ∧ SqL X.K H a ys ∧ ∀ p o, o.dict = none → H p = none → Q (.ref p) (upd H p (.frz o (.tup ys)))) := by
  intro pins s σ H xs us Q I r h
  obtain ⟨p, ys, rfl, hq, q⟩ := h
  obtain ⟨u, rfl, rx⟩ := vals1 r
  cases rx
  obtain ⟨its, r', pl, hz⟩ := I.list hq
  have hlen := r'.length
  refine call_tuple_list pl.isList (fun h' kp => ?_) (by simp only [List.size_toArray] <;> omega)
  have I1 : Inv X pins σ H { s with heap := h' } := I.kept (t' := s.toks) kp
  have ob : (h'.push { cls := .type "tuple", data := .seq its.toArray }).get? h'.objs.size = some { cls := .type "tuple", data := .seq its.toArray } := Heap.get?_push_size _ rfl
  refine ⟨.ref h'.objs.size, _, I1.laid (t' := s.toks) (fun b o e => Heap.get?_push_of_some _ e) (Nat.le_refl _) ?_, rfl, q _ { cls := .type "tuple", data := .seq its.toArray } rfl (I1.hok.fresh (Nat.le_refl _))⟩
  exact ⟨ob, hz, its, r', IsTup.new _ _⟩
/-- the pairs at some addresses, as the machine has them -/
theorem two_each {pins : List (Addr × Obj)} {σ : L2.St} {H : Hp} {s : Shared} (I : Inv X pins σ H s) : ∀ {ps : List Addr} {kvs : List (Key × V)}, Paired (fun p kv => SqT X.K H p [kV kv.1, kv.2]) ps kvs →
    ∃ (two : List (Value × Value)) (prs : List (Key × Value)), KV kvs prs ∧ two.length = ps.length ∧ prs.length = ps.length ∧ ∀ (j : Nat) (k v : Value), two[j]? = some (k, v) → ∃ (b : Addr) (y : Key), ps[j]? = some b ∧ IsTup s.heap b #[k, v] ∧ prs[j]? = some (y, v) ∧ keyIs y k = true
  | _, _, .nil => ⟨[], [], .nil, rfl, rfl, fun j k v e => by simp at e⟩
  | _, _, .cons (a := p) (b := kv) h t => by
    obtain ⟨two, prs, r, hl, hl2, hp⟩ := two_each I t
    obtain ⟨its, rv, ht, _⟩ := I.tuple h
    obtain ⟨u, y, rfl, ru, ry⟩ := vals2 rv
    refine ⟨(u, y) :: two, (kv.1, y) :: prs, .cons ⟨rfl, ry⟩ r, by simp [hl], by simp [hl2], fun j k v e => ?_⟩
    cases j with
    | zero =>
      have e' := Option.some.inj e
      cases e'
      exact ⟨p, kv.1, rfl, ht, rfl, kV_is (P := X.prog) (w := X.w) ru⟩
    | succ j =>
      obtain ⟨b, z, e1, e2, e3, e4⟩ := hp j k v (by simpa using e)
      exact ⟨b, z, by simpa using e1, e2, by simpa using e3, e4⟩
/-- dict of a known tuple of pairs -/
theorem call_dictF (hcalm : X.calm = true) : CallR X (.type "dict") (fun xs H Q => ∃ (a : Addr) (o : Obj) (ps : List Addr) (kvs : List (Key × V)), xs = [.ref a] ∧ H a = some (.frz o (.tup (ps.map V.ref))) ∧ o.dict = none ∧
    Paired (fun p kv => SqT X.K H p [kV kv.1, kv.2]) ps kvs ∧ ∀ p, H p = none → Q (.ref p) (upd H p (.dK (mergeK [] kvs)))) := by
  intro pins s σ H xs us Q I r q
  obtain ⟨a, o, ps, kvs, rfl, ha, hod, hp, q⟩ := q
  obtain ⟨u, rfl, rx⟩ := vals1 r
  cases rx
  obtain ⟨ho, hz, its, rv, o', ho', hc, n, hdat⟩ := I.hok _ _ ha
  obtain rfl : o = o' := Option.some.inj (ho.symm.trans ho')
  have ei := refs_at rv
  subst ei
  rw [List.length_map] at hz
  obtain ⟨two, prs, rel, hl, hl2, hpr⟩ := two_each I hp
  have hm : (s.heap.objs.size == sysModules) = false := beq_eq_false_iff_ne.mpr (Nat.ne_of_gt I.big)
  refine call_dict_pairs (knd := mixKind X.prog X.w) (kvs := prs) (PairArg.tuple a (ps.map Value.ref).toArray (fun j => ps.getD j 0) two) (I.ok.hd hcalm) ⟨⟨o, n, ho, hc, hod, hdat⟩, ?_, fun j k v e => ?_⟩ ⟨by rw [hl2, hl], fun i key v e => ?_⟩ (by rw [hl]; exact hz) fun h' tk hd' k => ?_
  · simp [hl]
  · obtain ⟨b, y, e1, e2, _⟩ := hpr j k v e
    have eb : ps.getD j 0 = b := by rw [List.getD_eq_getElem?_getD, e1] <;> rfl
    refine ⟨?_, .inl ?_⟩
    · show (ps.map Value.ref).toArray[j]? = some (Value.ref (ps.getD j 0))
      rw [eb]
      simp [e1]
    · show s.heap.IsTuple (ps.getD j 0) #[k, v]
      rw [eb]
      exact e2
  · obtain ⟨b, y, e1, e2, e3, e4⟩ := hpr i key v e
    exact ⟨y, e3, e4⟩
  · have hlen : (mergeK [] kvs).length ≤ sizeLine := by
      refine Nat.le_trans (length_mergeK kvs []) ?_
      rw [List.length_nil, Nat.zero_add, rel.length, hl2]
      exact hz
    exact ⟨.ref s.heap.objs.size, upd H s.heap.objs.size (.dK (mergeK [] kvs)), I.laid (t' := tk) (fun b o e => k b o (by simp) e) (Nat.le_refl _) (show ObjOk X.prog X.w _ _ _ (.dK (mergeK [] kvs)) from ⟨hlen, hm, merged [] prs, KV.merge rel .nil, hd'⟩), rfl, q _ (I.hok.fresh (Nat.le_refl _))⟩
end
end Ms55

namespace Ms55
open PySem PySem.Spec PyProof.Rows L2
/-! ### the text -/
def topS (i : Nat) : Stmt := PySem.Challenge.pw_mustmays_k55_schemes_told.main.body.getD i (.Pass ⟨0, 0, 0, 0⟩)
abbrev sRules : Stmt := topS 1
abbrev sScheme : Stmt := topS 3
abbrev sBridge : Stmt := topS 4
abbrev sRuleSaid : Stmt := topS 5
abbrev sBridgeSaid : Stmt := topS 6
abbrev sFeed : Stmt := topS 8
abbrev sDraw : Stmt := topS 9
abbrev sClaim : Stmt := topS 10
abbrev sLots : Stmt := topS 11
abbrev sTown : Stmt := topS 12
abbrev sScheme2 : Stmt := topS 13
abbrev sBridge2 : Stmt := topS 14
abbrev sLaw : Stmt := topS 15
/-! ### heaps: all stays but dicts -/
def Sd (H H' : Hp) : Prop := ∀ b o, H b = some o → (∀ kvs, o ≠ .dK kvs) → H' b = some o
theorem Sd.refl (H : Hp) : Sd H H := fun _ _ h _ => h
theorem Sd.trans {H H1 H2 : Hp} (a : Sd H H1) (b : Sd H1 H2) : Sd H H2 := fun c o h n => b c o (a c o h n) n
theorem Sd.new {H : Hp} {p : Addr} (h : H p = none) (o : HO) : Sd H (upd H p o) := fun b u q _ => by rw [upd_ne (ne_of_none q h)]; exact q
theorem Sd.put {H : Hp} {p : Addr} {kvs : List (Key × V)} (h : H p = some (.dK kvs)) (o : HO) : Sd H (upd H p o) := fun b u q n => by
  by_cases e : b = p
  · subst e
    rw [h] at q
    exact absurd (Option.some.inj q).symm (n kvs)
  · rw [upd_ne e]
    exact q
theorem Sd.of_same {H H' : Hp} (h : Same H H') : Sd H H' := fun b o q _ => h b o q
theorem Sd.seq {K : PySem.W.Frag} {H H' : Hp} {a : Addr} {xs : List V} (e : Sd H H') (h : SqL K H a xs) : SqL K H' a xs := by
  rcases h with (h | ⟨o, h⟩) | h
  · exact .inl (.inl (e _ _ h (fun _ z => nomatch z)))
  · exact .inl (.inr ⟨o, e _ _ h (fun _ z => nomatch z)⟩)
  · exact .inr h
theorem Sd.tup {K : PySem.W.Frag} {H H' : Hp} {a : Addr} {xs : List V} (e : Sd H H') (h : SqT K H a xs) : SqT K H' a xs := by
  rcases h with (h | ⟨o, h⟩) | h
  · exact .inl (.inl (e _ _ h (fun _ z => nomatch z)))
  · exact .inl (.inr ⟨o, e _ _ h (fun _ z => nomatch z)⟩)
  · exact .inr h
mutual
theorem dp_sd {K : PySem.W.Frag} {H H' : Hp} (e : Sd H H') : ∀ (d : PyData) (v : V), Dp K H v d → Dp K H' v d
  | .none, _, h => by cases h; exact .non
  | .bool b, _, h => by cases h; exact .bl b
  | .int i, _, h => by cases h; exact .int i
  | .str x, _, h => by cases h; exact .str x
  | .list ds, _, h => by
    cases h with
    | lst hs ha => exact .lst (e.seq hs) (dpAll_sd e ds _ ha)
  | .tuple ds, _, h => by
    cases h with
    | tup hs ha => exact .tup (e.tup hs) (dpAll_sd e ds _ ha)
  | .dict _, _, h => by cases h
theorem dpAll_sd {K : PySem.W.Frag} {H H' : Hp} (e : Sd H H') : ∀ (ds : List PyData) (vs : List V), DpAll K H vs ds → DpAll K H' vs ds
  | [], _, h => by cases h; exact .nil
  | d :: ds, _, h => by
    cases h with
    | cons h1 h2 => exact .cons (dp_sd e d _ h1) (dpAll_sd e ds _ h2)
end
/-! ### the feed -/
def fdK (c : Addr) (nx lf dr : Int) : List (Key × V) := [(.inr "cells", .ref c), (.inr "next", .int nx), (.inr "left", .int lf), (.inr "draws", .int dr)]
theorem fd_cells {c nx lf dr} : valV (fdK c nx lf dr) (.inr "cells") = some (.ref c) := by rfl
theorem fd_next {c nx lf dr} : valV (fdK c nx lf dr) (.inr "next") = some (.int nx) := by rfl
theorem fd_left {c nx lf dr} : valV (fdK c nx lf dr) (.inr "left") = some (.int lf) := by rfl
theorem fd_draws {c nx lf dr} : valV (fdK c nx lf dr) (.inr "draws") = some (.int dr) := by rfl
theorem fp_next {c nx lf dr x} : putK (fdK c nx lf dr) (.inr "next") (.int x) = fdK c x lf dr := by rfl
theorem fp_left {c nx lf dr x} : putK (fdK c nx lf dr) (.inr "left") (.int x) = fdK c nx x dr := by rfl
theorem fp_draws {c nx lf dr x} : putK (fdK c nx lf dr) (.inr "draws") (.int x) = fdK c nx lf x := by rfl
theorem fdK_len {c nx lf dr} : (fdK c nx lf dr).length < sizeLine := by show 4 < sizeLine; decide
/-- the feed stands at p, its cells at c, no more than n draws were made -/
def Fd (K : PySem.W.Frag) (H : Hp) (p c : Addr) (cells : List Int) (n : Int) : Prop := ∃ nx lf dr : Int, H p = some (.dK (fdK c nx lf dr)) ∧ SqL K H c (cells.map V.int) ∧ cells.length ≤ 63 ∧ 0 ≤ nx ∧ 0 ≤ lf ∧ 0 ≤ dr ∧ dr ≤ n
section
variable {K : PySem.W.Frag} {H H' : Hp} {p c q : Addr} {cells : List Int} {n m : Int}
theorem Fd.mono (h : Fd K H p c cells n) (e : n ≤ m) : Fd K H p c cells m := by
  obtain ⟨nx, lf, dr, h1, h2, h3, h4, h5, h6, h7⟩ := h
  exact ⟨nx, lf, dr, h1, h2, h3, h4, h5, h6, by omega⟩
theorem Fd.same (h : Fd K H p c cells n) (e : Same H H') : Fd K H' p c cells n := by
  obtain ⟨nx, lf, dr, h1, h2, h3⟩ := h
  exact ⟨nx, lf, dr, e _ _ h1, e.seq h2, h3⟩
theorem same_new (hq : H q = none) (o : HO) : Same H (upd H q o) := fun b u e => by rw [upd_ne (ne_of_none e hq)]; exact e
theorem Fd.new (h : Fd K H p c cells n) (hq : H q = none) (o : HO) : Fd K (upd H q o) p c cells n := h.same (same_new hq o)
/-- a thing that wasn't there at first is written -/
theorem Fd.put {H0 : Hp} {D : Addr} {n0 : Int} (h0 : Fd K H0 p c cells n0) (hD : H0 D = none) (h : Fd K H p c cells n) (o : HO) : Fd K (upd H D o) p c cells n := by
  obtain ⟨nx, lf, dr, h1, h2, h3⟩ := h
  obtain ⟨_, _, _, g1, g2, _⟩ := h0
  refine ⟨nx, lf, dr, by rw [upd_ne (ne_of_none g1 hD)]; exact h1, ?_, h3⟩
  rcases g2 with (g2 | ⟨ob, g2⟩) | g2
  · rcases h2 with (h2 | ⟨ob, h2⟩) | h2
    · exact .inl (.inl (by rw [upd_ne (ne_of_none g2 hD)]; exact h2))
    · exact .inl (.inr ⟨ob, by rw [upd_ne (ne_of_none g2 hD)]; exact h2⟩)
    · exact .inr h2
  · rcases h2 with (h2 | ⟨ob, h2⟩) | h2
    · exact .inl (.inl (by rw [upd_ne (ne_of_none g2 hD)]; exact h2))
    · exact .inl (.inr ⟨ob, by rw [upd_ne (ne_of_none g2 hD)]; exact h2⟩)
    · exact .inr h2
  · exact .inr g2
theorem Sd.at {H0 : Hp} {D : Addr} (hD : H0 D = none) (s : Sd H0 H) (o : HO) : Sd H0 (upd H D o) := fun b u e k => by
  rw [upd_ne (ne_of_none e hD)]
  exact s b u e k
end
/-- what a draw promises -/
def spDraw (K : PySem.W.Frag) : Sp := fun vs H Q _ => ∃ (p c : Addr) (cells : List Int) (sz n : Int), vs = [.ref p, .int sz] ∧ Fd K H p c cells n ∧ 0 < sz ∧ sz ≤ 1000 ∧ n ≤ 1000000000 ∧ ∀ H' i, Sd H H' → Fd K H' p c cells (n + 1) → 0 ≤ i → i < sz → Q (.int i) H'
theorem scDraw : FnScope ["_law_feed_here", "_law_size", "_law_draws", "_law_found", "_law_spot", "_law_grain", "_law_mixed"] ["_law_feed_here", "_law_size"] (defScope sDraw) := ⟨rfl, rfl, rfl, by decide +kernel, rfl, by decide +kernel, by decide +kernel⟩
end Ms55

namespace Ms55
open PySem PySem.Spec PyProof.Rows L2
theorem canInts : ∀ ns : List Int, PyData.canLayAll0 (ns.map .int) = true
  | [] => by simp [PyData.canLayAll0]
  | n :: ns => by simp [PyData.canLayAll0, PyData.canLay0, canInts ns]
theorem shInts (ns : List Int) : SeqAt.shaped (.list (ns.map .int)) = true := by
  have h := PySem.W.depth_ints ns
  simp [SeqAt.shaped, PyData.canLay0, canInts ns, PyData.depth, h]
theorem dpInts {K : PySem.W.Frag} {H : Hp} : ∀ ns : List Int, DpAll K H (ns.map V.int) (ns.map .int)
  | [] => .nil
  | n :: ns => .cons (.int n) (dpInts ns)
theorem eqvNil : ∀ ns : List Int, PyData.eqv (.list (ns.map .int)) (.list []) = ns.isEmpty
  | [] => by simp [PyData.eqv, PyData.eqvAll]
  | n :: ns => by simp [PyData.eqv, PyData.eqvAll]
section
variable {P : Program} {w : World} {K : PySem.W.Frag} {mg : Str → Option Value} {base : Heap}
theorem ok_draw {f : Addr} {fd : FuncData} {k : Nat} (F : Fun K "_law_draw" "_law_draw" sDraw f fd) (ml : mg "len" = none) : FnOk P w K mg base CX0 (k + 1) f fd ["_law_feed_here", "_law_size"] (spDraw K) := by
  refine F.ok scDraw (fun vs H Q E h => ?_) (fun cdv A outer s H vs Q E hr h => ?_)
  · obtain ⟨p, c, cells, sz, n, rfl, _⟩ := h
    rfl
  obtain ⟨p, c, cells, sz, n, rfl, hF, hs0, hs1, hn, q⟩ := h
  have hu := hu_of hr
  refine ⟨_, pss_cons (ps_set (i := 2) scDraw.nd rfl (.inl rfl) (pe_op op_add (pe_dget hu (pv 0) pe_str (fun _ _ => rfl)) pe_int))
    (pss_cons (ps_dput hu (pv 0) pe_str (pv 2) rfl)
    (pss_cons (ps_if (pt_cmpR op_gt (pe_dget hu (pv 0) pe_str (fun _ _ => rfl)) pe_int (nomark _))
      (pss_cons (ps_set (i := 3) scDraw.nd rfl (.inl rfl) (pe_op op_mod (pe_dget hu (pv 0) pe_str (fun _ _ => rfl)) (pv 1)))
      (pss_cons (ps_dput hu (pv 0) pe_str (pe_op op_fdivW (pe_dget hu (pv 0) pe_str (fun _ _ => rfl)) (pv 1)) rfl)
      (pss_one (ps_ret (pv 3))))) pss_nil)
    (pss_cons (ps_set (i := 4) scDraw.nd rfl (.inl rfl) (pe_dget hu (pv 0) pe_str (fun _ _ => rfl)))
    (pss_cons (ps_dput hu (pv 0) pe_str (pe_op op_add (pv 4) pe_int) rfl)
    (pss_cons (ps_set (i := 5) scDraw.nd rfl (.inl rfl) pe_int)
    (C8.pss_cut (ps_if (pt_cmpR (op_neD hr.units) (pe_dget hu (pv 0) pe_str (fun _ _ => rfl)) (pe_lst pa_nil) (nomark _))
      (pss_one (ps_set (i := 5) scDraw.nd rfl (.inl rfl) (pe_ix ix_list (pe_dget hu (pv 0) pe_str (fun _ _ => rfl)) (pe_op op_mod (pv 4) (pe_callB call_len_seq (by rfl) ml PySem.boot_len (pa_cons (pe_dget hu (pv 0) pe_str (fun _ _ => rfl)) pa_nil))) (fun _ _ => rfl)))) pss_nil)
    (C8.pss_cut (ps_if (PW.pt (pw_and (pt_cmpR op_ge (pv 5) (pe_op op_pow pe_int pe_int) (nomark _)) (pw_and1 (pt_cmpR op_lt (pv 4) (pe_callB call_len_seq (by rfl) ml PySem.boot_len (pa_cons (pe_dget hu (pv 0) pe_str (fun _ _ => rfl)) pa_nil)) (nomark _)))))
      (pss_cons (ps_dput hu (pv 0) pe_str (pe_op op_fdivW (pv 5) (pv 1)) rfl)
      (pss_one (ps_ret (pe_op op_mod (pv 5) (pv 1))))) pss_nil)
    (pss_cons (ps_set (i := 6) scDraw.nd rfl (.inl rfl) (pe_op op_mod (pe_op op_pow (pe_op op_add (pe_op op_add (pe_op op_mod (pv 5) pe_int) (pe_op op_mul pe_int (pv 2))) pe_int) pe_int) pe_int))
    (pss_cons (ps_set (i := 6) scDraw.nd rfl (.inl rfl) (pe_op op_mod (pe_op op_pow (pe_op op_add (pv 6) (pe_op op_mul pe_int (pv 2))) pe_int) pe_int))
    (pss_one (ps_ret (pe_op op_mod (pe_op op_fdiv (pv 6) pe_int) (pv 1))))))))))))), ?_⟩
  obtain ⟨nx, lf, dr, h1, h2, h3, h4, h5, h6, h7⟩ := hF
  -- draws = feed['draws'] + 1
  refine ⟨_, rfl, p, _, rfl, (DGet.k (k := Sum.inr "draws") h1), dr, 1, rfl, rfl, ?_⟩
  -- feed['draws'] = draws
  refine ⟨_, rfl, _, rfl, p, _, rfl, DPut.k (k := Sum.inr "draws") h1 fdK_len, ?_⟩
  rw [fp_draws]
  have e1 : (upd H p (.dK (fdK c nx lf (dr + 1)))) p = some (.dK (fdK c nx lf (dr + 1))) := upd_same
  have wd : ∀ i : Int, CDivW i sz := fun i => wide_div (b := 10) hs0 (by omega) (by decide) (by decide)
  have c1 : ∀ o, SqL K (upd (upd H p (.dK (fdK c nx lf (dr + 1)))) p o) c (cells.map V.int) := fun o => by
    rw [upd_upd]
    exact (Sd.put h1 o).seq h2
  have sq : ∀ o, Sd H (upd (upd H p (.dK (fdK c nx lf (dr + 1)))) p o) := fun o => by
    rw [upd_upd]
    exact Sd.put h1 o
  -- if feed['left'] > 0
  refine ⟨_, rfl, p, _, rfl, DGet.k (k := Sum.inr "left") e1, lf, 0, rfl, rfl, _, rfl, ite2 (fun c0 => ?_) (fun c0 => ?_)⟩
  · refine ⟨_, rfl, p, _, rfl, DGet.k (k := Sum.inr "left") e1, _, rfl, lf, sz, rfl, rfl, hs0, ?_⟩
    refine ⟨_, rfl, p, _, rfl, DGet.k (k := Sum.inr "left") e1, _, rfl, lf, sz, rfl, rfl, wd lf, _, rfl, p, _, rfl, DPut.k (k := Sum.inr "left") e1 fdK_len, ?_⟩
    rw [fp_left]
    refine ⟨_, rfl, q _ _ (sq _) ⟨nx, lf / sz, dr + 1, upd_same, c1 _, h3, h4, Int.ediv_nonneg h5 (by omega), by omega, by omega⟩ (Int.emod_nonneg _ (by omega)) (Int.emod_lt_of_pos _ hs0)⟩
  -- spot = feed['next']; feed['next'] = spot + 1; grain = 0
  refine ⟨_, rfl, p, _, rfl, DGet.k (k := Sum.inr "next") e1, ?_⟩
  refine ⟨_, rfl, nx, 1, rfl, rfl, _, rfl, p, _, rfl, DPut.k (k := Sum.inr "next") e1 fdK_len, ?_⟩
  rw [fp_next, upd_upd]
  generalize hH1 : upd H p (.dK (fdK c (nx + 1) lf (dr + 1))) = H1
  have e2 : H1 p = some (.dK (fdK c (nx + 1) lf (dr + 1))) := by rw [← hH1]; exact upd_same
  have s1 : Sd H H1 := by rw [← hH1]; exact Sd.put h1 _
  have g1 : SqL K H1 c (cells.map V.int) := s1.seq h2
  have f1 : Fd K H1 p c cells (n + 1) := ⟨nx + 1, lf, dr + 1, e2, g1, h3, by omega, h5, by omega, by omega⟩
  -- if feed['cells'] != []: grain = ..
  refine ⟨fun σ' H' => ∃ g : Int, σ' = [some (.ref p), some (.int sz), some (.int (dr + 1)), none, some (.int nx), some (.int g), none] ∧ Same H1 H', ?_, ?_⟩
  · refine ⟨_, rfl, p, _, rfl, DGet.k (k := Sum.inr "cells") e2, (by show 0 ≤ sizeLine; decide), fun r hr' => ?_⟩
    have sm : Same H1 (upd H1 r (.lst [])) := fun b u e => by rw [upd_ne (ne_of_none e hr')]; exact e
    refine ⟨.list (cells.map .int), .list [], .lst (sm.seq g1) (dpInts cells), .lst (.inl (.inl upd_same)) .nil, shInts cells, by decide, _, rfl, ?_⟩
    rw [eqvNil]
    cases cells with
    | nil => exact iteF ⟨0, rfl, sm⟩
    | cons x r =>
      have e3 := sm _ _ e2
      refine iteT ⟨_, rfl, p, _, rfl, DGet.k (k := Sum.inr "cells") e3, _, rfl, _, rfl, p, _, rfl, DGet.k (k := Sum.inr "cells") e3, c, _, rfl, .inl (sm.seq g1), nx, _, rfl, rfl, ?_, ?_⟩
      · rw [List.length_map, List.length_cons]
        omega
      · have hpos : (0 : Int) < (((x :: r).map V.int).length : Nat) := by
          rw [List.length_map, List.length_cons]
          omega
        have a0 := Int.emod_nonneg nx (Int.ne_of_gt hpos)
        have a1 := Int.emod_lt_of_pos nx hpos
        obtain ⟨j, ej⟩ : ∃ j : Nat, nx % (((x :: r).map V.int).length : Nat) = j := ⟨(nx % (((x :: r).map V.int).length : Nat)).toNat, by omega⟩
        rw [ej] at a1
        have hj : j < (x :: r).length := by
          rw [List.length_map] at a1
          omega
        refine ⟨c, _, _, .int ((x :: r)[j]), rfl, rfl, sm.seq g1, at_of ej ?_, _, rfl, sm⟩
        rw [List.getElem?_map, List.getElem?_eq_getElem hj]
        rfl
  rintro σ' H2 ⟨g, rfl, sm⟩
  have e3 := sm _ _ e2
  have g2 := sm.seq g1
  have s2 : Sd H H2 := s1.trans (Sd.of_same sm)
  have f2 : Fd K H2 p c cells (n + 1) := f1.same sm
  -- if grain >= 10 ** 18 and ..
  refine ⟨fun σ' H' => σ' = [some (.ref p), some (.int sz), some (.int (dr + 1)), none, some (.int nx), some (.int g), none] ∧ H' = H2, ?_, ?_⟩
  · refine ⟨_, rfl, 10, 18, rfl, rfl, ⟨by decide, by decide, by decide⟩, g, _, rfl, rfl, _, rfl, ite2 (fun ca => ?_) (fun ca => iteF ⟨rfl, rfl⟩)⟩
    have hg : (10 : Int) ^ 18 ≤ g := of_decide_eq_true ca
    refine ⟨_, rfl, _, rfl, p, _, rfl, DGet.k (k := Sum.inr "cells") e3, c, _, rfl, .inl g2, nx, _, rfl, rfl, _, rfl, ite2 (fun cb => ?_) (fun cb => ⟨rfl, rfl⟩)⟩
    refine ⟨_, rfl, _, rfl, g, sz, rfl, rfl, wd g, _, rfl, p, _, rfl, DPut.k (k := Sum.inr "left") e3 fdK_len, ?_⟩
    rw [fp_left]
    refine ⟨_, rfl, _, rfl, g, sz, rfl, rfl, hs0, ?_⟩
    exact q _ _ (s2.trans (Sd.put e3 _)) ⟨nx + 1, g / sz, dr + 1, upd_same, (Sd.put e3 _).seq g2, h3, by omega, Int.ediv_nonneg (by omega) (by omega), by omega, by omega⟩ (Int.emod_nonneg _ (by omega)) (Int.emod_lt_of_pos _ hs0)
  rintro σ' H3 ⟨rfl, rfl⟩
  have b0 := Int.emod_nonneg g (show (2147483629 : Int) ≠ 0 by decide)
  have b1 := Int.emod_lt_of_pos g (show (0 : Int) < 2147483629 by decide)
  refine ⟨_, rfl, g, 2147483629, rfl, rfl, (show (0 : Int) < 2147483629 by decide), _, rfl, 7919, dr + 1, rfl, rfl, .inl ⟨by decide, by decide⟩, _, _, rfl, rfl, _, _, rfl, rfl, _, _, rfl, rfl, ⟨by decide, by decide, ?_⟩, _, _, rfl, rfl, (show (0 : Int) < 2147483647 by decide), ?_⟩
  · omega
  generalize (g % 2147483629 + 7919 * (dr + 1) + 1) ^ (5 : Int).toNat = y
  have d0 := Int.emod_nonneg y (show (2147483647 : Int) ≠ 0 by decide)
  have d1 := Int.emod_lt_of_pos y (show (0 : Int) < 2147483647 by decide)
  refine ⟨_, rfl, _, rfl, 104729, dr + 1, rfl, rfl, .inl ⟨by decide, by decide⟩, _, _, rfl, rfl, _, _, rfl, rfl, ⟨by decide, by decide, ?_⟩, _, _, rfl, rfl, (show (0 : Int) < 2147483587 by decide), ?_⟩
  · omega
  generalize (y % 2147483647 + 104729 * (dr + 1)) ^ (5 : Int).toNat = z
  refine ⟨_, rfl, _, _, rfl, rfl, ⟨by decide, by decide⟩, _, rfl, _, sz, rfl, rfl, hs0, ?_⟩
  exact q _ _ s2 f2 (Int.emod_nonneg _ (by omega)) (Int.emod_lt_of_pos _ hs0)
end
end Ms55

namespace Ms55
open PySem PySem.Spec PyProof.Rows L2
/-! ### data of a bounded size -/
structure Nice (N D : Nat) (d : PyData) : Prop where
  sh : d.showable = true
  nd : d.hasDict = false
  len : d.shown.length ≤ N
  dep : d.depth ≤ D
theorem Nice.mono {N N' D D' : Nat} {d : PyData} (h : Nice N D d) (a : N ≤ N') (b : D ≤ D') : Nice N' D' d := ⟨h.sh, h.nd, Nat.le_trans h.len a, Nat.le_trans h.dep b⟩
theorem nice_t0 : Nice 2 1 (.tuple []) := ⟨by decide +kernel, by decide +kernel, by decide +kernel, by decide +kernel⟩
theorem nice_t1 {N D : Nat} {a : PyData} (h : Nice N D a) : Nice (N + 5) (D + 1) (.tuple [a]) := by
  refine ⟨by simp [PyData.showable, PyData.showableAll, h.sh], by simp [PyData.hasDict, PyData.hasDictAll, h.nd], ?_, ?_⟩
  · have e := tupleText_len_le (PyData.shownAll [a])
    simp only [PyData.shownAll, List.map_cons, List.map_nil, List.sum_cons, List.sum_nil, List.length_cons, List.length_nil] at e
    have := h.len
    simp only [PyData.shown, PyData.shownAll]
    omega
  · have := h.dep
    simp only [PyData.depth, PyData.depthAll]
    omega
theorem nice_t2 {N M D E : Nat} {a b : PyData} (h : Nice N D a) (g : Nice M E b) : Nice (N + M + 7) (max D E + 1) (.tuple [a, b]) := by
  refine ⟨by simp [PyData.showable, PyData.showableAll, h.sh, g.sh], by simp [PyData.hasDict, PyData.hasDictAll, h.nd, g.nd], ?_, ?_⟩
  · have e := tupleText_len_le (PyData.shownAll [a, b])
    simp only [PyData.shownAll, List.map_cons, List.map_nil, List.sum_cons, List.sum_nil, List.length_cons, List.length_nil] at e
    have := h.len
    have := g.len
    simp only [PyData.shown, PyData.shownAll]
    omega
  · have := h.dep
    have := g.dep
    simp only [PyData.depth, PyData.depthAll]
    omega
theorem nice_t3 {N M L D E F : Nat} {a b c : PyData} (h : Nice N D a) (g : Nice M E b) (i : Nice L F c) : Nice (N + M + L + 9) (max D (max E F) + 1) (.tuple [a, b, c]) := by
  refine ⟨by simp [PyData.showable, PyData.showableAll, h.sh, g.sh, i.sh], by simp [PyData.hasDict, PyData.hasDictAll, h.nd, g.nd, i.nd], ?_, ?_⟩
  · have e := tupleText_len_le (PyData.shownAll [a, b, c])
    simp only [PyData.shownAll, List.map_cons, List.map_nil, List.sum_cons, List.sum_nil, List.length_cons, List.length_nil] at e
    have := h.len
    have := g.len
    have := i.len
    simp only [PyData.shown, PyData.shownAll]
    omega
  · have := h.dep
    have := g.dep
    have := i.dep
    simp only [PyData.depth, PyData.depthAll]
    omega
/-- of like ones -/
theorem nice_all {N D : Nat} : ∀ {ds : List PyData}, (∀ d ∈ ds, Nice N D d) → PyData.showableAll ds = true ∧ PyData.hasDictAll ds = false ∧ ((PyData.shownAll ds).map (·.length)).sum ≤ N * ds.length ∧ (PyData.shownAll ds).length = ds.length ∧ PyData.depthAll ds ≤ D
  | [], _ => ⟨rfl, rfl, by simp [PyData.shownAll], rfl, by simp [PyData.depthAll]⟩
  | d :: ds, h => by
    have a := h d List.mem_cons_self
    obtain ⟨h1, h2, h3, h4, h5⟩ := nice_all (ds := ds) fun x hx => h x (List.mem_cons_of_mem _ hx)
    refine ⟨by simp [PyData.showableAll, a.sh, h1], by simp [PyData.hasDictAll, a.nd, h2], ?_, by simp [PyData.shownAll, h4], ?_⟩
    · have := a.len
      simp only [PyData.shownAll, List.map_cons, List.sum_cons, List.length_cons, Nat.mul_add, Nat.mul_one]
      omega
    · have := a.dep
      simp only [PyData.depthAll]
      omega
theorem nice_tup {N D : Nat} {ds : List PyData} (h : ∀ d ∈ ds, Nice N D d) : Nice (N * ds.length + 2 * ds.length + 3) (D + 1) (.tuple ds) := by
  obtain ⟨h1, h2, h3, h4, h5⟩ := nice_all h
  refine ⟨by simp [PyData.showable, h1], by simp [PyData.hasDict, h2], ?_, by simp only [PyData.depth]; omega⟩
  have e := tupleText_len_le (PyData.shownAll ds)
  simp only [PyData.shown]
  omega
/-- texts -/
abbrev NS (x : Str) : Prop := Nice 20 0 (.str x)
theorem ns_by {x : Str} (h : (PyData.str x).shown.length ≤ 20) : NS x := ⟨rfl, rfl, h, Nat.le_refl _⟩
/-! ### picks -/
theorem pick2 {a b : V} {i : Int} (h0 : 0 ≤ i) (h1 : i < 2) : ∃ z, atI [a, b] i = some z ∧ (z = a ∨ z = b) := by
  rcases (by omega : i = 0 ∨ i = 1) with rfl | rfl
  · exact ⟨a, rfl, .inl rfl⟩
  · exact ⟨b, rfl, .inr rfl⟩
theorem pick3 {a b c : V} {i : Int} (h0 : 0 ≤ i) (h1 : i < 3) : ∃ z, atI [a, b, c] i = some z ∧ (z = a ∨ z = b ∨ z = c) := by
  rcases (by omega : i = 0 ∨ i = 1 ∨ i = 2) with rfl | rfl | rfl
  · exact ⟨a, rfl, .inl rfl⟩
  · exact ⟨b, rfl, .inr (.inl rfl)⟩
  · exact ⟨c, rfl, .inr (.inr rfl)⟩
theorem pick {xs : List V} {i : Int} (h0 : 0 ≤ i) (h1 : i < xs.length) : ∃ z, atI xs i = some z ∧ z ∈ xs := by
  have hj : i.toNat < xs.length := by omega
  exact ⟨xs[i.toNat], at_of (j := i.toNat) (by omega) (List.getElem?_eq_getElem hj), List.getElem_mem hj⟩
/-! ### the feed is made -/
def spFeed (K : PySem.W.Frag) : Sp := fun vs H Q _ => ∃ (a : Addr) (ns : List Int), vs = [.ref a] ∧ SqL K H a (ns.map V.int) ∧ ns.length ≤ 63 ∧ ∀ H' p c cells, Same H H' → H p = none → Fd K H' p c cells 0 → Q (.ref p) H'
theorem scFeed : FnScope ["_law_script"] ["_law_script"] (defScope sFeed) := ⟨rfl, rfl, rfl, by decide +kernel, rfl, by decide +kernel, by decide +kernel⟩
/-- the six -/
def six : List Str := ["back", "ends", "on", "round", "self", "step"]
def spLots (K : PySem.W.Frag) : Sp := fun vs H Q _ => ∃ (p c : Addr) (cells : List Int) (n : Int), vs = [.ref p] ∧ Fd K H p c cells n ∧ n ≤ 900000000 ∧ ∀ H' a (ws : List Str), Sd H H' → Fd K H' p c cells (n + 6) → SqT K H' a (ws.map V.str) → ws.length ≤ 5 → (∀ x ∈ ws, x ∈ six) → Q (.ref a) H'
theorem scLots : FnScope ["_law_feed_here", "_law_some", "_law_word_now"] ["_law_feed_here"] (defScope sLots) := ⟨rfl, rfl, rfl, by decide +kernel, rfl, by decide +kernel, by decide +kernel⟩
theorem cut_ints (ns : List Int) (lo hi : Option Int) : ∃ ms : List Int, cutV (ns.map V.int) lo hi = ms.map V.int ∧ ms.length ≤ ns.length :=
  ⟨(ns.drop (HT.sIx (ns.map V.int).length 0 lo)).take (HT.sIx (ns.map V.int).length (ns.map V.int).length hi - HT.sIx (ns.map V.int).length 0 lo), by simp only [cutV, List.map_take, List.map_drop], by
    rw [List.length_take, List.length_drop]
    omega⟩
section
variable {P : Program} {w : World} {K : PySem.W.Frag} {mg : Str → Option Value} {base : Heap}
theorem ok_feed {f : Addr} {fd : FuncData} {k : Nat} (F : Fun K "_law_feed" "_law_feed" sFeed f fd) (ml : mg "list" = none) : FnOk P w K mg base CX0 (k + 1) f fd ["_law_script"] (spFeed K) := by
  refine F.ok scFeed (fun vs H Q E h => ?_) (fun cdv A outer s H vs Q E hr h => ?_)
  · obtain ⟨a, ns, rfl, _⟩ := h
    rfl
  obtain ⟨a, ns, rfl, hS, h63, q⟩ := h
  refine ⟨_, pss_one (ps_ret (pe_disp (pps_cons pe_str (pe_callTy call_list_of (by rfl) ml (by decide +kernel) (pa_cons (pe_slice sl_list (pv 0) po_none (po_some pe_int)) pa_nil))
    (pps_cons pe_str pe_int (pps_cons pe_str pe_int (pps_cons pe_str pe_int pps_nil)))) rfl rfl (by simp) (by decide))), ?_⟩
  refine fun p hp => ?_
  have s1 : Same H (upd H p (.dK [])) := same_new hp _
  refine ⟨_, rfl, 63, rfl, a, _, rfl, s1.seq hS, fun l hl => ?_⟩
  have s2 := s1.trans (same_new hl (.lst (cutV (ns.map V.int) none (some 63))))
  refine ⟨l, _, rfl, .inl (.inl (.inl upd_same)), fun c hc => ?_⟩
  obtain ⟨ms, em, hm⟩ := cut_ints ns none (some 63)
  rw [em] at hc s2 ⊢
  have s3 := s2.trans (same_new hc (.lst (ms.map V.int)))
  have s4 : Same (upd H p (.dK [])) (upd (upd (upd H p (.dK [])) l (.lst (ms.map V.int))) c (.lst (ms.map V.int))) := (same_new hl _).trans (same_new hc _)
  have cp : c ≠ p := fun z => by
    have e := (same_new hl (.lst (ms.map V.int))) p _ (upd_same (H := H) (a := p) (o := .dK []))
    have hc2 := hc
    rw [z] at hc2
    rw [hc2] at e
    cases e
  refine ⟨s4 _ _ upd_same, [(.inr "cells", .ref c), (.inr "next", .int 0), (.inr "left", .int 0), (.inr "draws", .int 0)], rfl, by show 4 ≤ 15; decide, ?_⟩
  refine q _ p c ms (fun b u e => ?_) hp ⟨0, 0, 0, upd_same, .inl (.inl (by rw [upd_ne cp]; exact upd_same)), by omega, by omega, by omega, by omega, by omega⟩
  rw [upd_ne (ne_of_none e hp)]
  exact s3 _ _ e
theorem ok_lots {f g : Addr} {fd gd : FuncData} {k : Nat} (F : Fun K "_law_lots" "_law_lots" sLots f fd) (G : FnOk P w K mg base CX0 k g gd ["_law_feed_here", "_law_size"] (spDraw K)) (bG : Binds K gd ["_law_feed_here", "_law_size"] []) (kG : PySem.W.keepIn K (.ref g) = true)
    (mG : mg "_law_draw" = some (.ref g)) (mt : mg "tuple" = none) : FnOk P w K mg base CX0 (k + 1) f fd ["_law_feed_here"] (spLots K) := by
  refine F.ok scLots (fun vs H Q E h => ?_) (fun cdv A outer s H vs Q E hr h => ?_)
  · obtain ⟨p, c, cells, n, rfl, _⟩ := h
    rfl
  obtain ⟨p, c, cells, n, rfl, hF, hn, q⟩ := h
  refine ⟨_, pss_cons (ps_if (pt_cmpR op_eq (pe_call G hr rfl mG kG bG .nil pass0 (pa_cons (pv 0) (pa_cons pe_int pa_nil))) pe_int (nomark _)) (pss_one (ps_ret (pe_tup (pa_cons pe_str (pa_cons pe_str pa_nil))))) pss_nil)
    (pss_cons (ps_set (i := 1) scLots.nd rfl (.inr rfl) (pe_lc (own := [("_law_word_now", 2)]) (g := gName 2) rfl scLots.nd (pi_tup (pe_tup (pa_cons pe_str (pa_cons pe_str (pa_cons pe_str (pa_cons pe_str (pa_cons pe_str pa_nil)))))))
      (blkOk_by (N := ["_law_feed_here", "_law_some", "_law_word_now"]) (sc := defScope sLots) (by decide +kernel)) (fun _ _ _ _ _ => pg_name (i := 2) scLots.nd rfl (Or.inl rfl))
      (fun _ _ _ _ _ => pts_one (pt_cmpR op_eq (pe_call G hr rfl mG kG bG .nil pass0 (pa_cons (pv 0) (pa_cons pe_int pa_nil))) pe_int (nomark _))) (fun _ _ _ _ _ => pv 2)))
    (pss_one (ps_ret (pe_callTy call_tuple_of (by rfl) mt (by decide +kernel) (pa_cons (pe_lc (own := [("_law_word_now", 2)]) (g := gName 2) rfl scLots.nd (pi_list (pv 1))
      (blkOk_by (N := ["_law_feed_here", "_law_some", "_law_word_now"]) (sc := defScope sLots) (by decide +kernel)) (fun _ _ _ _ _ => pg_name (i := 2) scLots.nd rfl (Or.inl rfl))
      (fun _ _ _ _ _ => pts_one (PW.pt (pw_or (pt_cmpR op_ne (pv 2) pe_str (nomark _)) (pw_or1 (pt_cmpR (r := rIn K false) op_in_seq pe_str (pv 1) (by rfl)))))) (fun _ _ _ _ _ => pv 2)) pa_nil))))), ?_⟩
  refine ⟨_, rfl, p, c, cells, 8, n, rfl, hF, by decide, by decide, by omega, fun H1 i s1 f1 i0 i8 => ⟨rfl, _, rfl, ite2 (fun c0 => ?_) (fun c0 => ?_)⟩⟩
  · exact ⟨by show 2 ≤ sizeLine; decide, fun t ht => q _ t ["ends", "on"] (s1.trans (Sd.new ht _)) ((f1.new ht _).mono (by omega)) (.inl (.inl upd_same)) (by decide) (by decide)⟩
  -- some = [..]
  refine ⟨by show 5 ≤ sizeLine; decide, fun t ht => ⟨t, rfl, ⟨_, .inl (.inl upd_same)⟩, fun D hD => ?_⟩⟩
  have f2 := f1.new ht (.tup [.str "back", .str "on", .str "round", .str "self", .str "step"])
  have s2 := s1.trans (Sd.new ht (.tup [.str "back", .str "on", .str "round", .str "self", .str "step"]))
  have t2 : SqT K (upd H1 t (.tup [.str "back", .str "on", .str "round", .str "self", .str "step"])) t [.str "back", .str "on", .str "round", .str "self", .str "step"] := .inl (.inl upd_same)
  refine lc_tup (K := K) (a := t) (xs := [.str "back", .str "on", .str "round", .str "self", .str "step"])
    (fun i H4 => ∃ ws : List Str, H4 D = some (.lst (ws.map V.str)) ∧ ws.length ≤ i ∧ (∀ x ∈ ws, x ∈ six) ∧ Sd (upd H1 t (.tup [.str "back", .str "on", .str "round", .str "self", .str "step"])) H4 ∧ Fd K H4 p c cells (n + 1 + i))
    ⟨[], upd_same, Nat.zero_le _, by simp, Sd.new hD _, (f2.new hD _).mono (by omega)⟩ (fun i H4 _ ⟨ws, _, _, _, sd, _⟩ => sd.tup t2) (fun i x H4 hx ⟨ws, hl, hz, hm, sd, fd4⟩ => ?_) (fun H4 ⟨ws, hl, hz, hm, sd, fd4⟩ => ?_)
  · obtain ⟨y, rfl, hy⟩ : ∃ y : Str, x = .str y ∧ y ∈ six := by
      have hmem := List.mem_of_getElem? hx
      simp only [List.mem_cons, List.not_mem_nil, or_false] at hmem
      rcases hmem with rfl | rfl | rfl | rfl | rfl
      all_goals exact ⟨_, rfl, by decide⟩
    have hi : i < 5 := (List.getElem?_eq_some_iff.mp hx).1
    refine ⟨rfl, _, rfl, p, c, cells, 2, n + 1 + i, rfl, fd4, by decide, by decide, by omega, fun H5 j s5 f5 j0 j2 => ⟨rfl, _, rfl, ite2 (fun cc => ?_) (fun cc => ?_)⟩⟩
    · have hl5 := s5 _ _ hl (fun _ z => nomatch z)
      refine ⟨_, rfl, _, hl5, ?_, ws ++ [y], ?_, ?_, ?_, (sd.trans s5).at hD _, (f2.put hD f5 _).mono (by omega)⟩
      · rw [List.length_map]
        exact small1000 (by omega)
      · rw [List.map_append, upd_same]
        rfl
      · rw [List.length_append]
        exact Nat.succ_le_succ hz
      · intro z hz'
        rcases List.mem_append.mp hz' with h | h
        · exact hm z h
        · rw [List.mem_singleton.mp h]
          exact hy
    · exact ⟨ws, s5 _ _ hl (fun _ z => nomatch z), by omega, hm, sd.trans s5, f5.mono (by omega)⟩
  -- return tuple([..])
  have hz5 : ws.length ≤ 5 := hz
  have hfl : (ws.map V.str).all flatV = true := by
    rw [List.all_eq_true]
    intro v hv
    obtain ⟨x, _, rfl⟩ := List.mem_map.mp hv
    rfl
  refine ⟨_, rfl, D, rfl, ⟨_, .inl (.inl hl)⟩, fun D2 hD2 => ?_⟩
  refine lc_list (K := K) (a := D) (xs := ws.map V.str) (fun i H6 => ∃ vs : List Str, H6 D2 = some (.lst (vs.map V.str)) ∧ vs.length ≤ i ∧ (∀ x ∈ vs, x ∈ six) ∧ Same H4 H6)
    ⟨[], upd_same, Nat.zero_le _, by simp, same_new hD2 _⟩ (fun i H6 _ ⟨vs, _, _, _, sm⟩ => .inl (.inl (sm _ _ hl))) (fun i x H6 hx ⟨vs, hl6, hz6, hm6, sm⟩ => ?_) (fun H6 ⟨vs, hl6, hz6, hm6, sm⟩ => ?_)
  · have hi := (List.getElem?_eq_some_iff.mp hx).1
    rw [List.length_map] at hi
    obtain ⟨y, hy, rfl⟩ := List.mem_map.mp (List.mem_of_getElem? hx)
    have yes : ∃ acc, H6 D2 = some (.lst acc) ∧ acc.length < sizeLine ∧ ∃ us : List Str, (upd H6 D2 (.lst (acc ++ [V.str y]))) D2 = some (.lst (us.map V.str)) ∧ us.length ≤ i + 1 ∧ (∀ x ∈ us, x ∈ six) ∧ Same H4 (upd H6 D2 (.lst (acc ++ [V.str y]))) := by
      refine ⟨_, hl6, ?_, vs ++ [y], ?_, ?_, ?_, ?_⟩
      · rw [List.length_map]
        exact small1000 (by omega)
      · rw [List.map_append, upd_same]
        rfl
      · rw [List.length_append]
        exact Nat.succ_le_succ hz6
      · intro z hz'
        rcases List.mem_append.mp hz' with h | h
        · exact hm6 z h
        · rw [List.mem_singleton.mp h]
          exact hm y hy
      · intro b u e
        rw [upd_ne (ne_of_none e hD2)]
        exact sm _ _ e
    refine ⟨rfl, _, rfl, rfl, _, rfl, ite2 (fun ca => iteT ⟨_, rfl, yes⟩) (fun ca => ?_)⟩
    exact ⟨_, rfl, D, _, rfl, .inl (.inl (.inl (sm _ _ hl))), rfl, hfl, _, rfl, ite2 (fun cb => ⟨_, rfl, yes⟩) (fun cb => ⟨vs, hl6, by omega, hm6, sm⟩)⟩
  refine ⟨D2, _, rfl, .inl ⟨.inl (.inl hl6), fun l hl' => ?_⟩⟩
  rw [List.length_map] at hz6
  exact q _ l vs (s2.trans (sd.trans ((Sd.of_same sm).trans (Sd.new hl' _)))) ((fd4.same (fun b u e => same_new hl' _ _ _ (sm _ _ e))).mono (by simp only [List.length_cons, List.length_nil]; omega)) (.inl (.inl upd_same)) (by omega) hm6
end
end Ms55

namespace Ms55
open PySem PySem.Spec PyProof.Rows L2
def cnt : Nat → Int
  | 0 => 2
  | k + 1 => 2 + 2 * cnt k
def cN : Nat → Nat
  | 0 => 50
  | k + 1 => 2 * cN k + 60
def cD : Nat → Nat
  | 0 => 2
  | k + 1 => cD k + 2
theorem cnt_ge : ∀ k, 2 ≤ cnt k
  | 0 => by simp [cnt]
  | k + 1 => by have := cnt_ge k; simp only [cnt]; omega
theorem cN_ge : ∀ k, 50 ≤ cN k
  | 0 => by simp [cN]
  | k + 1 => by have := cN_ge k; simp only [cN]; omega
theorem cD_ge : ∀ k, 2 ≤ cD k
  | 0 => by simp [cD]
  | k + 1 => by have := cD_ge k; simp only [cD]; omega
/-- what a claim promises, of fewer than m levels -/
def spClaim (K : PySem.W.Frag) (m : Nat) : Sp := fun vs H Q _ => ∃ (p c : Addr) (cells : List Int) (cr : Addr) (names : List Str) (deep : Nat) (n : Int), vs = [.ref p, .ref cr, .int deep] ∧ Fd K H p c cells n ∧ SqL K H cr (names.map V.str) ∧ names ≠ [] ∧ names.length ≤ 4 ∧ (∀ x ∈ names, NS x) ∧
  deep < m ∧ n + cnt deep ≤ 900000000 ∧ ∀ H' a d, Sd H H' → Fd K H' p c cells (n + cnt deep) → Dp K H' (.ref a) d → (∃ ds, d = .tuple ds) → Nice (cN deep) (cD deep) d → Q (.ref a) H'
theorem scClaim : FnScope ["_law_feed_here", "_law_crew", "_law_deep", "_law_way", "_law_inner"] ["_law_feed_here", "_law_crew", "_law_deep"] (defScope sClaim) := ⟨rfl, rfl, rfl, by decide +kernel, rfl, by decide +kernel, by decide +kernel⟩
section
variable {P : Program} {w : World} {K : PySem.W.Frag} {mg : Str → Option Value} {base : Heap}
theorem ok_claim {f g : Addr} {fd gd : FuncData} {m : Nat} (F : Fun K "_law_claim" "_law_claim" sClaim f fd) (D : FnOk P w K mg base CX0 1 g gd ["_law_feed_here", "_law_size"] (spDraw K)) (bD : Binds K gd ["_law_feed_here", "_law_size"] []) (kD : PySem.W.keepIn K (.ref g) = true)
    (mD : mg "_law_draw" = some (.ref g)) (G : FnOk P w K mg base CX0 (m + 1) f fd ["_law_feed_here", "_law_crew", "_law_deep"] (spClaim K m)) (bG : Binds K fd ["_law_feed_here", "_law_crew", "_law_deep"] []) (mG : mg "_law_claim" = some (.ref f)) (ml : mg "len" = none) :
    FnOk P w K mg base CX0 (m + 1 + 1) f fd ["_law_feed_here", "_law_crew", "_law_deep"] (spClaim K (m + 1)) := by
  refine F.ok scClaim (fun vs H Q E h => ?_) (fun cdv A outer s H vs Q E hr h => ?_)
  · obtain ⟨p, c, cells, cr, names, deep, n, rfl, _⟩ := h
    rfl
  obtain ⟨p, c, cells, cr, names, deep, n, rfl, hF, hC, hne, hl4, hns, hdm, hn, q⟩ := h
  have hr1 := hr.mono (show 1 ≤ m + 1 by omega)
  have kG := F.kp
  refine ⟨_, C8.pss_cut (ps_set (i := 3) scClaim.nd rfl (.inl rfl) (pe_call D hr1 rfl mD kD bD .nil pass0 (pa_cons (pv 0) (pa_cons (pe_ifExp (pt_cmpR op_eq (pv 2) pe_int (nomark _)) pe_int pe_int) pa_nil))))
    (pss_cons (ps_if (pt_cmpR op_lt (pv 3) pe_int (nomark _)) (pss_one (ps_ret (pe_tup (pa_cons pe_str (pa_cons (pe_ix ix_list (pe_lst (pa_cons pe_str (pa_cons pe_str (pa_cons pe_str pa_nil)))) (pv 3) (fun _ _ => rfl)) pa_nil))))) pss_nil)
    (pss_cons (ps_if (pt_cmpR op_eq (pv 3) pe_int (nomark _)) (pss_one (ps_ret (pe_tup (pa_cons (pe_ix ix_list (pe_lst (pa_cons pe_str (pa_cons pe_str pa_nil))) (pe_call D hr1 rfl mD kD bD .nil pass0 (pa_cons (pv 0) (pa_cons pe_int pa_nil))) (fun _ _ => rfl)) (pa_cons (pe_tup pa_nil) pa_nil))))) pss_nil)
    (pss_cons (ps_set (i := 4) scClaim.nd rfl (.inl rfl) (pe_call G hr rfl mG kG bG .nil pass0 (pa_cons (pv 0) (pa_cons (pv 1) (pa_cons (pe_op op_sub (pv 2) pe_int) pa_nil)))))
    (pss_cons (ps_if (pt_cmpR op_lt (pv 3) pe_int (nomark _)) (pss_one (ps_ret (pe_tup (pa_cons pe_str (pa_cons (pv 4) pa_nil))))) pss_nil)
    (pss_cons (ps_if (pt_cmpR op_lt (pv 3) pe_int (nomark _)) (pss_one (ps_ret (pe_tup (pa_cons (pe_ix ix_list (pe_lst (pa_cons pe_str (pa_cons pe_str pa_nil))) (pe_op op_sub (pv 3) pe_int) (fun _ _ => rfl)) (pa_cons (pe_tup (pa_cons (pv 4) (pa_cons (pe_call G hr rfl mG kG bG .nil pass0 (pa_cons (pv 0) (pa_cons (pv 1) (pa_cons (pe_op op_sub (pv 2) pe_int) pa_nil)))) pa_nil))) pa_nil))))) pss_nil)
    (pss_cons (ps_if (pt_cmpR op_eq (pv 3) pe_int (nomark _)) (pss_one (ps_ret (pe_tup (pa_cons pe_str (pa_cons (pv 4) (pa_cons (pe_call G hr rfl mG kG bG .nil pass0 (pa_cons (pv 0) (pa_cons (pv 1) (pa_cons (pe_op op_sub (pv 2) pe_int) pa_nil)))) pa_nil)))))) pss_nil)
    (pss_one (ps_ret (pe_tup (pa_cons (pe_ix ix_list (pe_lst (pa_cons pe_str (pa_cons pe_str (pa_cons pe_str pa_nil)))) (pe_op op_sub (pv 3) pe_int) (fun _ _ => rfl)) (pa_cons (pe_ix ix_list (pv 1) (pe_call D hr1 rfl mD kD bD .nil pass0 (pa_cons (pv 0) (pa_cons (pe_callB call_len_seq (by rfl) ml PySem.boot_len (pa_cons (pv 1) pa_nil)) pa_nil))) (fun _ _ => rfl)) (pa_cons (pv 4) pa_nil)))))))))))), ?_⟩
  have g2 := cnt_ge deep
  have gN := cN_ge deep
  have gD := cD_ge deep
  have z2 : (2 : Nat) ≤ sizeLine := by decide
  have z3 : (3 : Nat) ≤ sizeLine := by decide
  refine ⟨fun σ' H' => ∃ i : Int, σ' = [some (.ref p), some (.ref cr), some (.int deep), some (.int i), none] ∧ Sd H H' ∧ Fd K H' p c cells (n + 1) ∧ 0 ≤ i ∧ i < 12 ∧ (deep = 0 → i < 4), ?_, ?_⟩
  · refine ⟨_, rfl, _, rfl, rfl, _, rfl, ite2 (fun c0 => ?_) (fun c0 => ?_)⟩
    · exact ⟨p, c, cells, 4, n, rfl, hF, by decide, by decide, by omega, fun H1 i s1 f1 i0 i4 => ⟨i, rfl, s1, f1, i0, by omega, fun _ => i4⟩⟩
    · refine ⟨p, c, cells, 12, n, rfl, hF, by decide, by decide, by omega, fun H1 i s1 f1 i0 i4 => ⟨i, rfl, s1, f1, i0, i4, fun e => ?_⟩⟩
      subst e
      exact absurd (decide_eq_true rfl) c0
  rintro σ' H1 ⟨i, rfl, s1, f1, i0, i12, i4⟩
  -- if way < 3
  refine ⟨_, rfl, _, _, rfl, rfl, _, rfl, ite2 (fun c1 => ?_) (fun c1 => ?_)⟩
  · obtain ⟨z, hz, hz'⟩ := pick3 (a := .str "p") (b := .str "q") (c := .str "p") i0 (of_decide_eq_true c1)
    obtain ⟨x, rfl, hx⟩ : ∃ x, z = .str x ∧ NS x := by rcases hz' with rfl | rfl | rfl <;> exact ⟨_, rfl, ns_by (by decide +kernel)⟩
    refine ⟨z3, fun l hl => ⟨_, rfl, l, _, i, _, rfl, rfl, .inl (.inl upd_same), hz, z2, fun t ht => ?_⟩⟩
    exact q _ t (.tuple [.str "letter", .str x]) (s1.trans ((Sd.new hl _).trans (Sd.new ht _))) (((f1.new hl _).new ht _).mono (by omega)) (.tup (.inl (.inl upd_same)) (.cons (.str _) (.cons (.str _) .nil))) ⟨_, rfl⟩
      ((nice_t2 (ns_by (by decide +kernel)) hx).mono (by omega) (by simp only [Nat.max_self]; omega))
  have i3 : 3 ≤ i := by
    have := of_decide_eq_false (Bool.eq_false_iff.mpr c1)
    omega
  -- if way == 3
  refine ⟨_, rfl, rfl, _, rfl, ite2 (fun c2 => ?_) (fun c2 => ?_)⟩
  · refine ⟨z2, fun l hl => ⟨_, rfl, p, c, cells, 2, n + 1, rfl, f1.new hl _, by decide, by decide, by omega, fun H2 j s2 f2 j0 j2 => ?_⟩⟩
    obtain ⟨z, hz, hz'⟩ := pick2 (a := .str "and") (b := .str "or") j0 j2
    obtain ⟨x, rfl, hx⟩ : ∃ x, z = .str x ∧ NS x := by rcases hz' with rfl | rfl <;> exact ⟨_, rfl, ns_by (by decide +kernel)⟩
    refine ⟨l, _, j, _, rfl, rfl, s2.seq (.inl (.inl upd_same)), hz, Nat.zero_le _, fun u hu => ⟨z2, fun t ht => ?_⟩⟩
    exact q _ t (.tuple [.str x, .tuple []]) (s1.trans ((Sd.new hl _).trans (s2.trans ((Sd.new hu _).trans (Sd.new ht _))))) (((f2.new hu _).new ht _).mono (by omega))
      (.tup (.inl (.inl upd_same)) (.cons (.str _) (.cons (.tup (.inl (.inl (same_new ht _ _ _ upd_same))) .nil) .nil))) ⟨_, rfl⟩ ((nice_t2 hx nice_t0).mono (by omega) (by omega))
  have i4' : 4 ≤ i := by
    have e : i ≠ 3 := fun z => by
      subst z
      exact c2 (decide_eq_true rfl)
    omega
  obtain ⟨k, rfl⟩ : ∃ k, deep = k + 1 := ⟨deep - 1, by
    have : deep ≠ 0 := fun z => by
      have := i4 z
      omega
    omega⟩
  have ek : ((k + 1 : Nat) : Int) - 1 = (k : Int) := by omega
  have evs : [V.ref p, V.ref cr, V.int (((k + 1 : Nat) : Int) - 1)] ++ [] = [V.ref p, V.ref cr, V.int (k : Int)] := by
    rw [ek]
    rfl
  have ecnt : cnt (k + 1) = 2 + 2 * cnt k := rfl
  have eN : cN (k + 1) = 2 * cN k + 60 := rfl
  have eD : cD (k + 1) = cD k + 2 := rfl
  have gk := cnt_ge k
  have hC1 := s1.seq hC
  -- inner
  refine ⟨_, rfl, _, rfl, _, rfl, _, _, rfl, rfl, p, c, cells, cr, names, k, n + 1, evs, f1, hC1, hne, hl4, hns, by omega, by omega, fun H2 a d1 s2 f2 e1 t1 n1 => ?_⟩
  have hC2 := s2.seq hC1
  -- if way < 6
  refine ⟨_, rfl, _, _, rfl, rfl, _, rfl, ite2 (fun c3 => ?_) (fun c3 => ?_)⟩
  · refine ⟨_, rfl, z2, fun t ht => ?_⟩
    exact q _ t (.tuple [.str "not", d1]) (s1.trans (s2.trans (Sd.new ht _))) ((f2.new ht _).mono (by omega)) (.tup (.inl (.inl upd_same)) (.cons (.str _) (.cons (dp_sd (Sd.new ht _) _ _ e1) .nil))) ⟨_, rfl⟩
      ((nice_t2 (ns_by (by decide +kernel)) n1).mono (by omega) (by omega))
  have i6 : 6 ≤ i := by
    have := of_decide_eq_false (Bool.eq_false_iff.mpr c3)
    omega
  -- if way < 8
  refine ⟨_, rfl, _, _, rfl, rfl, _, rfl, ite2 (fun c4 => ?_) (fun c4 => ?_)⟩
  · have i8 : i < 8 := of_decide_eq_true c4
    obtain ⟨z, hz, hz'⟩ := pick2 (a := .str "and") (b := .str "or") (i := i - 6) (by omega) (by omega)
    obtain ⟨x, rfl, hx⟩ : ∃ x, z = .str x ∧ NS x := by rcases hz' with rfl | rfl <;> exact ⟨_, rfl, ns_by (by decide +kernel)⟩
    refine ⟨z2, fun l hl => ⟨_, rfl, _, _, rfl, rfl, l, _, i - 6, _, rfl, rfl, .inl (.inl upd_same), hz, ?_⟩⟩
    refine ⟨_, rfl, _, rfl, _, rfl, _, rfl, _, _, rfl, rfl, p, c, cells, cr, names, k, n + 1 + cnt k, evs, f2.new hl _, (Sd.new hl _).seq hC2, hne, hl4, hns, by omega, by omega, fun H3 b d2 s3 f3 e2 t2 n2 => ⟨z2, fun u hu => ⟨z2, fun t ht => ?_⟩⟩⟩
    have sA := (Sd.new hl (.lst [.str "and", .str "or"])).trans s3
    have sB := (Sd.new hu (.tup [.ref a, .ref b])).trans (Sd.new ht (.tup [.str x, .ref u]))
    exact q _ t (.tuple [.str x, .tuple [d1, d2]]) (s1.trans (s2.trans (sA.trans sB))) (((f3.new hu _).new ht _).mono (by omega))
      (.tup (.inl (.inl upd_same)) (.cons (.str _) (.cons (.tup (.inl (.inl (same_new ht _ _ _ upd_same))) (.cons (dp_sd (sA.trans sB) _ _ e1) (.cons (dp_sd sB _ _ e2) .nil))) .nil))) ⟨_, rfl⟩
      ((nice_t2 hx (nice_t2 n1 n2)).mono (by omega) (by omega))
  have i8 : 8 ≤ i := by
    have := of_decide_eq_false (Bool.eq_false_iff.mpr c4)
    omega
  -- if way == 8
  refine ⟨_, rfl, rfl, _, rfl, ite2 (fun c5 => ?_) (fun c5 => ?_)⟩
  · refine ⟨_, rfl, _, rfl, _, rfl, _, rfl, _, _, rfl, rfl, p, c, cells, cr, names, k, n + 1 + cnt k, evs, f2, hC2, hne, hl4, hns, by omega, by omega, fun H3 b d2 s3 f3 e2 t2 n2 => ⟨z3, fun t ht => ?_⟩⟩
    exact q _ t (.tuple [.str "so", d1, d2]) (s1.trans (s2.trans (s3.trans (Sd.new ht _)))) ((f3.new ht _).mono (by omega))
      (.tup (.inl (.inl upd_same)) (.cons (.str _) (.cons (dp_sd (s3.trans (Sd.new ht _)) _ _ e1) (.cons (dp_sd (Sd.new ht _) _ _ e2) .nil)))) ⟨_, rfl⟩
      ((nice_t3 (ns_by (by decide +kernel)) n1 n2).mono (by omega) (by omega))
  have i9 : 9 ≤ i := by
    have e : i ≠ 8 := fun z => by
      subst z
      exact c5 (decide_eq_true rfl)
    omega
  obtain ⟨z, hz, hz'⟩ := pick3 (a := .str "must") (b := .str "may") (c := .str "must") (i := i - 9) (by omega) (by omega)
  obtain ⟨x, rfl, hx⟩ : ∃ x, z = .str x ∧ NS x := by rcases hz' with rfl | rfl | rfl <;> exact ⟨_, rfl, ns_by (by decide +kernel)⟩
  have hpos : 0 < names.length := List.length_pos_iff.mpr hne
  refine ⟨z3, fun l hl => ⟨_, rfl, _, _, rfl, rfl, l, _, i - 9, _, rfl, rfl, .inl (.inl upd_same), hz, ?_⟩⟩
  have hC3 := (Sd.new hl (.lst [.str "must", .str "may", .str "must"])).seq hC2
  refine ⟨_, rfl, _, rfl, _, rfl, cr, _, rfl, .inl hC3, p, c, cells, _, n + 1 + cnt k, rfl, f2.new hl _, ?_, ?_, by omega, fun H3 j s3 f3 j0 jl => ?_⟩
  · rw [List.length_map]
    omega
  · rw [List.length_map]
    omega
  obtain ⟨y, hy, my⟩ := pick j0 jl
  obtain ⟨h, hh, rfl⟩ := List.mem_map.mp my
  refine ⟨cr, _, j, _, rfl, rfl, s3.seq hC3, hy, _, rfl, z3, fun t ht => ?_⟩
  have sA := (Sd.new hl (.lst [.str "must", .str "may", .str "must"])).trans (s3.trans (Sd.new ht (.tup [.str x, .str h, .ref a])))
  exact q _ t (.tuple [.str x, .str h, d1]) (s1.trans (s2.trans sA)) ((f3.new ht _).mono (by omega))
    (.tup (.inl (.inl upd_same)) (.cons (.str _) (.cons (.str _) (.cons (dp_sd sA _ _ e1) .nil)))) ⟨_, rfl⟩
    ((nice_t3 hx (hns h hh) n1).mono (by omega) (by omega))
end
end Ms55

namespace Ms55
open PySem PySem.Spec PyProof.Rows L2
/-! ### towns -/
structure HandE where
  p : Addr
  x : Str
  r : Addr
  ws : List Str
structure BrE where
  p : Addr
  x : Str
  y : Str
def HandOk (K : PySem.W.Frag) (H : Hp) (e : HandE) : Prop := SqT K H e.p [.str e.x, .ref e.r] ∧ SqT K H e.r (e.ws.map V.str) ∧ e.ws.length ≤ 5 ∧ (∀ w ∈ e.ws, w ∈ six)
def BrOk (K : PySem.W.Frag) (H : Hp) (e : BrE) : Prop := SqT K H e.p [.str e.x, .str e.y] ∧ PyData.strOk e.x = true ∧ PyData.strOk e.y = true
def TownAt (K : PySem.W.Frag) (H : Hp) (t : Addr) (hs : List HandE) (bs : List BrE) : Prop := ∃ (a1 a2 : Addr) (o : Obj), SqT K H t [.ref a1, .ref a2] ∧ H a1 = some (.frz o (.tup (hs.map fun e => V.ref e.p))) ∧ o.dict = none ∧ (∀ e ∈ hs, HandOk K H e) ∧ (hs.map (·.x)).Nodup ∧
  SqT K H a2 (bs.map fun e => V.ref e.p) ∧ ∀ e ∈ bs, BrOk K H e
theorem TownAt.sd {K : PySem.W.Frag} {H H' : Hp} {t : Addr} {hs : List HandE} {bs : List BrE} (h : TownAt K H t hs bs) (s : Sd H H') : TownAt K H' t hs bs := by
  obtain ⟨a1, a2, o, h1, h2, h3, h4, h5, h6, h7⟩ := h
  exact ⟨a1, a2, o, s.tup h1, s _ _ h2 (fun _ z => nomatch z), h3, fun e he => ⟨s.tup (h4 e he).1, s.tup (h4 e he).2.1, (h4 e he).2.2⟩, h5, s.tup h6, fun e he => ⟨s.tup (h7 e he).1, (h7 e he).2⟩⟩
/-- the hand of a name -/
def find (hs : List HandE) (x : Str) : Option HandE := hs.find? fun e => decide (e.x = x)
theorem find_at {hs : List HandE} {x : Str} {i : Nat} {e : HandE} (hn : ∀ e ∈ hs.take i, e.x ≠ x) (he : hs[i]? = some e) (hx : e.x = x) : find hs x = some e := by
  obtain ⟨hi, eg⟩ := List.getElem?_eq_some_iff.mp he
  have e1 : hs = hs.take i ++ e :: hs.drop (i + 1) := by
    rw [← eg, ← List.drop_eq_getElem_cons hi, List.take_append_drop]
  have e2 : (hs.take i).find? (fun e => decide (e.x = x)) = none := List.find?_eq_none.mpr fun e he => by
    simp [hn e he]
  unfold find
  rw [e1, List.find?_append, e2, List.find?_cons, decide_eq_true hx]
  rfl
theorem find_no {hs : List HandE} {x : Str} (hn : ∀ e ∈ hs, e.x ≠ x) : find hs x = none := List.find?_eq_none.mpr fun e he => by simp [hn e he]
theorem find_mem {hs : List HandE} {x : Str} {e : HandE} (h : find hs x = some e) : e ∈ hs ∧ e.x = x := ⟨List.mem_of_find?_eq_some h, by have := List.find?_some h; exact of_decide_eq_true this⟩
def spRules (K : PySem.W.Frag) : Sp := fun vs H Q _ => ∃ (t : Addr) (hs : List HandE) (bs : List BrE) (x : Str), vs = [.ref t, .str x] ∧ TownAt K H t hs bs ∧ Q (match find hs x with | some e => .ref e.r | none => .non) H
theorem scRules : FnScope ["house", "hand", "name", "rules"] ["house", "hand"] (defScope sRules) := ⟨rfl, rfl, rfl, by decide +kernel, rfl, by decide +kernel, by decide +kernel⟩
section
variable {P : Program} {w : World} {K : PySem.W.Frag} {mg : Str → Option Value} {base : Heap}
theorem ok_rules {f : Addr} {fd : FuncData} {k : Nat} (F : Fun K "rules_of" "rules_of" sRules f fd) : FnOk P w K mg base CX0 (k + 1) f fd ["house", "hand"] (spRules K) := by
  refine F.ok scRules (fun vs H Q E h => ?_) (fun cdv A outer s H vs Q E hr h => ?_)
  · obtain ⟨t, hs, bs, x, rfl, _⟩ := h
    rfl
  obtain ⟨t, hs, bs, x, rfl, hT, q⟩ := h
  refine ⟨_, pss_cons (ps_for PassesOwn.never rfl (pi_tup (pe_ix ix_tup (pv 0) pe_int (fun _ _ => rfl))) (pg_tup rfl (pgs_cons (pg_name (i := 2) scRules.nd rfl (.inl rfl)) (pgs_cons (pg_name (i := 3) scRules.nd rfl (.inl rfl)) pgs_nil)))
      (pss_one (ps_if (pt_cmpR op_eq (pv 2) (pv 1) (nomark _)) (pss_one (ps_ret (pv 3))) pss_nil)))
    (pss_one (ps_ret pe_non)), ?_⟩
  obtain ⟨a1, a2, o, h1, h2, h3, h4, h5, h6, h7⟩ := hT
  have sq : SqT K H a1 (hs.map fun e => V.ref e.p) := .inl (.inr ⟨o, h2⟩)
  refine ⟨_, rfl, t, _, 0, .ref a1, rfl, rfl, h1, rfl, a1, rfl, ⟨_, sq⟩, ?_⟩
  refine for_tup (K := K) (a := a1) (xs := hs.map fun e => V.ref e.p) (fun i σ H' => H' = H ∧ (∃ y2 y3, σ = [some (.ref t), some (.str x), y2, y3]) ∧ ∀ e ∈ hs.take i, e.x ≠ x) ⟨rfl, ⟨_, _, rfl⟩, by simp⟩ (fun i σ H' _ ⟨e, _, _⟩ => by rw [e]; exact sq) (fun i y σ H' hy hp => ?_) (fun σ H' hp => ?_)
  · obtain ⟨rfl, ⟨y2, y3, rfl⟩, hn⟩ := hp
    rw [List.getElem?_map] at hy
    cases he : hs[i]? with
    | none => rw [he] at hy; cases hy
    | some e =>
      rw [he] at hy
      obtain rfl : V.ref e.p = y := Option.some.inj hy
      have hm := List.mem_of_getElem? he
      refine ⟨e.p, _, rfl, (h4 e hm).1, rfl, _, _, rfl, _, [], rfl, rfl, ?_⟩
      refine ⟨_, rfl, _, rfl, rfl, _, rfl, ite2 (fun c => ?_) (fun c => ?_)⟩
      · have ex : e.x = x := V.str.inj (of_decide_eq_true c)
        refine ⟨_, rfl, ?_⟩
        rw [find_at hn he ex] at q
        exact q
      · have ex : e.x ≠ x := fun z => c (decide_eq_true (congrArg V.str z))
        refine ⟨rfl, ⟨_, _, rfl⟩, fun e' he' => ?_⟩
        rw [List.take_add_one, he] at he'
        rcases List.mem_append.mp he' with z | z
        · exact hn e' z
        · rw [List.mem_singleton.mp z]
          exact ex
  · obtain ⟨rfl, ⟨y2, y3, rfl⟩, hn⟩ := hp
    rw [List.length_map, List.take_length] at hn
    rw [find_no hn] at q
    exact q
end
end Ms55

namespace Ms55
open PySem PySem.Spec PyProof.Rows L2
/-! ### what a scheme is -/
def mustD (x : Str) (d : PyData) : PyData := .tuple [.str "must", .str x, d]
def notD (d : PyData) : PyData := .tuple [.str "not", d]
def soD (a b : PyData) : PyData := .tuple [.str "so", a, b]
def form (y x : Str) (d : PyData) : PyData :=
  if y = "step" then notD (mustD x (.tuple [.str "or", .tuple []])) else
  if y = "self" then soD (mustD x d) d else
  if y = "on" then soD (mustD x d) (mustD x (mustD x d)) else
  if y = "back" then soD (notD d) (mustD x (notD (mustD x d))) else
  if y = "round" then soD (notD (mustD x d)) (mustD x (notD (mustD x d))) else
  soD (mustD x (soD (mustD x d) d)) (mustD x d)
def schD (hs : List HandE) (x y : Str) (d : PyData) : PyData := match find hs x with
  | some e => if y ∈ e.ws then form y x d else .none
  | none => .none
theorem schD_no {hs : List HandE} {x y : Str} {d : PyData} (h : find hs x = none) : schD hs x y d = .none := by
  unfold schD
  rw [h]
theorem schD_out {hs : List HandE} {x y : Str} {d : PyData} {e : HandE} (h : find hs x = some e) (hy : y ∉ e.ws) : schD hs x y d = .none := by
  unfold schD
  rw [h]
  exact if_neg hy
theorem schD_in {hs : List HandE} {x y : Str} {d : PyData} {e : HandE} (h : find hs x = some e) (hy : y ∈ e.ws) : schD hs x y d = form y x d := by
  unfold schD
  rw [h]
  exact if_pos hy
def brV (bs : List BrE) : List PyData := bs.map fun e => .tuple [.str e.x, .str e.y]
def brD (bs : List BrE) (x y : Str) (d : PyData) : PyData := if (!(brV bs).any fun z => PyData.eqv z (.tuple [.str x, .str y])) = true then .none else soD (mustD x d) (mustD y d)
/-! ### data that are new -/
section
variable {K : PySem.W.Frag} {H : Hp} {p : Addr}
theorem up {o : HO} {v : V} {d : PyData} (n : H p = none) (h : Dp K H v d) : Dp K (upd H p o) v d := dp_sd (Sd.new n o) _ _ h
theorem new0 (n : H p = none) : Dp K (upd H p (.tup [])) (.ref p) (.tuple []) := .tup (.inl (.inl upd_same)) .nil
theorem new2 {x y : V} {a b : PyData} (n : H p = none) (hx : Dp K H x a) (hy : Dp K H y b) : Dp K (upd H p (.tup [x, y])) (.ref p) (.tuple [a, b]) := .tup (.inl (.inl upd_same)) (.cons (up n hx) (.cons (up n hy) .nil))
theorem new3 {x y z : V} {a b c : PyData} (n : H p = none) (hx : Dp K H x a) (hy : Dp K H y b) (hz : Dp K H z c) : Dp K (upd H p (.tup [x, y, z])) (.ref p) (.tuple [a, b, c]) := .tup (.inl (.inl upd_same)) (.cons (up n hx) (.cons (up n hy) (.cons (up n hz) .nil)))
end
theorem inV_str (y : Str) : ∀ ws : List Str, inV (.str y) (ws.map V.str) = decide (y ∈ ws)
  | [] => rfl
  | x :: ws => by
    have ih := inV_str y ws
    unfold inV at ih ⊢
    rw [List.map_cons, List.any_cons, ih]
    by_cases e : x = y
    · subst e
      simp [eqV]
    · have e' : ¬ y = x := fun z => e z.symm
      simp [eqV, e, e']
theorem flat_str (ws : List Str) : (ws.map V.str).all flatV = true := by
  rw [List.all_eq_true]
  intro v hv
  obtain ⟨x, _, rfl⟩ := List.mem_map.mp hv
  rfl
/-- x not in t, t a tuple of data -/
def rNotInT (K : PySem.W.Frag) : R2 := fun x y H Q => ∃ d ds, Dp K H x d ∧ Dp K H y (.tuple ds) ∧ SeqAt.shaped d = true ∧ SeqAt.shaped (.tuple ds) = true ∧ Q (.bl (!ds.any fun z => PyData.eqv z d)) H
theorem op_notInT {X : Cx} (hu : X.A.units + 65 < cLine) : OpR X (compareOp .NotIn) (rNotInT X.K) := by
  intro pins s σ H x y v u Q I rx ry h
  obtain ⟨d, ds, hd, he, sd, se, q⟩ := h
  obtain ⟨as, r1⟩ := Dp.reads I d x v hd rx
  obtain ⟨bs, r2⟩ := Dp.reads I (.tuple ds) y u he ry
  exact SeqAt.notIn_tuple_reads r2 r1 (SeqAt.canLay_of_shaped se) (SeqAt.canLay_of_shaped sd) (room_in_shaped sd hu) ⟨.bl _, H, I, rfl, q⟩
theorem nd_merge : ∀ {more acc : List (Key × V)}, ((acc ++ more).map (·.1)).Nodup → mergeK acc more = acc ++ more
  | [], acc, _ => by simp [mergeK]
  | kv :: more, acc, h => by
    have hn : valV acc kv.1 = none := by
      cases hv : valV acc kv.1 with
      | none => rfl
      | some v =>
        have hm := valV_in hv
        rw [List.map_append, List.map_cons] at h
        exact absurd rfl ((List.nodup_append.mp h).2.2 _ hm _ List.mem_cons_self)
    have e : mergeK acc (kv :: more) = mergeK (putK acc kv.1 kv.2) more := rfl
    rw [e, putK_new kv.2 hn, nd_merge]
    · simp
    · simpa using h
theorem val_find : ∀ {hs : List HandE} {x : Str}, valV (hs.map fun e => ((Sum.inr e.x : Key), V.ref e.r)) (.inr x) = (find hs x).map fun e => V.ref e.r
  | [], x => rfl
  | e :: hs, x => by
    rw [List.map_cons]
    by_cases h : e.x = x
    · rw [valV_pos (by rw [h])]
      unfold find
      rw [List.find?_cons, decide_eq_true h]
      rfl
    · have h' : ¬ (Sum.inr e.x : Key) = Sum.inr x := fun z => h (Sum.inr.inj z)
      rw [valV_neg h', val_find]
      unfold find
      rw [List.find?_cons, decide_eq_false h]
def spScheme (K : PySem.W.Frag) : Sp := fun vs H Q _ => ∃ (t : Addr) (hs : List HandE) (bs : List BrE) (x y : Str) (a : Addr) (d : PyData), vs = [.ref t, .str x, .str y, .ref a] ∧ TownAt K H t hs bs ∧ Dp K H (.ref a) d ∧ ∀ H' v, Same H H' → Dp K H' v (schD hs x y d) → Q v H'
def spBridge (K : PySem.W.Frag) : Sp := fun vs H Q _ => ∃ (t : Addr) (hs : List HandE) (bs : List BrE) (x y : Str) (a : Addr) (d : PyData), vs = [.ref t, .str x, .str y, .ref a] ∧ TownAt K H t hs bs ∧ Dp K H (.ref a) d ∧ PyData.strOk x = true ∧ PyData.strOk y = true ∧ ∀ H' v, Same H H' → Dp K H' v (brD bs x y d) → Q v H'
theorem scScheme : FnScope ["house", "hand", "word", "saying", "rules"] ["house", "hand", "word", "saying"] (defScope sScheme) := ⟨rfl, rfl, rfl, by decide +kernel, rfl, by decide +kernel, by decide +kernel⟩
theorem scScheme2 : FnScope ["_law_town_here", "_law_who", "_law_word_now", "_law_claim_here", "_law_inner"] ["_law_town_here", "_law_who", "_law_word_now", "_law_claim_here"] (defScope sScheme2) := ⟨rfl, rfl, rfl, by decide +kernel, rfl, by decide +kernel, by decide +kernel⟩
theorem scRuleSaid : FnScope ["hand", "word", "saying", "must"] ["hand", "word", "saying"] (defScope sRuleSaid) := ⟨rfl, rfl, rfl, by decide +kernel, rfl, by decide +kernel, by decide +kernel⟩
theorem scBridgeSaid : FnScope ["one", "other", "saying"] ["one", "other", "saying"] (defScope sBridgeSaid) := ⟨rfl, rfl, rfl, by decide +kernel, rfl, by decide +kernel, by decide +kernel⟩
def spForm (K : PySem.W.Frag) : Sp := fun vs H Q _ => ∃ (x y : Str) (a : Addr) (d : PyData), vs = [.str x, .str y, .ref a] ∧ Dp K H (.ref a) d ∧ ∀ H' v, Same H H' → Dp K H' v (form y x d) → Q v H'
def spBrSaid (K : PySem.W.Frag) : Sp := fun vs H Q _ => ∃ (x y : Str) (a : Addr) (d : PyData), vs = [.str x, .str y, .ref a] ∧ Dp K H (.ref a) d ∧ ∀ H' v, Same H H' → Dp K H' v (soD (mustD x d) (mustD y d)) → Q v H'
theorem scBridge : FnScope ["house", "one", "other", "saying"] ["house", "one", "other", "saying"] (defScope sBridge) := ⟨rfl, rfl, rfl, by decide +kernel, rfl, by decide +kernel, by decide +kernel⟩
theorem scBridge2 : FnScope ["_law_town_here", "_law_near", "_law_far", "_law_claim_here"] ["_law_town_here", "_law_near", "_law_far", "_law_claim_here"] (defScope sBridge2) := ⟨rfl, rfl, rfl, by decide +kernel, rfl, by decide +kernel, by decide +kernel⟩
end Ms55

namespace Ms55
open PySem PySem.Spec PyProof.Rows L2
theorem zz0 : (0 : Nat) ≤ sizeLine := Nat.zero_le _
theorem zz2 : (2 : Nat) ≤ sizeLine := by decide
theorem zz3 : (3 : Nat) ≤ sizeLine := by decide
theorem strNe {x y : Str} (c : ¬ decide (V.str x = V.str y) = true) : x ≠ y := fun e => c (decide_eq_true (congrArg V.str e))
theorem strEq {x y : Str} (c : decide (V.str x = V.str y) = true) : x = y := V.str.inj (of_decide_eq_true c)
section
variable {P : Program} {w : World} {K : PySem.W.Frag} {mg : Str → Option Value} {base : Heap}
theorem ok_ruleSaid {f : Addr} {fd : FuncData} {k : Nat} (F : Fun K "rule_said" "rule_said" sRuleSaid f fd) : FnOk P w K mg base CX0 (k + 1) f fd ["hand", "word", "saying"] (spForm K) := by
  refine F.ok scRuleSaid (fun vs H Q E h => ?_) (fun cdv A outer s H vs Q E hr h => ?_)
  · obtain ⟨x, y, a, d, rfl, _⟩ := h
    rfl
  obtain ⟨x, y, a, d, rfl, hd, q⟩ := h
  refine ⟨_, (pss_cons (ps_set (i := 3) scRuleSaid.nd rfl (.inl rfl) (pe_tup (pa_cons pe_str (pa_cons (pv 0) (pa_cons (pv 2) pa_nil)))))
    (pss_cons (ps_if (pt_cmpR op_eq (pv 1) pe_str (nomark _)) (pss_one (ps_ret (pe_tup (pa_cons pe_str (pa_cons (pe_tup (pa_cons pe_str (pa_cons (pv 0) (pa_cons (pe_tup (pa_cons pe_str (pa_cons (pe_tup pa_nil) pa_nil))) pa_nil)))) pa_nil))))) pss_nil)
    (pss_cons (ps_if (pt_cmpR op_eq (pv 1) pe_str (nomark _)) (pss_one (ps_ret (pe_tup (pa_cons pe_str (pa_cons (pv 3) (pa_cons (pv 2) pa_nil)))))) pss_nil)
    (pss_cons (ps_if (pt_cmpR op_eq (pv 1) pe_str (nomark _)) (pss_one (ps_ret (pe_tup (pa_cons pe_str (pa_cons (pv 3) (pa_cons (pe_tup (pa_cons pe_str (pa_cons (pv 0) (pa_cons (pv 3) pa_nil)))) pa_nil)))))) pss_nil)
    (pss_cons (ps_if (pt_cmpR op_eq (pv 1) pe_str (nomark _)) (pss_one (ps_ret (pe_tup (pa_cons pe_str (pa_cons (pe_tup (pa_cons pe_str (pa_cons (pv 2) pa_nil))) (pa_cons (pe_tup (pa_cons pe_str (pa_cons (pv 0) (pa_cons (pe_tup (pa_cons pe_str (pa_cons (pv 3) pa_nil))) pa_nil)))) pa_nil)))))) pss_nil)
    (pss_cons (ps_if (pt_cmpR op_eq (pv 1) pe_str (nomark _)) (pss_one (ps_ret (pe_tup (pa_cons pe_str (pa_cons (pe_tup (pa_cons pe_str (pa_cons (pv 3) pa_nil))) (pa_cons (pe_tup (pa_cons pe_str (pa_cons (pv 0) (pa_cons (pe_tup (pa_cons pe_str (pa_cons (pv 3) pa_nil))) pa_nil)))) pa_nil)))))) pss_nil)
    (pss_one (ps_ret (pe_tup (pa_cons pe_str (pa_cons (pe_tup (pa_cons pe_str (pa_cons (pv 0) (pa_cons (pe_tup (pa_cons pe_str (pa_cons (pv 3) (pa_cons (pv 2) pa_nil)))) pa_nil)))) (pa_cons (pv 3) pa_nil)))))))))))), ?_⟩
  refine ⟨_, rfl, _, rfl, zz3, fun m nm => ?_⟩
  have sm := same_new nm (.tup [.str "must", .str x, .ref a])
  have hm : Dp K (upd H m (.tup [.str "must", .str x, .ref a])) (.ref m) (mustD x d) := new3 nm (.str _) (.str _) hd
  have ha : Dp K (upd H m (.tup [.str "must", .str x, .ref a])) (.ref a) d := up nm hd
  generalize upd H m (.tup [.str "must", .str x, .ref a]) = H1 at sm hm ha
  refine ⟨_, rfl, rfl, _, rfl, ite2 (fun c1 => ?_) (fun c1 => ?_)⟩
  · refine ⟨_, rfl, zz0, fun u0 n0 => ⟨zz2, fun u1 n1 => ⟨zz3, fun u2 n2 => ⟨zz2, fun u3 n3 => ?_⟩⟩⟩⟩
    refine q _ _ (sm.trans ((same_new n0 _).trans ((same_new n1 _).trans ((same_new n2 _).trans (same_new n3 _))))) ?_
    unfold form
    rw [if_pos (strEq c1)]
    exact new2 n3 (.str _) (new3 n2 (.str _) (.str _) (new2 n1 (.str _) (new0 n0)))
  refine ⟨_, rfl, rfl, _, rfl, ite2 (fun c2 => ?_) (fun c2 => ?_)⟩
  · refine ⟨_, rfl, _, rfl, zz3, fun u0 n0 => ?_⟩
    refine q _ _ (sm.trans (same_new n0 _)) ?_
    unfold form
    rw [if_neg (strNe c1), if_pos (strEq c2)]
    exact new3 n0 (.str _) hm ha
  refine ⟨_, rfl, rfl, _, rfl, ite2 (fun c3 => ?_) (fun c3 => ?_)⟩
  · refine ⟨_, rfl, _, rfl, _, rfl, zz3, fun u0 n0 => ⟨zz3, fun u1 n1 => ?_⟩⟩
    refine q _ _ (sm.trans ((same_new n0 _).trans (same_new n1 _))) ?_
    unfold form
    rw [if_neg (strNe c1), if_neg (strNe c2), if_pos (strEq c3)]
    exact new3 n1 (.str _) (up n0 hm) (new3 n0 (.str _) (.str _) hm)
  refine ⟨_, rfl, rfl, _, rfl, ite2 (fun c4 => ?_) (fun c4 => ?_)⟩
  · refine ⟨_, rfl, zz2, fun u0 n0 => ⟨_, rfl, _, rfl, zz2, fun u1 n1 => ⟨zz3, fun u2 n2 => ⟨zz3, fun u3 n3 => ?_⟩⟩⟩⟩
    refine q _ _ (sm.trans ((same_new n0 _).trans ((same_new n1 _).trans ((same_new n2 _).trans (same_new n3 _))))) ?_
    unfold form
    rw [if_neg (strNe c1), if_neg (strNe c2), if_neg (strNe c3), if_pos (strEq c4)]
    exact new3 n3 (.str _) (up n2 (up n1 (new2 n0 (.str _) ha))) (new3 n2 (.str _) (.str _) (new2 n1 (.str _) (up n0 hm)))
  refine ⟨_, rfl, rfl, _, rfl, ite2 (fun c5 => ?_) (fun c5 => ?_)⟩
  · refine ⟨_, rfl, zz2, fun u0 n0 => ⟨_, rfl, _, rfl, zz2, fun u1 n1 => ⟨zz3, fun u2 n2 => ⟨zz3, fun u3 n3 => ?_⟩⟩⟩⟩
    refine q _ _ (sm.trans ((same_new n0 _).trans ((same_new n1 _).trans ((same_new n2 _).trans (same_new n3 _))))) ?_
    unfold form
    rw [if_neg (strNe c1), if_neg (strNe c2), if_neg (strNe c3), if_neg (strNe c4), if_pos (strEq c5)]
    exact new3 n3 (.str _) (up n2 (up n1 (new2 n0 (.str _) hm))) (new3 n2 (.str _) (.str _) (new2 n1 (.str _) (up n0 hm)))
  refine ⟨_, rfl, _, rfl, _, rfl, zz3, fun u0 n0 => ⟨zz3, fun u1 n1 => ⟨_, rfl, zz3, fun u2 n2 => ?_⟩⟩⟩
  refine q _ _ (sm.trans ((same_new n0 _).trans ((same_new n1 _).trans (same_new n2 _)))) ?_
  unfold form
  rw [if_neg (strNe c1), if_neg (strNe c2), if_neg (strNe c3), if_neg (strNe c4), if_neg (strNe c5)]
  exact new3 n2 (.str _) (new3 n1 (.str _) (.str _) (new3 n0 (.str _) hm ha)) (up n1 (up n0 hm))
theorem ok_scheme {f g r : Addr} {fd gd rd : FuncData} {k : Nat} (F : Fun K "scheme_of" "scheme_of" sScheme f fd) (G : FnOk P w K mg base CX0 k g gd ["house", "hand"] (spRules K)) (bG : Binds K gd ["house", "hand"] []) (kG : PySem.W.keepIn K (.ref g) = true) (mG : mg "rules_of" = some (.ref g))
    (R : FnOk P w K mg base CX0 k r rd ["hand", "word", "saying"] (spForm K)) (bR : Binds K rd ["hand", "word", "saying"] []) (kR : PySem.W.keepIn K (.ref r) = true) (mR : mg "rule_said" = some (.ref r)) :
    FnOk P w K mg base CX0 (k + 1) f fd ["house", "hand", "word", "saying"] (spScheme K) := by
  refine F.ok scScheme (fun vs H Q E h => ?_) (fun cdv A outer s H vs Q E hr h => ?_)
  · obtain ⟨t, hs, bs, x, y, a, d, rfl, _⟩ := h
    rfl
  obtain ⟨t, hs, bs, x, y, a, d, rfl, hT, hd, q⟩ := h
  refine ⟨_, pss_cons (ps_set (i := 4) scScheme.nd rfl (.inl rfl) (pe_call G hr rfl mG kG bG .nil pass0 (pa_cons (pv 0) (pa_cons (pv 1) pa_nil))))
    (pss_cons (ps_if (PW.pt (pw_or (pt_cmp (pc_isN (pv 4))) (pw_or1 (pt_cmpR op_notIn_seq (pv 2) (pv 4) (by rfl))))) (pss_one (ps_ret pe_non)) pss_nil)
    (pss_one (ps_ret (pe_call R hr rfl mR kR bR .nil pass0 (pa_cons (pv 1) (pa_cons (pv 2) (pa_cons (pv 3) pa_nil))))))), ?_⟩
  refine ⟨_, rfl, _, rfl, t, hs, bs, x, rfl, hT, ?_⟩
  cases hf : find hs x with
  | none => exact ⟨_, rfl, _, rfl, iteT (iteT (q H .non (Same.refl _) (by rw [schD_no hf]; exact .non)))⟩
  | some e =>
    obtain ⟨a1, a2, o, h1, h2, h3, h4, h5, h6, h7⟩ := hT
    obtain ⟨me, _⟩ := find_mem hf
    obtain ⟨_, hq, _, h6s⟩ := h4 e me
    refine ⟨_, rfl, _, rfl, iteF ⟨_, rfl, _, rfl, e.r, _, rfl, .inr hq, rfl, flat_str _, ?_⟩⟩
    rw [inV_str]
    refine ⟨_, rfl, ite2 (fun c => ?_) (fun c => ?_)⟩
    · have hy : y ∉ e.ws := by simpa using c
      exact q H .non (Same.refl _) (by rw [schD_out hf hy]; exact .non)
    have hy : y ∈ e.ws := by simpa using c
    rw [schD_in hf hy] at q
    have hy6 := h6s y hy
    exact ⟨_, rfl, _, rfl, _, rfl, x, y, a, d, rfl, hd, q⟩
end
end Ms55

namespace Ms55
open PySem PySem.Spec PyProof.Rows L2
theorem canStrs : ∀ bs : List BrE, (∀ e ∈ bs, PyData.strOk e.x = true ∧ PyData.strOk e.y = true) → PyData.canLayAll0 (brV bs) = true
  | [], _ => by simp [brV, PyData.canLayAll0]
  | b :: bs, h => by
    have ih := canStrs bs fun e he => h e (List.mem_cons_of_mem _ he)
    have hb := h b List.mem_cons_self
    unfold brV at ih ⊢
    simp [PyData.canLayAll0, PyData.canLay0, ih, hb.1, hb.2]
theorem depStrs : ∀ bs : List BrE, PyData.depthAll (brV bs) ≤ 1
  | [] => by simp [brV, PyData.depthAll]
  | b :: bs => by
    have ih := depStrs bs
    unfold brV at ih ⊢
    simp only [List.map_cons, PyData.depthAll, PyData.depth]
    omega
theorem shStrs {bs : List BrE} (hb : ∀ e ∈ bs, PyData.strOk e.x = true ∧ PyData.strOk e.y = true) : SeqAt.shaped (.tuple (brV bs)) = true := by
  have h := depStrs bs
  simp [SeqAt.shaped, PyData.canLay0, canStrs bs hb, PyData.depth]
  omega
theorem dpBrs {K : PySem.W.Frag} {H : Hp} : ∀ {bs : List BrE}, (∀ e ∈ bs, BrOk K H e) → DpAll K H (bs.map fun e => V.ref e.p) (brV bs)
  | [], _ => .nil
  | b :: bs, h => .cons (.tup (h b List.mem_cons_self).1 (.cons (.str _) (.cons (.str _) .nil))) (dpBrs fun e he => h e (List.mem_cons_of_mem _ he))
section
variable {P : Program} {w : World} {K : PySem.W.Frag} {mg : Str → Option Value} {base : Heap}
theorem ok_brSaid {f : Addr} {fd : FuncData} {k : Nat} (F : Fun K "bridge_said" "bridge_said" sBridgeSaid f fd) : FnOk P w K mg base CX0 (k + 1) f fd ["one", "other", "saying"] (spBrSaid K) := by
  refine F.ok scBridgeSaid (fun vs H Q E h => ?_) (fun cdv A outer s H vs Q E hr h => ?_)
  · obtain ⟨x, y, a, d, rfl, _⟩ := h
    rfl
  obtain ⟨x, y, a, d, rfl, hd, q⟩ := h
  refine ⟨_, pss_one (ps_ret (pe_tup (pa_cons pe_str (pa_cons (pe_tup (pa_cons pe_str (pa_cons (pv 0) (pa_cons (pv 2) pa_nil)))) (pa_cons (pe_tup (pa_cons pe_str (pa_cons (pv 1) (pa_cons (pv 2) pa_nil)))) pa_nil))))), ?_⟩
  refine ⟨_, rfl, _, rfl, zz3, fun m nm => ⟨_, rfl, _, rfl, zz3, fun u nu => ⟨zz3, fun z nz => ?_⟩⟩⟩
  refine q _ _ ((same_new nm _).trans ((same_new nu _).trans (same_new nz _))) ?_
  exact new3 nz (.str _) (up nu (new3 nm (.str _) (.str _) hd)) (new3 nu (.str _) (.str _) (up nm hd))
theorem ok_bridge {f r : Addr} {fd rd : FuncData} {k : Nat} (F : Fun K "bridge_scheme" "bridge_scheme" sBridge f fd)
    (R : FnOk P w K mg base CX0 k r rd ["one", "other", "saying"] (spBrSaid K)) (bR : Binds K rd ["one", "other", "saying"] []) (kR : PySem.W.keepIn K (.ref r) = true) (mR : mg "bridge_said" = some (.ref r)) : FnOk P w K mg base CX0 (k + 1) f fd ["house", "one", "other", "saying"] (spBridge K) := by
  refine F.ok scBridge (fun vs H Q E h => ?_) (fun cdv A outer s H vs Q E hr h => ?_)
  · obtain ⟨t, hs, bs, x, y, a, d, rfl, _⟩ := h
    rfl
  obtain ⟨t, hs, bs, x, y, a, d, rfl, hT, hd, okx, oky, q⟩ := h
  have hu65 : (A.deeper (envOfC "bridge_scheme" (defScope sBridge) s.heap.objs.size f cdv)).units + 65 < cLine := by
    have := hr.un
    omega
  refine ⟨_, pss_cons (ps_if (pt_cmpR (op_notInT hu65) (pe_tup (pa_cons (pv 1) (pa_cons (pv 2) pa_nil))) (pe_ix ix_tup (pv 0) pe_int (fun _ _ => rfl)) (by rfl)) (pss_one (ps_ret pe_non)) pss_nil)
    (pss_one (ps_ret (pe_call R hr rfl mR kR bR .nil pass0 (pa_cons (pv 1) (pa_cons (pv 2) (pa_cons (pv 3) pa_nil)))))), ?_⟩
  refine ⟨_, rfl, _, rfl, zz2, fun r nr => ?_⟩
  have s1 := same_new nr (.tup [.str x, .str y])
  obtain ⟨a1, a2, o, h1, h2, h3, h4, h5, h6, h7⟩ := hT.sd (Sd.of_same s1)
  refine ⟨_, rfl, t, _, 1, .ref a2, rfl, rfl, h1, rfl, .tuple [.str x, .str y], brV bs, new2 nr (.str _) (.str _), .tup h6 (dpBrs h7), ?_, shStrs (fun e he => (h7 e he).2), _, rfl, ?_⟩
  · simp [SeqAt.shaped, PyData.canLay0, PyData.canLayAll0, PyData.depth, PyData.depthAll, okx, oky]
  cases hb : (!(brV bs).any fun z => PyData.eqv z (.tuple [.str x, .str y])) with
  | true =>
    refine iteT (q _ .non s1 ?_)
    unfold brD
    rw [hb, if_pos rfl]
    exact .non
  | false =>
    have hd1 := dp_sd (Sd.of_same s1) _ _ hd
    refine iteF ⟨_, rfl, _, rfl, _, rfl, x, y, a, d, rfl, hd1, fun H' v sm hv => q _ _ (s1.trans sm) ?_⟩
    unfold brD
    rw [hb, if_neg Bool.false_ne_true]
    exact hv
theorem ok_bridge2 {f : Addr} {fd : FuncData} {k : Nat} (F : Fun K "_law_bridge" "_law_bridge" sBridge2 f fd) : FnOk P w K mg base CX0 (k + 1) f fd ["_law_town_here", "_law_near", "_law_far", "_law_claim_here"] (spBridge K) := by
  refine F.ok scBridge2 (fun vs H Q E h => ?_) (fun cdv A outer s H vs Q E hr h => ?_)
  · obtain ⟨t, hs, bs, x, y, a, d, rfl, _⟩ := h
    rfl
  obtain ⟨t, hs, bs, x, y, a, d, rfl, hT, hd, okx, oky, q⟩ := h
  have hu65 : (A.deeper (envOfC "_law_bridge" (defScope sBridge2) s.heap.objs.size f cdv)).units + 65 < cLine := by
    have := hr.un
    omega
  refine ⟨_, pss_cons (ps_if (pt_cmpR (op_notInT hu65) (pe_tup (pa_cons (pv 1) (pa_cons (pv 2) pa_nil))) (pe_ix ix_tup (pv 0) pe_int (fun _ _ => rfl)) (by rfl)) (pss_one (ps_ret pe_non)) pss_nil)
    (pss_one (ps_ret (pe_tup (pa_cons pe_str (pa_cons (pe_tup (pa_cons pe_str (pa_cons (pv 1) (pa_cons (pv 3) pa_nil)))) (pa_cons (pe_tup (pa_cons pe_str (pa_cons (pv 2) (pa_cons (pv 3) pa_nil)))) pa_nil)))))), ?_⟩
  refine ⟨_, rfl, _, rfl, zz2, fun r nr => ?_⟩
  have s1 := same_new nr (.tup [.str x, .str y])
  obtain ⟨a1, a2, o, h1, h2, h3, h4, h5, h6, h7⟩ := hT.sd (Sd.of_same s1)
  refine ⟨_, rfl, t, _, 1, .ref a2, rfl, rfl, h1, rfl, .tuple [.str x, .str y], brV bs, new2 nr (.str _) (.str _), .tup h6 (dpBrs h7), ?_, shStrs (fun e he => (h7 e he).2), _, rfl, ?_⟩
  · simp [SeqAt.shaped, PyData.canLay0, PyData.canLayAll0, PyData.depth, PyData.depthAll, okx, oky]
  cases hb : (!(brV bs).any fun z => PyData.eqv z (.tuple [.str x, .str y])) with
  | true =>
    refine iteT (q _ .non s1 ?_)
    unfold brD
    rw [hb, if_pos rfl]
    exact .non
  | false =>
    refine iteF ⟨_, rfl, _, rfl, zz3, fun m nm => ⟨_, rfl, _, rfl, zz3, fun u nu => ⟨zz3, fun z nz => ?_⟩⟩⟩
    refine q _ _ (s1.trans ((same_new nm _).trans ((same_new nu _).trans (same_new nz _)))) ?_
    unfold brD
    rw [hb, if_neg Bool.false_ne_true]
    have hd1 := dp_sd (Sd.of_same s1) _ _ hd
    exact new3 nz (.str _) (up nu (new3 nm (.str _) (.str _) hd1)) (new3 nu (.str _) (.str _) (up nm hd1))
theorem six_cases {y : Str} (h : y ∈ six) : y = "back" ∨ y = "ends" ∨ y = "on" ∨ y = "round" ∨ y = "self" ∨ y = "step" := by simpa [six] using h
theorem ok_scheme2 {f : Addr} {fd : FuncData} {k : Nat} (F : Fun K "_law_scheme" "_law_scheme" sScheme2 f fd) (md : mg "dict" = none) : FnOk P w K mg base CX0 (k + 1) f fd ["_law_town_here", "_law_who", "_law_word_now", "_law_claim_here"] (spScheme K) := by
  refine F.ok scScheme2 (fun vs H Q E h => ?_) (fun cdv A outer s H vs Q E hr h => ?_)
  · obtain ⟨t, hs, bs, x, y, a, d, rfl, _⟩ := h
    rfl
  obtain ⟨t, hs, bs, x, y, a, d, rfl, hT, hd, q⟩ := h
  have hu := hu_of hr
  refine ⟨_, pss_cons (ps_if (PW.pt (pw_or (pt_cmp (pc_dnotin hu (pv 1) (pe_callTy (call_dictF rfl) (by rfl) md (by decide +kernel) (pa_cons (pe_ix ix_tup (pv 0) pe_int (fun _ _ => rfl)) pa_nil))))
      (pw_or1 (pt_cmpR op_notIn_seq (pv 2) (pe_dget hu (pe_callTy (call_dictF rfl) (by rfl) md (by decide +kernel) (pa_cons (pe_ix ix_tup (pv 0) pe_int (fun _ _ => rfl)) pa_nil)) (pv 1) (fun _ _ => rfl)) (by rfl))))) (pss_one (ps_ret pe_non)) pss_nil)
    (pss_cons (ps_set (i := 4) scScheme2.nd rfl (.inl rfl) (pe_tup (pa_cons pe_str (pa_cons (pv 1) (pa_cons (pv 3) pa_nil)))))
    (pss_cons (ps_if (pt_cmpR op_eq (pv 2) pe_str (nomark _)) (pss_one (ps_ret (pe_tup (pa_cons pe_str (pa_cons (pe_tup (pa_cons pe_str (pa_cons (pv 1) (pa_cons (pe_tup (pa_cons pe_str (pa_cons (pe_tup pa_nil) pa_nil))) pa_nil)))) pa_nil))))) pss_nil)
    (pss_cons (ps_if (pt_cmpR op_eq (pv 2) pe_str (nomark _)) (pss_one (ps_ret (pe_tup (pa_cons pe_str (pa_cons (pv 4) (pa_cons (pv 3) pa_nil)))))) pss_nil)
    (pss_cons (ps_if (pt_cmpR op_eq (pv 2) pe_str (nomark _)) (pss_one (ps_ret (pe_tup (pa_cons pe_str (pa_cons (pv 4) (pa_cons (pe_tup (pa_cons pe_str (pa_cons (pv 1) (pa_cons (pv 4) pa_nil)))) pa_nil)))))) pss_nil)
    (pss_cons (ps_if (pt_cmpR op_eq (pv 2) pe_str (nomark _)) (pss_one (ps_ret (pe_tup (pa_cons pe_str (pa_cons (pe_tup (pa_cons pe_str (pa_cons (pv 1) (pa_cons (pe_tup (pa_cons pe_str (pa_cons (pv 4) (pa_cons (pv 3) pa_nil)))) pa_nil)))) (pa_cons (pv 4) pa_nil)))))) pss_nil)
    (pss_one (ps_ret (pe_tup (pa_cons pe_str (pa_cons (pe_tup (pa_cons pe_str (pa_cons (pe_ifExp (pt_cmpR op_eq (pv 2) pe_str (nomark _)) (pv 3) (pv 4)) pa_nil))) (pa_cons (pe_tup (pa_cons pe_str (pa_cons (pv 1) (pa_cons (pe_tup (pa_cons pe_str (pa_cons (pv 4) pa_nil))) pa_nil)))) pa_nil))))))))))), ?_⟩
  obtain ⟨a1, a2, o, h1, h2, h3, h4, h5, h6, h7⟩ := hT
  have hP : ∀ {H' : Hp}, Same H H' → Paired (fun p (kv : Key × V) => SqT K H' p [kV kv.1, kv.2]) (hs.map (·.p)) (hs.map fun e : HandE => ((Sum.inr e.x : Key), V.ref e.r)) := by
    intro H' sm
    clear q hd h1 h2 h5 h6 h7
    induction hs with
    | nil => exact .nil
    | cons e hs ih => exact .cons ((Sd.of_same sm).tup (h4 e List.mem_cons_self).1) (ih fun e' he' => h4 e' (List.mem_cons_of_mem _ he'))
  have eP : (hs.map fun e => V.ref e.p) = (hs.map (·.p)).map V.ref := by rw [List.map_map]; rfl
  have eM : mergeK [] (hs.map fun e : HandE => ((Sum.inr e.x : Key), V.ref e.r)) = hs.map fun e : HandE => ((Sum.inr e.x : Key), V.ref e.r) := by
    rw [nd_merge, List.nil_append]
    rw [List.nil_append, List.map_map]
    have e : ((fun p : Key × V => p.1) ∘ fun e : HandE => ((Sum.inr e.x : Key), V.ref e.r)) = (fun z : Str => (Sum.inr z : Key)) ∘ (·.x) := rfl
    rw [e, ← List.map_map]
    exact List.Pairwise.map _ (fun a b n z => n (Sum.inr.inj z)) h5
  rw [eP] at h2
  refine ⟨_, rfl, _, rfl, t, _, 0, .ref a1, rfl, rfl, h1, rfl, a1, o, hs.map (fun e : HandE => e.p), hs.map (fun e : HandE => ((Sum.inr e.x : Key), V.ref e.r)), rfl, h2, h3, hP (Same.refl _), fun r nr => ?_⟩
  rw [eM]
  have s1 := same_new nr (.dK (hs.map fun e : HandE => ((Sum.inr e.x : Key), V.ref e.r)))
  refine ⟨r, _, rfl, DGet.k (k := Sum.inr x) upd_same, _, rfl, ?_⟩
  rw [val_find]
  cases hf : find hs x with
  | none => exact iteT (iteT (q _ .non s1 (by rw [schD_no hf]; exact .non)))
  | some e =>
    obtain ⟨me, _⟩ := find_mem hf
    obtain ⟨_, hq, _, h6s⟩ := h4 e me
    refine iteF ⟨_, rfl, _, rfl, t, _, 0, .ref a1, rfl, rfl, (Sd.of_same s1).tup h1, rfl, a1, o, hs.map (fun e : HandE => e.p), hs.map (fun e : HandE => ((Sum.inr e.x : Key), V.ref e.r)), rfl, s1 _ _ h2, h3, hP s1, fun r2 nr2 => ?_⟩
    rw [eM]
    have s2 := s1.trans (same_new nr2 (.dK (hs.map fun e : HandE => ((Sum.inr e.x : Key), V.ref e.r))))
    have dg := DGet.k (k := Sum.inr x) (upd_same (H := upd H r (.dK (hs.map fun e : HandE => ((Sum.inr e.x : Key), V.ref e.r)))) (a := r2) (o := .dK (hs.map fun e : HandE => ((Sum.inr e.x : Key), V.ref e.r))))
    rw [val_find, hf] at dg
    refine ⟨_, rfl, r2, _, rfl, dg, e.r, _, rfl, .inr ((Sd.of_same s2).tup hq), rfl, flat_str _, ?_⟩
    rw [inV_str]
    refine ⟨_, rfl, ite2 (fun c => ?_) (fun c => ?_)⟩
    · have hy : y ∉ e.ws := by simpa using c
      exact q _ .non s2 (by rw [schD_out hf hy]; exact .non)
    have hy : y ∈ e.ws := by simpa using c
    rw [schD_in hf hy] at q
    have hy6 := h6s y hy
    have hd2 := dp_sd (Sd.of_same s2) _ _ hd
    refine ⟨_, rfl, _, rfl, zz3, fun m nm => ?_⟩
    have sm := s2.trans (same_new nm (.tup [.str "must", .str x, .ref a]))
    have hm := new3 nm (.str "must") (.str x) hd2
    have ha := up (o := .tup [.str "must", .str x, .ref a]) nm hd2
    generalize upd (upd (upd H r (.dK (hs.map fun e : HandE => ((Sum.inr e.x : Key), V.ref e.r)))) r2 (.dK (hs.map fun e : HandE => ((Sum.inr e.x : Key), V.ref e.r)))) m (.tup [.str "must", .str x, .ref a]) = H1 at sm hm ha
    refine ⟨_, rfl, rfl, _, rfl, ite2 (fun c1 => ?_) (fun c1 => ?_)⟩
    · refine ⟨_, rfl, zz0, fun u0 n0 => ⟨zz2, fun u1 n1 => ⟨zz3, fun u2 n2 => ⟨zz2, fun u3 n3 => ?_⟩⟩⟩⟩
      refine q _ _ (sm.trans ((same_new n0 _).trans ((same_new n1 _).trans ((same_new n2 _).trans (same_new n3 _))))) ?_
      unfold form
      rw [if_pos (strEq c1)]
      exact new2 n3 (.str _) (new3 n2 (.str _) (.str _) (new2 n1 (.str _) (new0 n0)))
    refine ⟨_, rfl, rfl, _, rfl, ite2 (fun c2 => ?_) (fun c2 => ?_)⟩
    · refine ⟨_, rfl, _, rfl, zz3, fun u0 n0 => ?_⟩
      refine q _ _ (sm.trans (same_new n0 _)) ?_
      unfold form
      rw [if_neg (strNe c1), if_pos (strEq c2)]
      exact new3 n0 (.str _) hm ha
    refine ⟨_, rfl, rfl, _, rfl, ite2 (fun c3 => ?_) (fun c3 => ?_)⟩
    · refine ⟨_, rfl, _, rfl, _, rfl, zz3, fun u0 n0 => ⟨zz3, fun u1 n1 => ?_⟩⟩
      refine q _ _ (sm.trans ((same_new n0 _).trans (same_new n1 _))) ?_
      unfold form
      rw [if_neg (strNe c1), if_neg (strNe c2), if_pos (strEq c3)]
      exact new3 n1 (.str _) (up n0 hm) (new3 n0 (.str _) (.str _) hm)
    refine ⟨_, rfl, rfl, _, rfl, ite2 (fun c4 => ?_) (fun c4 => ?_)⟩
    · have e4 := strEq c4
      refine ⟨_, rfl, _, rfl, _, rfl, zz3, fun u0 n0 => ⟨zz3, fun u1 n1 => ⟨_, rfl, zz3, fun u2 n2 => ?_⟩⟩⟩
      refine q _ _ (sm.trans ((same_new n0 _).trans ((same_new n1 _).trans (same_new n2 _)))) ?_
      unfold form
      rw [if_neg (strNe c1), if_neg (strNe c2), if_neg (strNe c3), if_neg (by rw [e4]; decide), if_neg (by rw [e4]; decide)]
      exact new3 n2 (.str _) (new3 n1 (.str _) (.str _) (new3 n0 (.str _) hm ha)) (up n1 (up n0 hm))
    refine ⟨_, rfl, rfl, _, rfl, ite2 (fun c5 => ?_) (fun c5 => ?_)⟩
    · refine ⟨_, rfl, zz2, fun u0 n0 => ⟨_, rfl, _, rfl, zz2, fun u1 n1 => ⟨zz3, fun u2 n2 => ⟨zz3, fun u3 n3 => ?_⟩⟩⟩⟩
      refine q _ _ (sm.trans ((same_new n0 _).trans ((same_new n1 _).trans ((same_new n2 _).trans (same_new n3 _))))) ?_
      unfold form
      rw [if_neg (strNe c1), if_neg (strNe c2), if_neg (strNe c3), if_pos (strEq c5)]
      exact new3 n3 (.str _) (up n2 (up n1 (new2 n0 (.str _) ha))) (new3 n2 (.str _) (.str _) (new2 n1 (.str _) (up n0 hm)))
    · have e5 : y = "round" := by
        rcases six_cases hy6 with z | z | z | z | z | z
        · exact absurd z (strNe c5)
        · exact absurd z (strNe c4)
        · exact absurd z (strNe c3)
        · exact z
        · exact absurd z (strNe c2)
        · exact absurd z (strNe c1)
      refine ⟨_, rfl, zz2, fun u0 n0 => ⟨_, rfl, _, rfl, zz2, fun u1 n1 => ⟨zz3, fun u2 n2 => ⟨zz3, fun u3 n3 => ?_⟩⟩⟩⟩
      refine q _ _ (sm.trans ((same_new n0 _).trans ((same_new n1 _).trans ((same_new n2 _).trans (same_new n3 _))))) ?_
      unfold form
      rw [if_neg (strNe c1), if_neg (strNe c2), if_neg (strNe c3), if_neg (strNe c5), if_pos e5]
      exact new3 n3 (.str _) (up n2 (up n1 (new2 n0 (.str _) hm))) (new3 n2 (.str _) (.str _) (new2 n1 (.str _) (up n0 hm)))
end
end Ms55

namespace Ms55
open PySem PySem.Spec PyProof.Rows L2
/-! ### heaps: tuples stay -/
def Tp (H H' : Hp) : Prop := ∀ b o, H b = some o → ((∃ xs, o = .tup xs) ∨ ∃ ob u, o = .frz ob u) → H' b = some o
theorem Tp.refl (H : Hp) : Tp H H := fun _ _ h _ => h
theorem Tp.trans {H H1 H2 : Hp} (a : Tp H H1) (b : Tp H1 H2) : Tp H H2 := fun c o h k => b c o (a c o h k) k
theorem Sd.tp {H H' : Hp} (s : Sd H H') : Tp H H' := fun b o h k => s b o h fun kvs z => by
  subst z
  rcases k with ⟨_, e⟩ | ⟨_, _, e⟩ <;> cases e
theorem Tp.lst {H : Hp} {p : Addr} {xs : List V} (h : H p = some (.lst xs)) (o : HO) : Tp H (upd H p o) := fun b u q k => by
  by_cases e : b = p
  · subst e
    rw [h] at q
    cases q
    rcases k with ⟨_, e⟩ | ⟨_, _, e⟩ <;> cases e
  · rw [upd_ne e]
    exact q
theorem Tp.tup {K : PySem.W.Frag} {H H' : Hp} {a : Addr} {xs : List V} (e : Tp H H') (h : SqT K H a xs) : SqT K H' a xs := by
  rcases h with (h | ⟨o, h⟩) | h
  · exact .inl (.inl (e _ _ h (.inl ⟨_, rfl⟩)))
  · exact .inl (.inr ⟨o, e _ _ h (.inr ⟨_, _, rfl⟩)⟩)
  · exact .inr h
theorem HandOk.tp {K : PySem.W.Frag} {H H' : Hp} {e : HandE} (h : HandOk K H e) (s : Tp H H') : HandOk K H' e := ⟨s.tup h.1, s.tup h.2.1, h.2.2⟩
theorem BrOk.tp {K : PySem.W.Frag} {H H' : Hp} {e : BrE} (h : BrOk K H e) (s : Tp H H') : BrOk K H' e := ⟨s.tup h.1, h.2⟩
def pool : List Str := ["a", "bo", "cy"]
/-! ### lists -/
theorem perm_ex {α β : Type} {g : α → β} {l m : List β} (h : l.Perm m) : ∀ {xs : List α}, l = xs.map g → ∃ ys, xs.Perm ys ∧ m = ys.map g := by
  induction h with
  | nil =>
    intro xs e
    have : xs = [] := by simpa using e.symm
    subst this
    exact ⟨[], .nil, rfl⟩
  | cons a _ ih =>
    intro xs e
    cases xs with
    | nil => cases e
    | cons x xs =>
      rw [List.map_cons] at e
      obtain ⟨rfl, e2⟩ := List.cons.inj e
      obtain ⟨ys, p, rfl⟩ := ih e2
      exact ⟨x :: ys, p.cons x, rfl⟩
  | swap a b l =>
    intro xs e
    cases xs with
    | nil => cases e
    | cons x xs =>
      cases xs with
      | nil => cases e
      | cons y xs =>
        rw [List.map_cons, List.map_cons] at e
        obtain ⟨rfl, e2⟩ := List.cons.inj e
        obtain ⟨rfl, rfl⟩ := List.cons.inj e2
        exact ⟨y :: x :: xs, .swap y x xs, rfl⟩
  | trans _ _ ih1 ih2 =>
    intro xs e
    obtain ⟨ys, p, e1⟩ := ih1 e
    obtain ⟨zs, p2, e2⟩ := ih2 e1
    exact ⟨zs, p.trans p2, e2⟩
theorem erase_map {α β : Type} (f : α → β) : ∀ (l : List α) (k : Nat), (l.map f).eraseIdx k = (l.eraseIdx k).map f
  | [], _ => rfl
  | _ :: _, 0 => rfl
  | x :: l, k + 1 => by
    rw [List.map_cons, List.eraseIdx_cons_succ, List.eraseIdx_cons_succ, List.map_cons, erase_map f l k]
theorem erase_perm {α : Type} : ∀ (l : List α) (k : Nat) (x : α), l[k]? = some x → (x :: l.eraseIdx k).Perm l
  | [], _, _, h => by simp at h
  | y :: l, 0, x, h => by
    have e : y = x := Option.some.inj h
    rw [e]
    exact .refl _
  | y :: l, k + 1, x, h => by
    rw [List.eraseIdx_cons_succ]
    exact (List.Perm.swap y x _).trans ((erase_perm l k x (by simpa using h)).cons y)
theorem seq_at {k : Int} {n : Nat} (h0 : 0 ≤ k) (h1 : k < n) : seqIndex? k n = some k.toNat := (ixN_seq (by unfold ixN; rw [if_pos h0, if_pos h1])).1
/-! ### data of hands and bridges -/
def handD (e : HandE) : PyData := .tuple [.str e.x, .tuple (e.ws.map .str)]
def brE (e : BrE) : PyData := .tuple [.str e.x, .str e.y]
theorem dpStrs {K : PySem.W.Frag} {H : Hp} : ∀ ws : List Str, DpAll K H (ws.map V.str) (ws.map .str)
  | [] => .nil
  | x :: ws => .cons (.str x) (dpStrs ws)
theorem HandOk.dp {K : PySem.W.Frag} {H : Hp} {e : HandE} (h : HandOk K H e) : Dp K H (.ref e.p) (handD e) := .tup h.1 (.cons (.str _) (.cons (.tup h.2.1 (dpStrs _)) .nil))
theorem BrOk.dp {K : PySem.W.Frag} {H : Hp} {e : BrE} (h : BrOk K H e) : Dp K H (.ref e.p) (brE e) := .tup h.1 (.cons (.str _) (.cons (.str _) .nil))
theorem dpHands {K : PySem.W.Frag} {H : Hp} : ∀ {hs : List HandE}, (∀ e ∈ hs, HandOk K H e) → DpAll K H (hs.map fun e => V.ref e.p) (hs.map handD)
  | [], _ => .nil
  | e :: hs, h => .cons (h e List.mem_cons_self).dp (dpHands fun e he => h e (List.mem_cons_of_mem _ he))
theorem okSix : ∀ x ∈ six, PyData.strOk x = true := by decide +kernel
theorem okPool : ∀ x ∈ pool, PyData.strOk x = true := by decide +kernel
theorem nsSix : ∀ x ∈ six, NS x := fun x h => by
  rcases six_cases h with rfl | rfl | rfl | rfl | rfl | rfl <;> exact ns_by (by decide +kernel)
theorem nsPool : ∀ x ∈ pool, NS x := fun x h => by
  have h' : x = "a" ∨ x = "bo" ∨ x = "cy" := by simpa [pool] using h
  rcases h' with rfl | rfl | rfl <;> exact ns_by (by decide +kernel)
theorem canS : ∀ {ws : List Str}, (∀ x ∈ ws, x ∈ six) → PyData.canLayAll0 (ws.map .str) = true
  | [], _ => by simp [PyData.canLayAll0]
  | x :: ws, h => by
    have a := okSix x (h x List.mem_cons_self)
    have b := canS fun y hy => h y (List.mem_cons_of_mem _ hy)
    simp [PyData.canLayAll0, PyData.canLay0, a, b]
theorem depS : ∀ ws : List Str, PyData.depthAll (ws.map .str) = 0
  | [] => by simp [PyData.depthAll]
  | x :: ws => by simp [PyData.depthAll, PyData.depth, depS ws]
theorem canH : ∀ {hs : List HandE}, (∀ e ∈ hs, e.x ∈ pool ∧ ∀ w ∈ e.ws, w ∈ six) → PyData.canLayAll0 (hs.map handD) = true
  | [], _ => by simp [PyData.canLayAll0]
  | e :: hs, h => by
    have a := h e List.mem_cons_self
    have b := canH fun y hy => h y (List.mem_cons_of_mem _ hy)
    have c := okPool _ a.1
    have d := canS a.2
    simp [PyData.canLayAll0, PyData.canLay0, handD, b, c, d]
theorem depH : ∀ hs : List HandE, PyData.depthAll (hs.map handD) ≤ 2
  | [] => by simp [PyData.depthAll]
  | e :: hs => by
    have ih := depH hs
    simp only [List.map_cons, PyData.depthAll, PyData.depth, handD, depS]
    omega
theorem shH {hs : List HandE} (h : ∀ e ∈ hs, e.x ∈ pool ∧ ∀ w ∈ e.ws, w ∈ six) : SeqAt.shaped (.list (hs.map handD)) = true := by
  have a := depH hs
  simp [SeqAt.shaped, PyData.canLay0, canH h, PyData.depth]
  omega
theorem shS {ws : List Str} (h : ∀ x ∈ ws, x ∈ six) : SeqAt.shaped (.list (ws.map .str)) = true := by
  simp [SeqAt.shaped, PyData.canLay0, canS h, PyData.depth, depS]
theorem eqvE : ∀ ds : List PyData, PyData.eqv (.list ds) (.list []) = ds.isEmpty
  | [] => by simp [PyData.eqv, PyData.eqvAll]
  | d :: ds => by simp [PyData.eqv, PyData.eqvAll]
theorem sh0 : SeqAt.shaped (.list []) = true := by decide +kernel
theorem alikeS : ∀ us vs : List Str, PySem.W.alikeAll (us.map .str) (vs.map .str) = true
  | [], _ => by simp [PySem.W.alikeAll]
  | _ :: _, [] => by simp [PySem.W.alikeAll]
  | u :: us, v :: vs => by simp [PySem.W.alikeAll, PySem.W.alike, alikeS us vs]
theorem alikeH (e f : HandE) : PySem.W.alike (handD e) (handD f) = true := by simp [handD, PySem.W.alike, PySem.W.alikeAll, alikeS]
theorem alikeB (e f : BrE) : PySem.W.alike (brE e) (brE f) = true := by simp [brE, PySem.W.alike, PySem.W.alikeAll]
/-! ### a reading cut in two -/
def tCe (t : TE) : TE := fun σ H Q => ∃ M : VK, t σ H M ∧ ∀ v H', M v H' → Q v H'
theorem pe_cut {X : Cx} {e : Expr} {t : TE} (h : PE X e t) : PE X e (tCe t) := ⟨fun pins s σ H Q I ⟨M, m, k⟩ => thn (h.run pins s σ H M I m) fun _ _ ⟨x, H1, I1, r1, q1⟩ => ⟨x, H1, I1, r1, k x H1 q1⟩⟩
def TownGood (hs : List HandE) (bs : List BrE) : Prop := hs ≠ [] ∧ hs.length ≤ 3 ∧ (∀ e ∈ hs, e.x ∈ pool) ∧ bs.length ≤ 9 ∧ ∀ e ∈ bs, e.x ∈ pool ∧ e.y ∈ pool
def spTown (K : PySem.W.Frag) : Sp := fun vs H Q _ => ∃ (p c : Addr) (cells : List Int) (lim n : Int), vs = [.ref p, .int lim] ∧ Fd K H p c cells n ∧ 0 < lim ∧ lim ≤ 3 ∧ n ≤ 800000000 ∧ ∀ H' t hs bs, Sd H H' → Fd K H' p c cells (n + 200) → TownAt K H' t hs bs → TownGood hs bs → Q (.ref t) H'
abbrev NT : List Str := ["_law_feed_here", "_law_limit", "_law_pairs", "_law_bridges_now", "_law_pool", "_law_n", "_law_laws_now", "_law_m", "_law_rest", "_law_word_now"]
theorem scTown : FnScope NT ["_law_feed_here", "_law_limit"] (defScope sTown) := ⟨rfl, rfl, rfl, by decide +kernel, rfl, by decide +kernel, by decide +kernel⟩
/-- the town as it grows: the hands so far, the bridges so far -/
def TSt (K : PySem.W.Frag) (H0 : Hp) (p c : Addr) (cells : List Int) (lp lb : Addr) (hs : List HandE) (bs : List BrE) (m : Int) (H' : Hp) : Prop :=
  H' lp = some (.lst (hs.map fun e => V.ref e.p)) ∧ H' lb = some (.lst (bs.map fun e => V.ref e.p)) ∧ (∀ e ∈ hs, HandOk K H' e ∧ e.x ∈ pool) ∧ (∀ e ∈ bs, BrOk K H' e ∧ e.x ∈ pool ∧ e.y ∈ pool) ∧ Sd H0 H' ∧ Fd K H' p c cells m
section
variable {K : PySem.W.Frag} {H0 H' H'' : Hp} {p c lp lb : Addr} {cells : List Int} {hs : List HandE} {bs : List BrE} {m m' : Int}
theorem TSt.sd (h : TSt K H0 p c cells lp lb hs bs m H') (s : Sd H' H'') (f : Fd K H'' p c cells m') : TSt K H0 p c cells lp lb hs bs m' H'' := by
  obtain ⟨h1, h2, h3, h4, h5, h6⟩ := h
  exact ⟨s _ _ h1 (fun _ z => nomatch z), s _ _ h2 (fun _ z => nomatch z), fun e he => ⟨(h3 e he).1.tp s.tp, (h3 e he).2⟩, fun e he => ⟨(h4 e he).1.tp s.tp, (h4 e he).2⟩, h5.trans s, f⟩
theorem TSt.same (h : TSt K H0 p c cells lp lb hs bs m H') (s : Same H' H'') : TSt K H0 p c cells lp lb hs bs m H'' := h.sd (Sd.of_same s) (h.2.2.2.2.2.same s)
theorem TSt.own {D : Addr} {xs ys : List V} {n0 : Int} (h : TSt K H0 p c cells lp lb hs bs m H') (f0 : Fd K H0 p c cells n0) (hD : H0 D = none) (n1 : lp ≠ D) (n2 : lb ≠ D) (hx : H' D = some (.lst xs)) : TSt K H0 p c cells lp lb hs bs m (upd H' D (.lst ys)) := by
  obtain ⟨h1, h2, h3, h4, h5, h6⟩ := h
  have s := Tp.lst hx (.lst ys)
  exact ⟨by rw [upd_ne n1]; exact h1, by rw [upd_ne n2]; exact h2, fun e he => ⟨(h3 e he).1.tp s, (h3 e he).2⟩, fun e he => ⟨(h4 e he).1.tp s, (h4 e he).2⟩, h5.at hD _, f0.put hD h6 _⟩
theorem TSt.hand {n0 : Int} {e : HandE} (h : TSt K H0 p c cells lp lb hs bs m H') (f0 : Fd K H0 p c cells n0) (hD : H0 lp = none) (n1 : lp ≠ lb) (he : HandOk K H' e) (hx : e.x ∈ pool) : TSt K H0 p c cells lp lb (hs ++ [e]) bs m (upd H' lp (.lst ((hs.map fun e => V.ref e.p) ++ [.ref e.p]))) := by
  obtain ⟨h1, h2, h3, h4, h5, h6⟩ := h
  have s := Tp.lst h1 (.lst ((hs.map fun e => V.ref e.p) ++ [.ref e.p]))
  refine ⟨by rw [upd_same, List.map_append]; rfl, by rw [upd_ne n1.symm]; exact h2, fun f hf => ?_, fun f hf => ⟨(h4 f hf).1.tp s, (h4 f hf).2⟩, h5.at hD _, f0.put hD h6 _⟩
  rcases List.mem_append.mp hf with q | q
  · exact ⟨(h3 f q).1.tp s, (h3 f q).2⟩
  · rw [List.mem_singleton.mp q]
    exact ⟨he.tp s, hx⟩
theorem TSt.br {n0 : Int} {e : BrE} (h : TSt K H0 p c cells lp lb hs bs m H') (f0 : Fd K H0 p c cells n0) (hD : H0 lb = none) (n1 : lp ≠ lb) (he : BrOk K H' e) (hx : e.x ∈ pool) (hy : e.y ∈ pool) : TSt K H0 p c cells lp lb hs (bs ++ [e]) m (upd H' lb (.lst ((bs.map fun e => V.ref e.p) ++ [.ref e.p]))) := by
  obtain ⟨h1, h2, h3, h4, h5, h6⟩ := h
  have s := Tp.lst h2 (.lst ((bs.map fun e => V.ref e.p) ++ [.ref e.p]))
  refine ⟨by rw [upd_ne n1]; exact h1, by rw [upd_same, List.map_append]; rfl, fun f hf => ⟨(h3 f hf).1.tp s, (h3 f hf).2⟩, fun f hf => ?_, h5.at hD _, f0.put hD h6 _⟩
  rcases List.mem_append.mp hf with q | q
  · exact ⟨(h4 f q).1.tp s, (h4 f q).2⟩
  · rw [List.mem_singleton.mp q]
    exact ⟨he.tp s, hx, hy⟩
theorem TSt.mono (h : TSt K H0 p c cells lp lb hs bs m H') (e : m ≤ m') : TSt K H0 p c cells lp lb hs bs m' H' := by
  obtain ⟨h1, h2, h3, h4, h5, h6⟩ := h
  exact ⟨h1, h2, h3, h4, h5, h6.mono e⟩
end
section
variable {P : Program} {w : World} {K : PySem.W.Frag} {mg : Str → Option Value} {base : Heap}
theorem ok_town {f g l : Addr} {fd gd ld : FuncData} (F : Fun K "_law_town" "_law_town" sTown f fd) (D : FnOk P w K mg base CX0 1 g gd ["_law_feed_here", "_law_size"] (spDraw K)) (bD : Binds K gd ["_law_feed_here", "_law_size"] []) (kD : PySem.W.keepIn K (.ref g) = true)
    (mD : mg "_law_draw" = some (.ref g)) (L : FnOk P w K mg base CX0 2 l ld ["_law_feed_here"] (spLots K)) (bL : Binds K ld ["_law_feed_here"] []) (kL : PySem.W.keepIn K (.ref l) = true) (mL : mg "_law_lots" = some (.ref l))
    (ml : mg "len" = none) (mr : mg "range" = none) (mt : mg "tuple" = none) (ms : mg "sorted" = none) : FnOk P w K mg base CX0 (2 + 1) f fd ["_law_feed_here", "_law_limit"] (spTown K) := by
  refine F.ok scTown (fun vs H Q E h => ?_) (fun cdv A outer s H vs Q E hr h => ?_)
  · obtain ⟨p, c, cells, lim, n, rfl, _⟩ := h
    rfl
  obtain ⟨p, c, cells, lim, n, rfl, hF, hl0, hl3, hn, q⟩ := h
  have hr1 := hr.mono (show 1 ≤ 2 by decide)
  have nd := scTown.nd
  refine ⟨_, pss_cons (ps_asg (pe_tup (pa_cons (pe_lst pa_nil) (pa_cons (pe_lst pa_nil) (pa_cons (pe_lst (pa_cons pe_str (pa_cons pe_str (pa_cons pe_str pa_nil)))) pa_nil))))
      (pg_tup rfl (pgs_cons (pg_name (i := 2) nd rfl (.inr rfl)) (pgs_cons (pg_name (i := 3) nd rfl (.inl rfl)) (pgs_cons (pg_name (i := 4) nd rfl (.inl rfl)) pgs_nil)))))
    (pss_cons (ps_for PassesOwn.never rfl (pi_range1 (by rfl) mr (pa_cons (pe_op op_add pe_int (pe_call D hr1 (by rfl) mD kD bD .nil pass0 (pa_cons (pv 0) (pa_cons (pv 1) pa_nil)))) pa_nil)) (pg_name (i := 5) nd rfl (.inl rfl))
      (pss_cons (ps_set (i := 6) nd rfl (.inr rfl) (pe_call L hr (by rfl) mL kL bL .nil pass0 (pa_cons (pv 0) pa_nil)))
      (C8.pss_cut (ps_if (PW.pt (pw_and (pt_cmpR (op_neD hr.units) (pv 2) (pe_lst pa_nil) (nomark _)) (pw_and1 (pt_cmpR op_eq (pe_call D hr1 (by rfl) mD kD bD .nil pass0 (pa_cons (pv 0) (pa_cons pe_int pa_nil))) pe_int (nomark _)))))
          (pss_one (ps_set (i := 6) nd rfl (.inr rfl) (pe_callTy call_tuple_of (by rfl) mt (by decide +kernel) (pa_cons (pe_lc (own := [("_law_word_now", 9)]) (g := gName 9) rfl nd (pi_tup (pe_ix ix_tup (pe_ix ix_list (pv 2) pe_int (fun _ _ => rfl)) pe_int (fun _ _ => rfl)))
            (blkOk_by (N := NT) (sc := defScope sTown) (by decide +kernel)) (fun _ _ _ _ _ => pg_name (i := 9) nd rfl (Or.inl rfl))
            (fun _ _ _ _ _ => pts_one (pt_cmpR (r := rIn K false) op_in_seq (pv 9) (pe_cut <| pe_op (r := rCatA K) op_catA (pv 6) (pe_tup (pa_cons pe_str (pa_cons pe_str pa_nil)))) (by rfl))) (fun _ _ _ _ _ => pv 9)) pa_nil)))) pss_nil)
      (pss_one (ps_expr (pe_bm PySem.F.plainAttrs_list PySem.F.slot_list_append PySem.F.type_list_append mt_append (pv 2) (pa_cons (pe_tup (pa_cons
          (pe_bm PySem.F.plainAttrs_list PySem.F.slot_list_pop PySem.F.type_list_pop mt_popAt (pv 4) (pa_cons (pe_call D hr1 (by rfl) mD kD bD .nil pass0 (pa_cons (pv 0) (pa_cons (pe_callB call_len_seq (by rfl) ml PySem.boot_len (pa_cons (pv 4) pa_nil)) pa_nil))) pa_nil))
          (pa_cons (pv 6) pa_nil))) pa_nil)))))))
    (pss_cons (ps_for PassesOwn.never rfl (pi_range1 (by rfl) mr (pa_cons (pe_callB call_len_seq (by rfl) ml PySem.boot_len (pa_cons (pv 2) pa_nil)) pa_nil)) (pg_name (i := 5) nd rfl (.inl rfl))
      (pss_one (ps_for PassesOwn.never rfl (pi_range1 (by rfl) mr (pa_cons (pv 5) pa_nil)) (pg_name (i := 7) nd rfl (.inr rfl))
        (pss_cons (ps_setLc (i := 8) (own := [("_law_word_now", 9)]) (g := gName 9) rfl nd rfl rfl (sw_true rfl rfl rfl (by decide +kernel)) (pi_tup (pe_ix ix_tup (pe_ix ix_list (pv 2) (pv 5) (fun _ _ => rfl)) pe_int (fun _ _ => rfl)))
            (blkOk_by (N := NT) (sc := defScope sTown) (by decide +kernel)) (fun _ _ _ _ _ => pg_name (i := 9) nd rfl (Or.inl rfl))
            (fun _ _ _ _ _ => pts_one (pt_cmpR (r := rIn K true) op_notIn_seq (pv 9) (pe_cut <| pe_op (r := rCatA K) op_catA (pe_ix (r := rIxT K) ix_tup (pe_ix (r := rIxL K) ix_list (pv 2) (pv 7) (fun _ _ => rfl)) pe_int (fun _ _ => rfl)) (pe_tup (pa_cons pe_str pa_nil))) (by rfl))) (fun _ _ _ _ _ => pv 9))
        (pss_one (ps_if (PW.pt (pw_and (pt_cmpR op_notIn_seq pe_str (pe_cut <| pe_op op_catA (pe_ix ix_tup (pe_ix ix_list (pv 2) (pv 7) (fun _ _ => rfl)) pe_int (fun _ _ => rfl)) (pe_ix ix_tup (pe_ix ix_list (pv 2) (pv 5) (fun _ _ => rfl)) pe_int (fun _ _ => rfl))) (by rfl))
            (pw_and (pt_cmpR (op_eqD hr.units) (pv 8) (pe_lst pa_nil) (nomark _)) (pw_and1 (pt_cmpR op_gt (pe_call D hr1 (by rfl) mD kD bD .nil pass0 (pa_cons (pv 0) (pa_cons pe_int pa_nil))) pe_int (nomark _))))))
          (pss_one (ps_expr (pe_bm PySem.F.plainAttrs_list PySem.F.slot_list_append PySem.F.type_list_append mt_append (pv 3) (pa_cons (pe_tup (pa_cons (pe_ix ix_tup (pe_ix ix_list (pv 2) (pv 7) (fun _ _ => rfl)) pe_int (fun _ _ => rfl)) (pa_cons (pe_ix ix_tup (pe_ix ix_list (pv 2) (pv 5) (fun _ _ => rfl)) pe_int (fun _ _ => rfl)) pa_nil))) pa_nil))))
          pss_nil))))))
    (pss_one (ps_ret (pe_tup (pa_cons (pe_callTy call_tupleF (by rfl) mt (by decide +kernel) (pa_cons (pe_callB call_sortedD (by rfl) ms (by decide +kernel) (pa_cons (pv 2) pa_nil)) pa_nil))
      (pa_cons (pe_callTy call_tupleF (by rfl) mt (by decide +kernel) (pa_cons (pe_callB call_sortedD (by rfl) ms (by decide +kernel) (pa_cons (pv 3) pa_nil)) pa_nil)) pa_nil))))))), ?_⟩
  -- pairs, bridges, pool
  refine ⟨zz0, fun lp np => ⟨zz0, fun lb nb => ⟨zz3, fun lq nq => ⟨zz3, fun t0 nt => ⟨t0, _, rfl, .inl (.inl upd_same), rfl, _, _, rfl, _, _, rfl, _, [], rfl, rfl, ?_⟩⟩⟩⟩⟩
  have w1 := same_new np (.lst [])
  have w2 := w1.trans (same_new nb (.lst []))
  have w3 := w2.trans (same_new nq (.lst [.str "a", .str "bo", .str "cy"]))
  have w4 := w3.trans (same_new nt (.tup [.ref lp, .ref lb, .ref lq]))
  have ep : (upd (upd (upd (upd H lp (.lst [])) lb (.lst [])) lq (.lst [.str "a", .str "bo", .str "cy"])) t0 (.tup [.ref lp, .ref lb, .ref lq])) lp = some (.lst []) := same_new nt _ _ _ (same_new nq _ _ _ (same_new nb _ _ _ upd_same))
  have eb : (upd (upd (upd (upd H lp (.lst [])) lb (.lst [])) lq (.lst [.str "a", .str "bo", .str "cy"])) t0 (.tup [.ref lp, .ref lb, .ref lq])) lb = some (.lst []) := same_new nt _ _ _ (same_new nq _ _ _ upd_same)
  have eq : (upd (upd (upd (upd H lp (.lst [])) lb (.lst [])) lq (.lst [.str "a", .str "bo", .str "cy"])) t0 (.tup [.ref lp, .ref lb, .ref lq])) lq = some (.lst [.str "a", .str "bo", .str "cy"]) := same_new nt _ _ _ upd_same
  have npb : lp ≠ lb := ne_of_none upd_same nb
  have npq : lp ≠ lq := ne_of_none (same_new nb (.lst []) _ _ upd_same) nq
  have nbq : lb ≠ lq := ne_of_none upd_same nq
  have hb0 : H lb = none := w1.free nb
  have hq0 : H lq = none := w2.free nq
  generalize upd (upd (upd (upd H lp (.lst [])) lb (.lst [])) lq (.lst [.str "a", .str "bo", .str "cy"])) t0 (.tup [.ref lp, .ref lb, .ref lq]) = H4 at w4 ep eb eq
  clear w1 w2 w3 nt nq nb
  have f4 : Fd K H4 p c cells n := hF.same w4
  -- for n in range(1 + draw)
  refine ⟨_, rfl, _, rfl, p, c, cells, lim, n, rfl, f4, hl0, by omega, by omega, fun H5 j s5 f5 j0 jl => ⟨_, _, rfl, rfl, _, rfl, by omega, by omega, ?_⟩⟩
  refine for_range (lo := 0) (n := (1 + j).toNat) (fun i σ' H' => ∃ (hs : List HandE) (qs : List Str), (∃ y5 y6, σ' = [some (.ref p), some (.int lim), some (.ref lp), some (.ref lb), some (.ref lq), y5, y6, none, none, none]) ∧
      TSt K H p c cells lp lb hs [] (n + 1 + 20 * i) H' ∧ H' lq = some (.lst (qs.map V.str)) ∧ hs.length = i ∧ qs.length + i = 3 ∧ (hs.map (·.x) ++ qs).Nodup ∧ (∀ x ∈ qs, x ∈ pool))
    ⟨[], pool, ⟨_, _, rfl⟩, ⟨s5 _ _ ep (fun _ z => nomatch z), s5 _ _ eb (fun _ z => nomatch z), by simp, by simp, (Sd.of_same w4).trans s5, f5.mono (by omega)⟩, s5 _ _ eq (fun _ z => nomatch z), rfl, rfl, by decide, fun x h => h⟩
    (fun i σ' H' hi hp => ?_) (fun σ' H' hp => ?_)
  · obtain ⟨hs, qs, ⟨y5, y6, rfl⟩, hT, hq, hlen, hql, hnd, hqp⟩ := hp
    have hi3 : i < 3 := by omega
    -- laws_now = lots(feed)
    refine ⟨_, rfl, p, c, cells, n + 1 + 20 * i, rfl, hT.2.2.2.2.2, by omega, fun H6 ra ws s6 f6 hws hwl hw6 => ?_⟩
    have hT6 := hT.sd s6 f6
    have hq6 := s6 _ _ hq (fun _ z => nomatch z)
    refine ⟨fun σ' H7 => ∃ (rb : Addr) (us : List Str), σ' = [some (.ref p), some (.int lim), some (.ref lp), some (.ref lb), some (.ref lq), some (.int (0 + i)), some (.ref rb), none, none, none] ∧ SqT K H7 rb (us.map V.str) ∧ us.length ≤ 5 ∧ (∀ x ∈ us, x ∈ six) ∧
      TSt K H p c cells lp lb hs [] (n + 1 + 20 * i + 7) H7 ∧ H7 lq = some (.lst (qs.map V.str)), ?_, ?_⟩
    · refine ⟨_, rfl, zz0, fun r nr => ?_⟩
      have hT7 := hT6.same (same_new nr (.lst []))
      have hq7 := same_new nr (.lst []) _ _ hq6
      have hw7 := (Sd.new nr (.lst [])).tup hws
      refine ⟨.list (hs.map handD), .list [], .lst (.inl (.inl hT7.1)) (dpHands fun e he => (hT7.2.2.1 e he).1), .lst (.inl (.inl upd_same)) .nil, shH (fun e he => ⟨(hT7.2.2.1 e he).2, (hT7.2.2.1 e he).1.2.2.2⟩), sh0, _, rfl, ?_⟩
      rw [eqvE]
      cases hs with
      | nil => exact iteF ⟨ra, ws, rfl, hw7, hwl, hw6, hT7.mono (by omega), hq7⟩
      | cons e0 hs' =>
        refine iteT ⟨_, rfl, p, c, cells, 2, n + 1 + 20 * i + 6, rfl, hT7.2.2.2.2.2, by decide, by decide, by omega, fun H8 j8 s8 f8 j80 j82 => ⟨rfl, _, rfl, ite2 (fun c2 => ?_) (fun c2 => ?_)⟩⟩
        · have hT8 := hT7.sd s8 f8
          have hq8 := s8 _ _ hq7 (fun _ z => nomatch z)
          have hw8 := s8.tup hw7
          obtain ⟨⟨g1, g2, g3, g4⟩, _⟩ := hT8.2.2.1 e0 List.mem_cons_self
          refine ⟨_, rfl, lp, _, 0, .ref e0.p, rfl, rfl, .inl (.inl hT8.1), at_of (j := 0) rfl rfl, e0.p, _, 1, .ref e0.r, rfl, rfl, g1, rfl, e0.r, rfl, ⟨_, g2⟩, fun D9 hD9 => ?_⟩
          refine lc_tup (K := K) (a := e0.r) (xs := e0.ws.map V.str) (fun i9 H9 => ∃ vs : List Str, H9 D9 = some (.lst (vs.map V.str)) ∧ vs.length ≤ i9 ∧ (∀ x ∈ vs, x ∈ six) ∧ Same H8 H9)
            ⟨[], upd_same, Nat.zero_le _, by simp, same_new hD9 _⟩ (fun i9 H9 _ ⟨vs, _, _, _, sm⟩ => (Sd.of_same sm).tup g2) (fun i9 x9 H9 hx9 ⟨vs, hl9, hz9, hm9, sm⟩ => ?_) (fun H9 ⟨vs, hl9, hz9, hm9, sm⟩ => ?_)
          · have hi9 := (List.getElem?_eq_some_iff.mp hx9).1
            rw [List.length_map] at hi9
            obtain ⟨y, hy, rfl⟩ := List.mem_map.mp (List.mem_of_getElem? hx9)
            refine ⟨rfl, _, rfl, ?_⟩
            refine ⟨fun v H10 => ∃ z zs, v = .ref z ∧ SqT K H10 z zs ∧ zs.all flatV = true ∧ Same H9 H10, ?_, ?_⟩
            · have hwA := (Sd.of_same sm).tup hw8
              refine ⟨_, rfl, zz2, fun u nu => ⟨ra, u, _, _, rfl, rfl, (Sd.new nu _).tup hwA, .inl (.inl upd_same), ?_, fun e => ?_, fun _ e => ?_, fun _ _ z nz => ?_⟩⟩
              · rw [List.length_map]
                exact Nat.le_of_lt (small1000 (by simp only [List.length_cons, List.length_nil]; omega))
              · exact ⟨u, _, rfl, .inl (.inl upd_same), rfl, same_new nu _⟩
              · cases e
              · refine ⟨z, _, rfl, .inl (.inl upd_same), ?_, (same_new nu _).trans (same_new nz _)⟩
                rw [List.all_append, flat_str]
                rfl
            rintro v H10 ⟨z, zs, rfl, hz, hfz, s10⟩
            have sm10 := sm.trans s10
            have hl10 := s10 _ _ hl9
            refine ⟨z, _, rfl, .inr hz, rfl, hfz, _, rfl, ite2 (fun ca => ⟨_, rfl, _, hl10, ?_, vs ++ [y], ?_, ?_, ?_, ?_⟩) (fun ca => ⟨vs, hl10, by omega, hm9, sm10⟩)⟩
            · rw [List.length_map]
              exact small1000 (by omega)
            · rw [List.map_append, upd_same]
              rfl
            · rw [List.length_append]
              exact Nat.succ_le_succ hz9
            · intro x hx
              rcases List.mem_append.mp hx with h | h
              · exact hm9 x h
              · rw [List.mem_singleton.mp h]
                exact g4 y hy
            · intro b u e
              rw [upd_ne (ne_of_none e hD9)]
              exact sm10 _ _ e
          · rw [List.length_map] at hz9
            refine ⟨D9, _, rfl, .inl ⟨.inl (.inl hl9), fun z nz => ?_⟩⟩
            have sz := sm.trans (same_new nz (.tup (vs.map V.str)))
            exact ⟨z, vs, rfl, .inl (.inl upd_same), by omega, hm9, (hT8.same sz).mono (by omega), sz _ _ hq8⟩
        · exact ⟨ra, ws, rfl, s8.tup hw7, hwl, hw6, (hT7.sd s8 f8).mono (by omega), s8 _ _ hq7 (fun _ z => nomatch z)⟩
    · rintro σ' H7 ⟨rb, us, rfl, hus, hul, hu6, hT7, hq7⟩
      have hqn : 0 < qs.length := by omega
      refine ⟨_, rfl, .inl ⟨rfl, _, .inl (.inl hT7.1)⟩, _, rfl, .inl ⟨rfl, _, .inl (.inl hq7)⟩, _, rfl, _, rfl, lq, _, rfl, .inl (.inl (.inl hq7)), p, c, cells, _, n + 1 + 20 * i + 7, rfl, hT7.2.2.2.2.2, ?_, ?_, by omega, fun H8 k s8 f8 k0 kl => ?_⟩
      · rw [List.length_map]
        omega
      · rw [List.length_map]
        omega
      have hT8 := hT7.sd s8 f8
      have hq8 := s8 _ _ hq7 (fun _ z => nomatch z)
      have hus8 := s8.tup hus
      have kl' : k.toNat < qs.length := by
        rw [List.length_map] at kl
        omega
      have hy : qs[k.toNat]? = some qs[k.toNat] := List.getElem?_eq_getElem kl'
      generalize qs[k.toNat] = y at hy
      refine ⟨lq, _, k, k.toNat, .str y, rfl, rfl, hq8, by omega, by rw [List.length_map] at kl; omega, seq_at k0 kl, by rw [List.getElem?_map, hy]; rfl, ?_⟩
      rw [erase_map]
      refine ⟨_, rfl, zz2, fun t nt => ?_⟩
      have hT9 := hT8.own (ys := (qs.eraseIdx k.toNat).map V.str) hF hq0 npq nbq hq8
      have hus9 := (Tp.lst hq8 (.lst ((qs.eraseIdx k.toNat).map V.str))).tup hus8
      have hqA := same_new nt (.tup [.str y, .ref rb]) _ _ (upd_same (H := H8) (a := lq) (o := .lst ((qs.eraseIdx k.toNat).map V.str)))
      have hTA := hT9.same (same_new nt (.tup [.str y, .ref rb]))
      have husA := (Sd.new nt (.tup [.str y, .ref rb])).tup hus9
      have hyp : y ∈ pool := hqp y (List.mem_of_getElem? hy)
      have hE : HandOk K (upd (upd H8 lq (.lst ((qs.eraseIdx k.toNat).map V.str))) t (.tup [.str y, .ref rb])) ⟨t, y, rb, us⟩ := ⟨.inl (.inl upd_same), husA, hul, hu6⟩
      have pm := erase_perm qs k.toNat y hy
      refine ⟨lp, _, _, rfl, rfl, hTA.1, by rw [List.length_map]; exact small1000 (by omega), hs ++ [⟨t, y, rb, us⟩], qs.eraseIdx k.toNat, ⟨_, _, rfl⟩, (hTA.hand hF np npb hE hyp).mono (by omega), by rw [upd_ne npq.symm]; exact hqA, by simp [hlen], ?_, ?_, fun x hx => hqp x (List.mem_of_mem_eraseIdx hx)⟩
      · have e := pm.length_eq
        rw [List.length_cons] at e
        omega
      · rw [List.map_append, List.append_assoc]
        exact ((pm.append_left _).nodup_iff).mpr hnd
  · obtain ⟨hs, qs, ⟨y5, y6, rfl⟩, hT, hq, hlen, hql, hnd, hqp⟩ := hp
    have hne : hs ≠ [] := fun z => by
      rw [z] at hlen
      simp only [List.length_nil] at hlen
      omega
    have hl3' : hs.length ≤ 3 := by omega
    have hT5 := hT.mono (show n + 1 + 20 * (((1 + j).toNat : Nat) : Int) ≤ n + 61 by omega)
    clear hT hq hql hqp
    -- for n in range(len(pairs))
    refine ⟨_, rfl, lp, _, rfl, .inl (.inl (.inl hT5.1)), _, rfl, by omega, by rw [List.length_map]; omega, ?_⟩
    refine for_range (lo := 0) (n := (((hs.map fun e => V.ref e.p).length : Nat) : Int).toNat) (fun i σ' H' => ∃ bs : List BrE, (∃ y5 y6 y7 y8, σ' = [some (.ref p), some (.int lim), some (.ref lp), some (.ref lb), some (.ref lq), y5, y6, y7, y8, none]) ∧
        TSt K H p c cells lp lb hs bs (n + 61 + 3 * i) H' ∧ bs.length ≤ 3 * i)
      ⟨[], ⟨_, _, _, _, rfl⟩, hT5.mono (by omega), by simp⟩ (fun i σ' H' hi hp => ?_) (fun σ' H' hp => ?_)
    · obtain ⟨bs, ⟨z5, z6, z7, z8, rfl⟩, hT6, hbl⟩ := hp
      rw [List.length_map] at hi
      have hi' : i < hs.length := by omega
      have hn' : hs[i]? = some hs[i] := List.getElem?_eq_getElem hi'
      generalize hs[i] = en at hn'
      have men := List.mem_of_getElem? hn'
      have hn2 : (hs.map fun e => V.ref e.p)[i]? = some (.ref en.p) := by rw [List.getElem?_map, hn']; rfl
      refine ⟨_, rfl, _, rfl, by omega, by omega, ?_⟩
      refine for_range (lo := 0) (n := ((0 : Int) + i).toNat) (fun m σ' H' => ∃ bs : List BrE, (∃ y6 y7 y8, σ' = [some (.ref p), some (.int lim), some (.ref lp), some (.ref lb), some (.ref lq), some (.int (0 + i)), y6, y7, y8, none]) ∧
          TSt K H p c cells lp lb hs bs (n + 61 + 3 * i + m) H' ∧ bs.length ≤ 3 * i + m)
        ⟨bs, ⟨_, _, _, rfl⟩, hT6.mono (by omega), by omega⟩ (fun m σ' H' hm hp => ?_) (fun σ' H' hp => ?_)
      · obtain ⟨bs, ⟨z6, z7, z8, rfl⟩, hT7, hbl⟩ := hp
        have hm' : m < hs.length := by omega
        have hm1 : hs[m]? = some hs[m] := List.getElem?_eq_getElem hm'
        generalize hs[m] = em at hm1
        have mem := List.mem_of_getElem? hm1
        have hm2 : (hs.map fun e => V.ref e.p)[m]? = some (.ref em.p) := by rw [List.getElem?_map, hm1]; rfl
        obtain ⟨⟨gn1, gn2, gn3, gn4⟩, gn5⟩ := hT7.2.2.1 en men
        obtain ⟨⟨gm1, gm2, gm3, gm4⟩, gm5⟩ := hT7.2.2.1 em mem
        -- rest = [..]
        refine ⟨_, rfl, _, rfl, lp, _, _, .ref en.p, rfl, rfl, .inl (.inl hT7.1), at_of (j := i) (by omega) hn2, en.p, _, 1, .ref en.r, rfl, rfl, gn1, rfl, en.r, rfl, ⟨_, gn2⟩, fun D hD => ?_⟩
        refine lc_tup (K := K) (a := en.r) (xs := en.ws.map V.str) (fun i9 H9 => ∃ vs : List Str, H9 D = some (.lst (vs.map V.str)) ∧ vs.length ≤ i9 ∧ (∀ x ∈ vs, x ∈ six) ∧ Same H' H9)
          ⟨[], upd_same, Nat.zero_le _, by simp, same_new hD _⟩ (fun i9 H9 _ ⟨vs, _, _, _, sm⟩ => (Sd.of_same sm).tup gn2) (fun i9 x9 H9 hx9 ⟨vs, hl9, hz9, hm9, sm⟩ => ?_) (fun H9 ⟨vs, hl9, hz9, hm9, sm⟩ => ?_)
        · have hi9 := (List.getElem?_eq_some_iff.mp hx9).1
          rw [List.length_map] at hi9
          obtain ⟨y, hy, rfl⟩ := List.mem_map.mp (List.mem_of_getElem? hx9)
          refine ⟨rfl, _, rfl, ?_⟩
          have hT9 := hT7.same sm
          refine ⟨fun v H10 => ∃ z zs, v = .ref z ∧ SqT K H10 z zs ∧ zs.all flatV = true ∧ Same H9 H10, ?_, ?_⟩
          · refine ⟨_, rfl, _, rfl, lp, _, _, .ref em.p, rfl, rfl, .inl (.inl hT9.1), at_of (j := m) (by omega) hm2, em.p, _, 1, .ref em.r, rfl, rfl, (Sd.of_same sm).tup gm1, rfl, ?_⟩
            refine ⟨by show 1 ≤ sizeLine; decide, fun u nu => ⟨em.r, u, _, _, rfl, rfl, (Sd.new nu _).tup ((Sd.of_same sm).tup gm2), .inl (.inl upd_same), ?_, fun e => ?_, fun _ e => ?_, fun _ _ z nz => ?_⟩⟩
            · rw [List.length_map]
              exact Nat.le_of_lt (small1000 (by simp only [List.length_cons, List.length_nil]; omega))
            · exact ⟨u, _, rfl, .inl (.inl upd_same), rfl, same_new nu _⟩
            · cases e
            · refine ⟨z, _, rfl, .inl (.inl upd_same), ?_, (same_new nu _).trans (same_new nz _)⟩
              rw [List.all_append, flat_str]
              rfl
          rintro v H10 ⟨z, zs, rfl, hz, hfz, s10⟩
          have sm10 := sm.trans s10
          have hl10 := s10 _ _ hl9
          refine ⟨z, _, rfl, .inr hz, rfl, hfz, _, rfl, ite2 (fun ca => ⟨_, rfl, _, hl10, ?_, vs ++ [y], ?_, ?_, ?_, ?_⟩) (fun ca => ⟨vs, hl10, by omega, hm9, sm10⟩)⟩
          · rw [List.length_map]
            exact small1000 (by omega)
          · rw [List.map_append, upd_same]
            rfl
          · rw [List.length_append]
            exact Nat.succ_le_succ hz9
          · intro x hx
            rcases List.mem_append.mp hx with h | h
            · exact hm9 x h
            · rw [List.mem_singleton.mp h]
              exact gn4 y hy
          · intro b u e
            rw [upd_ne (ne_of_none e hD)]
            exact sm10 _ _ e
        · -- if 'ends' not in .. and rest == [] and draw > 0
          have hT9 := hT7.same sm
          have gm2' := (Sd.of_same sm).tup gm2
          have gn2' := (Sd.of_same sm).tup gn2
          refine ⟨fun v H10 => ∃ z zs, v = .ref z ∧ SqT K H10 z zs ∧ zs.all flatV = true ∧ Same H9 H10, ?_, ?_⟩
          · refine ⟨_, rfl, _, rfl, lp, _, _, .ref em.p, rfl, rfl, .inl (.inl hT9.1), at_of (j := m) (by omega) hm2, em.p, _, 1, .ref em.r, rfl, rfl, (Sd.of_same sm).tup gm1, rfl, ?_⟩
            refine ⟨_, rfl, _, rfl, lp, _, _, .ref en.p, rfl, rfl, .inl (.inl hT9.1), at_of (j := i) (by omega) hn2, en.p, _, 1, .ref en.r, rfl, rfl, (Sd.of_same sm).tup gn1, rfl, ?_⟩
            refine ⟨em.r, en.r, _, _, rfl, rfl, gm2', gn2', ?_, fun e => ?_, fun _ e => ?_, fun _ _ z nz => ?_⟩
            · rw [List.length_map, List.length_map]
              exact Nat.le_of_lt (small1000 (by omega))
            · exact ⟨en.r, _, rfl, gn2', flat_str _, Same.refl _⟩
            · exact ⟨em.r, _, rfl, gm2', flat_str _, Same.refl _⟩
            · refine ⟨z, _, rfl, .inl (.inl upd_same), ?_, same_new nz _⟩
              rw [List.all_append, flat_str, flat_str]
              rfl
          rintro v H10 ⟨z, zs, rfl, hz, hfz, s10⟩
          have hT10 := hT9.same s10
          have hl10 := s10 _ _ hl9
          refine ⟨z, _, rfl, .inr hz, rfl, hfz, _, rfl, ite2 (fun ca => ?_) (fun ca => iteF ⟨bs, ⟨_, _, _, rfl⟩, hT10.mono (by omega), by omega⟩)⟩
          refine ⟨_, rfl, zz0, fun r nr => ?_⟩
          have hT11 := hT10.same (same_new nr (.lst []))
          refine ⟨.list (vs.map .str), .list [], .lst (.inl (.inl (same_new nr _ _ _ hl10))) (dpStrs vs), .lst (.inl (.inl upd_same)) .nil, shS hm9, sh0, _, rfl, ite2 (fun cb => ?_) (fun cb => iteF ⟨bs, ⟨_, _, _, rfl⟩, hT11.mono (by omega), by omega⟩)⟩
          refine ⟨_, rfl, p, c, cells, 3, n + 61 + 3 * i + m, rfl, hT11.2.2.2.2.2, by decide, by decide, by omega, fun H12 k s12 f12 k0 k3 => ⟨_, _, rfl, rfl, _, rfl, ite2 (fun cc => ?_) (fun cc => ⟨bs, ⟨_, _, _, rfl⟩, (hT11.sd s12 f12).mono (by omega), by omega⟩)⟩⟩
          have hT12 := hT11.sd s12 f12
          obtain ⟨⟨kn1, _⟩, _⟩ := hT12.2.2.1 en men
          obtain ⟨⟨km1, _⟩, _⟩ := hT12.2.2.1 em mem
          refine ⟨_, rfl, .inl ⟨rfl, _, .inl (.inl hT12.2.1)⟩, ?_⟩
          refine ⟨_, rfl, _, rfl, lp, _, _, .ref em.p, rfl, rfl, .inl (.inl hT12.1), at_of (j := m) (by omega) hm2, em.p, _, 0, .str em.x, rfl, rfl, km1, rfl, ?_⟩
          refine ⟨_, rfl, _, rfl, lp, _, _, .ref en.p, rfl, rfl, .inl (.inl hT12.1), at_of (j := i) (by omega) hn2, en.p, _, 0, .str en.x, rfl, rfl, kn1, rfl, zz2, fun t nt => ?_⟩
          have hT13 := hT12.same (same_new nt (.tup [.str em.x, .str en.x]))
          refine ⟨lb, _, _, rfl, rfl, hT13.2.1, by rw [List.length_map]; exact small1000 (by omega), bs ++ [⟨t, em.x, en.x⟩], ⟨_, _, _, rfl⟩, (hT13.br (e := ⟨t, em.x, en.x⟩) hF hb0 npb ⟨.inl (.inl upd_same), okPool _ gm5, okPool _ gn5⟩ gm5 gn5).mono (by omega), by rw [List.length_append]; simp only [List.length_cons, List.length_nil]; omega⟩
      · obtain ⟨bs, ⟨z6, z7, z8, rfl⟩, hT7, hbl⟩ := hp
        exact ⟨bs, ⟨_, _, _, _, rfl⟩, hT7.mono (by omega), by omega⟩
    · obtain ⟨bs, ⟨z5, z6, z7, z8, rfl⟩, hT6, hbl⟩ := hp
      rw [List.length_map] at hbl hT6
      have hn9 := hr.un
      -- the two are sorted, told as tuples
      refine ⟨_, rfl, lp, hs.map fun e => (V.ref e.p, handD e), rfl, by rw [List.map_map]; exact .inl (.inl hT6.1), ?_, ?_, ?_, ?_, fun cs p1 ecs np1 => ?_⟩
      · intro b hb
        obtain ⟨e, he, rfl⟩ := List.mem_map.mp hb
        exact (hT6.2.2.1 e he).1.dp
      · intro d hd d' hd'
        rw [List.map_map] at hd hd'
        obtain ⟨e, _, rfl⟩ := List.mem_map.mp hd
        obtain ⟨e', _, rfl⟩ := List.mem_map.mp hd'
        exact alikeH e e'
      · refine .inl fun d hd => ?_
        rw [List.map_map] at hd
        obtain ⟨e, _, rfl⟩ := List.mem_map.mp hd
        exact ⟨_, _, rfl⟩
      · intro b hb
        obtain ⟨e, _, rfl⟩ := List.mem_map.mp hb
        have hd : (handD e).depth = 2 := by simp [handD, PyData.depth, PyData.depthAll, depS]
        show (A.deeper (envOfC "_law_town" (defScope sTown) s.heap.objs.size f cdv)).units + 2 + (handD e).depth < cLine
        rw [hd]
        omega
      have pc : (hs.map fun e => (V.ref e.p, handD e)).Perm cs := by
        rw [ecs]
        exact (List.mergeSort_perm _ _).symm
      obtain ⟨hs', ph, rfl⟩ := perm_ex pc rfl
      have em1 : (hs'.map fun e => (V.ref e.p, handD e)).map (·.1) = hs'.map fun e => V.ref e.p := by rw [List.map_map]; rfl
      rw [em1] at *
      have g1 := same_new np1 (.lst (hs'.map fun e => V.ref e.p))
      refine ⟨p1, _, rfl, .inl (.inl upd_same), fun a1 o1 ho1 na1 => ?_⟩
      have g2 := g1.trans (same_new na1 (.frz o1 (.tup (hs'.map fun e => V.ref e.p))))
      have hT7 := hT6.same g2
      have ea1 := upd_same (H := upd H' p1 (.lst (hs'.map fun e => V.ref e.p))) (a := a1) (o := .frz o1 (.tup (hs'.map fun e => V.ref e.p)))
      generalize upd (upd H' p1 (.lst (hs'.map fun e => V.ref e.p))) a1 (.frz o1 (.tup (hs'.map fun e => V.ref e.p))) = H7 at g2 hT7 ea1
      refine ⟨_, rfl, lb, bs.map fun e => (V.ref e.p, brE e), rfl, by rw [List.map_map]; exact .inl (.inl hT7.2.1), ?_, ?_, ?_, ?_, fun cs2 p2 ecs2 np2 => ?_⟩
      · intro b hb
        obtain ⟨e, he, rfl⟩ := List.mem_map.mp hb
        exact (hT7.2.2.2.1 e he).1.dp
      · intro d hd d' hd'
        rw [List.map_map] at hd hd'
        obtain ⟨e, _, rfl⟩ := List.mem_map.mp hd
        obtain ⟨e', _, rfl⟩ := List.mem_map.mp hd'
        exact alikeB e e'
      · refine .inl fun d hd => ?_
        rw [List.map_map] at hd
        obtain ⟨e, _, rfl⟩ := List.mem_map.mp hd
        exact ⟨_, _, rfl⟩
      · intro b hb
        obtain ⟨e, _, rfl⟩ := List.mem_map.mp hb
        have hd : (brE e).depth = 1 := by simp [brE, PyData.depth, PyData.depthAll]
        show (A.deeper (envOfC "_law_town" (defScope sTown) s.heap.objs.size f cdv)).units + 2 + (brE e).depth < cLine
        rw [hd]
        omega
      have pc2 : (bs.map fun e => (V.ref e.p, brE e)).Perm cs2 := by
        rw [ecs2]
        exact (List.mergeSort_perm _ _).symm
      obtain ⟨bs', pb, rfl⟩ := perm_ex pc2 rfl
      have em2 : (bs'.map fun e => (V.ref e.p, brE e)).map (·.1) = bs'.map fun e => V.ref e.p := by rw [List.map_map]; rfl
      rw [em2]
      have g3 := same_new np2 (.lst (bs'.map fun e => V.ref e.p))
      refine ⟨p2, _, rfl, .inl (.inl upd_same), fun a2 o2 ho2 na2 => ⟨zz2, fun t nt => ?_⟩⟩
      have g4 := g3.trans ((same_new na2 (.frz o2 (.tup (bs'.map fun e => V.ref e.p)))).trans (same_new nt (.tup [.ref a1, .ref a2])))
      have hT8 := hT7.same g4
      refine q _ t hs' bs' hT8.2.2.2.2.1 (hT8.2.2.2.2.2.mono (by omega)) ⟨a1, a2, o1, .inl (.inl upd_same), g4 _ _ ea1, ho1, fun e he => (hT8.2.2.1 e (ph.mem_iff.mpr he)).1, ((ph.map _).nodup_iff).mp (List.nodup_append.mp hnd).1, .inl (.inr ⟨o2, same_new nt _ _ _ upd_same⟩), fun e he => (hT8.2.2.2.1 e (pb.mem_iff.mpr he)).1⟩
        ⟨fun z => ?_, by rw [← ph.length_eq]; exact hl3', fun e he => (hT8.2.2.1 e (ph.mem_iff.mpr he)).2, by rw [← pb.length_eq]; omega, fun e he => (hT8.2.2.2.1 e (pb.mem_iff.mpr he)).2⟩
      rw [z] at ph
      exact hne ph.eq_nil
end
end Ms55

namespace Ms55
open PySem PySem.Spec PyProof.Rows L2
/-! ### the town as data -/
def townD (hs : List HandE) (bs : List BrE) : PyData := .tuple [.tuple (hs.map handD), .tuple (bs.map brE)]
theorem dpBr2 {K : PySem.W.Frag} {H : Hp} : ∀ {bs : List BrE}, (∀ e ∈ bs, BrOk K H e) → DpAll K H (bs.map fun e => V.ref e.p) (bs.map brE)
  | [], _ => .nil
  | b :: bs, h => .cons (h b List.mem_cons_self).dp (dpBr2 fun e he => h e (List.mem_cons_of_mem _ he))
theorem TownAt.dp {K : PySem.W.Frag} {H : Hp} {t : Addr} {hs : List HandE} {bs : List BrE} (h : TownAt K H t hs bs) : Dp K H (.ref t) (townD hs bs) := by
  obtain ⟨a1, a2, o, h1, h2, h3, h4, h5, h6, h7⟩ := h
  exact .tup h1 (.cons (.tup (.inl (.inr ⟨o, h2⟩)) (dpHands h4)) (.cons (.tup h6 (dpBr2 h7)) .nil))
theorem niceHand {e : HandE} (h : e.x ∈ pool) (hw : e.ws.length ≤ 5) (h6 : ∀ w ∈ e.ws, w ∈ six) : Nice 150 2 (handD e) := by
  have a : Nice (20 * (e.ws.map PyData.str).length + 2 * (e.ws.map PyData.str).length + 3) 1 (.tuple (e.ws.map .str)) := nice_tup fun d hd => by
    obtain ⟨x, hx, rfl⟩ := List.mem_map.mp hd
    exact nsSix x (h6 x hx)
  rw [List.length_map] at a
  exact (nice_t2 (nsPool _ h) a).mono (by omega) (by omega)
theorem niceTown {K : PySem.W.Frag} {H : Hp} {t : Addr} {hs : List HandE} {bs : List BrE} (h : TownAt K H t hs bs) (g : TownGood hs bs) : Nice 1000 4 (townD hs bs) := by
  obtain ⟨a1, a2, o, h1, h2, h3, h4, h5, h6, h7⟩ := h
  obtain ⟨g1, g2, g3, g4, g5⟩ := g
  have a : Nice (150 * (hs.map handD).length + 2 * (hs.map handD).length + 3) 3 (.tuple (hs.map handD)) := nice_tup fun d hd => by
    obtain ⟨e, he, rfl⟩ := List.mem_map.mp hd
    exact niceHand (g3 e he) (h4 e he).2.2.1 (h4 e he).2.2.2
  have b : Nice (50 * (bs.map brE).length + 2 * (bs.map brE).length + 3) 3 (.tuple (bs.map brE)) := nice_tup fun d hd => by
    obtain ⟨e, he, rfl⟩ := List.mem_map.mp hd
    exact (nice_t2 (nsPool _ (g5 e he).1) (nsPool _ (g5 e he).2)).mono (by omega) (by omega)
  rw [List.length_map] at a b
  exact (nice_t2 a b).mono (by omega) (by omega)
/-! ### what is told by schemes -/
def SayD (d : PyData) : Prop := d = .none ∨ ∃ ds, d = .tuple ds
theorem nice_none : Nice 4 0 .none := ⟨rfl, rfl, by decide +kernel, Nat.le_refl _⟩
section
variable {N D : Nat} {d : PyData} {x y : Str}
theorem nice_must (hx : NS x) (h : Nice N D d) : Nice (N + 50) (D + 1) (mustD x d) := (nice_t3 (ns_by (by decide +kernel)) hx h).mono (by omega) (by omega)
theorem nice_not (h : Nice N D d) : Nice (N + 30) (D + 1) (notD d) := (nice_t2 (ns_by (by decide +kernel)) h).mono (by omega) (by omega)
theorem nice_so {M E : Nat} {e : PyData} (h : Nice N D d) (g : Nice M E e) : Nice (N + M + 30) (max D E + 1) (soD d e) := (nice_t3 (ns_by (by decide +kernel)) h g).mono (by omega) (by omega)
theorem nice_form (hx : NS x) (h : Nice N D d) : Nice (3 * N + 400) (D + 5) (form y x d) := by
  have m := nice_must hx h
  unfold form
  by_cases c1 : y = "step"
  · rw [if_pos c1]
    exact (nice_not (nice_must hx (nice_t2 (ns_by (by decide +kernel)) nice_t0))).mono (by omega) (by omega)
  rw [if_neg c1]
  by_cases c2 : y = "self"
  · rw [if_pos c2]
    exact (nice_so m h).mono (by omega) (by omega)
  rw [if_neg c2]
  by_cases c3 : y = "on"
  · rw [if_pos c3]
    exact (nice_so m (nice_must hx m)).mono (by omega) (by omega)
  rw [if_neg c3]
  by_cases c4 : y = "back"
  · rw [if_pos c4]
    exact (nice_so (nice_not h) (nice_must hx (nice_not m))).mono (by omega) (by omega)
  rw [if_neg c4]
  by_cases c5 : y = "round"
  · rw [if_pos c5]
    exact (nice_so (nice_not m) (nice_must hx (nice_not m))).mono (by omega) (by omega)
  rw [if_neg c5]
  exact (nice_so (nice_must hx (nice_so m h)) m).mono (by omega) (by omega)
theorem say_form : SayD (form y x d) := by
  unfold form
  by_cases c1 : y = "step"
  · rw [if_pos c1]; exact .inr ⟨_, rfl⟩
  rw [if_neg c1]
  by_cases c2 : y = "self"
  · rw [if_pos c2]; exact .inr ⟨_, rfl⟩
  rw [if_neg c2]
  by_cases c3 : y = "on"
  · rw [if_pos c3]; exact .inr ⟨_, rfl⟩
  rw [if_neg c3]
  by_cases c4 : y = "back"
  · rw [if_pos c4]; exact .inr ⟨_, rfl⟩
  rw [if_neg c4]
  by_cases c5 : y = "round"
  · rw [if_pos c5]; exact .inr ⟨_, rfl⟩
  rw [if_neg c5]
  exact .inr ⟨_, rfl⟩
theorem sch_ok {hs : List HandE} (hx : NS x) (h : Nice N D d) : SayD (schD hs x y d) ∧ Nice (3 * N + 400) (D + 5) (schD hs x y d) := by
  cases hf : find hs x with
  | none => rw [schD_no hf]; exact ⟨.inl rfl, nice_none.mono (by omega) (by omega)⟩
  | some e =>
    by_cases hy : y ∈ e.ws
    · rw [schD_in hf hy]; exact ⟨say_form, nice_form hx h⟩
    · rw [schD_out hf hy]; exact ⟨.inl rfl, nice_none.mono (by omega) (by omega)⟩
theorem br_ok {bs : List BrE} (hx : NS x) (hy : NS y) (h : Nice N D d) : SayD (brD bs x y d) ∧ Nice (3 * N + 400) (D + 5) (brD bs x y d) := by
  unfold brD
  split
  · exact ⟨.inl rfl, nice_none.mono (by omega) (by omega)⟩
  · exact ⟨.inr ⟨_, rfl⟩, (nice_so (nice_must hx h) (nice_must hy h)).mono (by omega) (by omega)⟩
end
def spLaw (K : PySem.W.Frag) : Sp := fun vs H Q _ => ∃ (a : Addr) (ns : List Int), vs = [.ref a] ∧ SqL K H a (ns.map V.int) ∧ ns.length ≤ 63 ∧ ∀ H', Q (.bl true) H'
abbrev NL : List Str := ["_law_script", "_law_feed_here", "_law_lap", "_law_town_here", "_law_folk", "_law_n", "_law_claim_here", "_law_before", "_law_who", "_law_word_now", "_law_far", "_law_pair"]
theorem scLaw : FnScope NL ["_law_script"] (defScope sLaw) := ⟨rfl, rfl, rfl, by decide +kernel, rfl, by decide +kernel, by decide +kernel⟩
def folkS : List Str := ["a", "bo", "cy", "dee"]
theorem nsFolk : ∀ x ∈ folkS, NS x := fun x h => by
  have h' : x = "a" ∨ x = "bo" ∨ x = "cy" ∨ x = "dee" := by simpa [folkS] using h
  rcases h' with rfl | rfl | rfl | rfl <;> exact ns_by (by decide +kernel)
theorem okFolk : ∀ x ∈ folkS, PyData.strOk x = true := by decide +kernel
/-- the facts of the defs that the law calls -/
structure Kit (P : Program) (w : World) (K : PySem.W.Frag) (mg : Str → Option Value) (base : Heap) (fF fT fC fS fS2 fB fB2 : Addr) (dF dT dC dS dS2 dB dB2 : FuncData) : Prop where
  F : FnOk P w K mg base CX0 1 fF dF ["_law_script"] (spFeed K)
  T : FnOk P w K mg base CX0 3 fT dT ["_law_feed_here", "_law_limit"] (spTown K)
  C : FnOk P w K mg base CX0 4 fC dC ["_law_feed_here", "_law_crew", "_law_deep"] (spClaim K 3)
  S : FnOk P w K mg base CX0 2 fS dS ["house", "hand", "word", "saying"] (spScheme K)
  S2 : FnOk P w K mg base CX0 1 fS2 dS2 ["_law_town_here", "_law_who", "_law_word_now", "_law_claim_here"] (spScheme K)
  B : FnOk P w K mg base CX0 2 fB dB ["house", "one", "other", "saying"] (spBridge K)
  B2 : FnOk P w K mg base CX0 1 fB2 dB2 ["_law_town_here", "_law_near", "_law_far", "_law_claim_here"] (spBridge K)
  bF : Binds K dF ["_law_script"] []
  bT : Binds K dT ["_law_feed_here", "_law_limit"] []
  bC : Binds K dC ["_law_feed_here", "_law_crew", "_law_deep"] []
  bS : Binds K dS ["house", "hand", "word", "saying"] []
  bS2 : Binds K dS2 ["_law_town_here", "_law_who", "_law_word_now", "_law_claim_here"] []
  bB : Binds K dB ["house", "one", "other", "saying"] []
  bB2 : Binds K dB2 ["_law_town_here", "_law_near", "_law_far", "_law_claim_here"] []
  kF : PySem.W.keepIn K (.ref fF) = true
  kT : PySem.W.keepIn K (.ref fT) = true
  kC : PySem.W.keepIn K (.ref fC) = true
  kS : PySem.W.keepIn K (.ref fS) = true
  kS2 : PySem.W.keepIn K (.ref fS2) = true
  kB : PySem.W.keepIn K (.ref fB) = true
  kB2 : PySem.W.keepIn K (.ref fB2) = true
  mF : mg "_law_feed" = some (.ref fF)
  mT : mg "_law_town" = some (.ref fT)
  mC : mg "_law_claim" = some (.ref fC)
  mS : mg "scheme_of" = some (.ref fS)
  mS2 : mg "_law_scheme" = some (.ref fS2)
  mB : mg "bridge_scheme" = some (.ref fB)
  mB2 : mg "_law_bridge" = some (.ref fB2)
  mr : mg "range" = none
  mp : mg "repr" = none
section
variable {P : Program} {w : World} {K : PySem.W.Frag} {mg : Str → Option Value} {base : Heap} {fF fT fC fS fS2 fB fB2 : Addr} {dF dT dC dS dS2 dB dB2 : FuncData}
theorem law_body (T : Kit P w K mg base fF fT fC fS fS2 fB fB2 dF dT dC dS dS2 dB dB2) {f : Addr} {cdv : Value} {A : Around} {outer : List Env} {s : Shared} {H : Hp} {vs : List V} {Q : VK} {E : XK} (hgd : A.guards = some [])
    (hr : Room 4 (A.deeper (envOfC "law" (defScope sLaw) s.heap.objs.size f cdv))) (h : spLaw K vs H Q E) :
    ∃ t, PSs (cxOf CX0 P w K mg base NL "law" (defScope sLaw) f cdv A outer s H E).nox (defBody sLaw) t ∧ t { nx := fun _ H' => Q .non H', rt := Q } (start NL vs) H := by
  obtain ⟨a, ns, rfl, hS, h63, q⟩ := h
  have nd := scLaw.nd
  have hr1 := hr.mono (show 1 ≤ 4 by decide)
  have hr2 := hr.mono (show 2 ≤ 4 by decide)
  have hr3 := hr.mono (show 3 ≤ 4 by decide)
  have hg : (cxOf CX0 P w K mg base NL "law" (defScope sLaw) f cdv A outer s H E).nox.A.guards = some [] := hgd
  refine ⟨_, pss_cons (ps_set (i := 1) nd rfl (.inl rfl) (pe_call T.F hr1 (by rfl) T.mF T.kF T.bF .nil pass0 (pa_cons (pv 0) pa_nil)))
    (pss_cons (ps_for PassesOwn.never rfl (pi_range1 (by rfl) T.mr (pa_cons pe_int pa_nil)) (pg_name (i := 2) nd rfl (.inl rfl))
      (pss_cons (ps_par (i := 3) (j := 4) rfl nd rfl rfl (by decide) rfl rfl (pa_cons (pe_call T.T hr3 (by rfl) T.mT T.kT T.bT .nil pass0 (pa_cons (pv 1) (pa_cons pe_int pa_nil))) (pa_cons (pe_lst (pa_cons pe_str (pa_cons pe_str (pa_cons pe_str (pa_cons pe_str pa_nil))))) pa_nil)) (by rfl))
      (pss_one (ps_for PassesOwn.never rfl (pi_range1 (by rfl) T.mr (pa_cons pe_int pa_nil)) (pg_name (i := 5) nd rfl (.inl rfl))
        (pss_cons (ps_set (i := 6) nd rfl (.inl rfl) (pe_call T.C hr (by rfl) T.mC T.kC T.bC .nil pass0 (pa_cons (pv 1) (pa_cons
            (pe_lc (own := [("_law_pair", 11)]) (g := gName 11) (tt := tYes) rfl nd (pi_tup (pe_ix ix_tup (pv 3) pe_int (fun _ _ => rfl))) (blkOk_by (N := NL) (sc := defScope sLaw) (by decide +kernel)) (fun _ _ _ _ _ => pg_name (i := 11) nd rfl (Or.inl rfl))
              (fun _ _ _ _ _ => pts_nil) (fun _ _ _ _ _ => pe_ix (r := rIxT K) ix_tup (pv 11) pe_int (fun _ _ => rfl)))
            (pa_cons pe_int pa_nil)))))
        (pss_cons (ps_set (i := 7) nd rfl (.inl rfl) (pe_callB (call_reprD hg) (by rfl) T.mp (by decide +kernel) (pa_cons (pe_tup (pa_cons (pv 3) (pa_cons (pv 6) pa_nil))) pa_nil)))
        (pss_cons (ps_for PassesOwn.never rfl (pi_list (pv 4)) (pg_name (i := 8) nd rfl (.inl rfl))
          (pss_cons (ps_for PassesOwn.never rfl (pi_tup (pe_tup (pa_cons pe_str (pa_cons pe_str (pa_cons pe_str (pa_cons pe_str (pa_cons pe_str (pa_cons pe_str (pa_cons pe_str (pa_cons pe_str pa_nil)))))))))) (pg_name (i := 9) nd rfl (.inl rfl))
            (pss_one (ps_if (pt_cmpR op_ne (pe_callB (call_reprD hg) (by rfl) T.mp (by decide +kernel) (pa_cons (pe_call T.S hr2 (by rfl) T.mS T.kS T.bS .nil pass0 (pa_cons (pv 3) (pa_cons (pv 8) (pa_cons (pv 9) (pa_cons (pv 6) pa_nil))))) pa_nil))
                (pe_callB (call_reprD hg) (by rfl) T.mp (by decide +kernel) (pa_cons (pe_call T.S2 hr1 (by rfl) T.mS2 T.kS2 T.bS2 .nil pass0 (pa_cons (pv 3) (pa_cons (pv 8) (pa_cons (pv 9) (pa_cons (pv 6) pa_nil))))) pa_nil)) (nomark _)) (pss_one (ps_ret pe_bl)) pss_nil)))
          (pss_one (ps_for PassesOwn.never rfl (pi_list (pv 4)) (pg_name (i := 10) nd rfl (.inl rfl))
            (pss_one (ps_if (pt_cmpR op_ne (pe_callB (call_reprD hg) (by rfl) T.mp (by decide +kernel) (pa_cons (pe_call T.B hr2 (by rfl) T.mB T.kB T.bB .nil pass0 (pa_cons (pv 3) (pa_cons (pv 8) (pa_cons (pv 10) (pa_cons (pv 6) pa_nil))))) pa_nil))
                (pe_callB (call_reprD hg) (by rfl) T.mp (by decide +kernel) (pa_cons (pe_call T.B2 hr1 (by rfl) T.mB2 T.kB2 T.bB2 .nil pass0 (pa_cons (pv 3) (pa_cons (pv 8) (pa_cons (pv 10) (pa_cons (pv 6) pa_nil))))) pa_nil)) (nomark _)) (pss_one (ps_ret pe_bl)) pss_nil))))))
        (pss_one (ps_if (pt_cmpR op_ne (pe_callB (call_reprD hg) (by rfl) T.mp (by decide +kernel) (pa_cons (pe_tup (pa_cons (pv 3) (pa_cons (pv 6) pa_nil))) pa_nil)) (pv 7) (nomark _)) (pss_one (ps_ret pe_bl)) pss_nil)))))))))
    (pss_one (ps_ret pe_bl))), ?_⟩
  have hun := hr.un
  have room : ∀ {D : Nat}, D ≤ 40 → (cxOf CX0 P w K mg base NL "law" (defScope sLaw) f cdv A outer s H E).nox.A.units + (D + 1) < cLine := fun {D} hD => by
    show (A.deeper (envOfC "law" (defScope sLaw) s.heap.objs.size f cdv)).units + (D + 1) < cLine
    omega
  have line : ∀ {n : Nat}, n ≤ 5000 → n ≤ sizeLine := fun {n} h => Nat.le_trans h (by decide)
  -- the feed
  refine ⟨_, rfl, a, ns, rfl, hS, h63, fun H1 p c cells s1 np f1 => ?_⟩
  -- for lap in range(4)
  refine ⟨4, rfl, by decide, by decide, ?_⟩
  refine for_range (lo := 0) (n := (4 : Int).toNat) (fun i σ' H' => (∃ y2 y3 y4 y5 y6 y7 y8 y9 y10, σ' = [some (.ref a), some (.ref p), y2, y3, y4, y5, y6, y7, y8, y9, y10, none]) ∧ Fd K H' p c cells (250 * i))
    ⟨⟨_, _, _, _, _, _, _, _, _, rfl⟩, f1.mono (by omega)⟩ (fun i σ' H2 hi hp => ?_) (fun σ' H2 hp => ?_)
  · obtain ⟨⟨y2, y3, y4, y5, y6, y7, y8, y9, y10, rfl⟩, f2⟩ := hp
    have hi4 : i < 4 := hi
    -- town, folk
    refine ⟨_, rfl, p, c, cells, 3, 250 * i, rfl, f2, by decide, by decide, by omega, fun H3 t hs bs s3 f3 hT hG => ⟨by show 4 ≤ sizeLine; decide, fun fo nfo => ⟨_, _, rfl, ?_⟩⟩⟩
    have f4 := f3.new nfo (.lst [.str "a", .str "bo", .str "cy", .str "dee"])
    have hT4 := hT.sd (Sd.new nfo (.lst [.str "a", .str "bo", .str "cy", .str "dee"]))
    have ef := upd_same (H := H3) (a := fo) (o := .lst [.str "a", .str "bo", .str "cy", .str "dee"])
    generalize upd H3 fo (.lst [.str "a", .str "bo", .str "cy", .str "dee"]) = H4 at f4 hT4 ef
    have nT := niceTown hT hG
    -- for n in range(2)
    refine ⟨2, rfl, by decide, by decide, ?_⟩
    refine for_range (lo := 0) (n := (2 : Int).toNat) (fun j σ' H' => (∃ y2 y5 y6 y7 y8 y9 y10, σ' = [some (.ref a), some (.ref p), y2, some (.ref t), some (.ref fo), y5, y6, y7, y8, y9, y10, none]) ∧ Fd K H' p c cells (250 * i + 200 + 20 * j) ∧ TownAt K H' t hs bs ∧ H' fo = some (.lst [.str "a", .str "bo", .str "cy", .str "dee"]))
      ⟨⟨_, _, _, _, _, _, _, rfl⟩, f4.mono (by omega), hT4, ef⟩ (fun j σ' H5 hj hp => ?_) (fun σ' H5 hp => ?_)
    · obtain ⟨⟨z2, z5, z6, z7, z8, z9, z10, rfl⟩, f5, hT5, ef5⟩ := hp
      have hj2 : j < 2 := hj
      -- claim
      have hT5' := hT5
      obtain ⟨a1, a2, o, h1, h2, h3, h4, h5, h6, h7⟩ := hT5'
      have sq : SqT K H5 a1 (hs.map fun e => V.ref e.p) := .inl (.inr ⟨o, h2⟩)
      refine ⟨_, rfl, _, rfl, t, _, 0, .ref a1, rfl, rfl, h1, rfl, a1, rfl, ⟨_, sq⟩, fun D hD => ?_⟩
      refine lc_tup (K := K) (a := a1) (xs := hs.map fun e => V.ref e.p) (fun m H' => H' D = some (.lst ((hs.take m).map fun e => V.str e.x)) ∧ Same H5 H')
        ⟨upd_same, same_new hD _⟩ (fun m H' _ ⟨_, sm⟩ => (Sd.of_same sm).tup sq) (fun m x H' hx ⟨hl, sm⟩ => ?_) (fun H6 ⟨hl, sm⟩ => ?_)
      · rw [List.getElem?_map] at hx
        cases he : hs[m]? with
        | none => rw [he] at hx; cases hx
        | some e =>
          rw [he] at hx
          obtain rfl : V.ref e.p = x := Option.some.inj hx
          have me := List.mem_of_getElem? he
          refine ⟨rfl, ?_⟩
          dsimp only [tYes]
          rw [if_pos rfl]
          refine ⟨_, rfl, e.p, _, 0, .str e.x, rfl, rfl, (Sd.of_same sm).tup (h4 e me).1, rfl, _, hl, ?_, ?_, ?_⟩
          · rw [List.length_map, List.length_take]
            have := hG.2.1
            exact small1000 (by omega)
          · rw [upd_same, List.take_add_one, he, List.map_append]
            rfl
          · intro b u e'
            rw [upd_ne (ne_of_none e' hD)]
            exact sm _ _ e'
      rw [List.length_map, List.take_length] at hl
      have hT6 := hT5.sd (Sd.of_same sm)
      have ef6 := sm _ _ ef5
      have hnm : (hs.map fun e => V.str e.x) = (hs.map (·.x)).map V.str := by rw [List.map_map]; rfl
      rw [hnm] at hl
      refine ⟨p, c, cells, D, hs.map (·.x), 2, 250 * i + 200 + 20 * j, rfl, f5.same sm, .inl (.inl hl), ?_, ?_, ?_, by decide, ?_, fun H7 ca d s7 f7 hd hdt hdn => ?_⟩
      · intro z
        exact hG.1 (List.map_eq_nil_iff.mp z)
      · rw [List.length_map]
        have := hG.2.1
        omega
      · intro x hx
        obtain ⟨e, he, rfl⟩ := List.mem_map.mp hx
        exact nsPool _ (hG.2.2.1 e he)
      · have : cnt 2 = 14 := by decide
        omega
      have f7' := f7.mono (show 250 * i + 200 + 20 * j + cnt 2 ≤ 250 * i + 200 + 20 * ((j + 1 : Nat) : Int) by
        have : cnt 2 = 14 := by decide
        omega)
      have hT7 := hT6.sd s7
      have ef7 := s7 _ _ ef6 (fun _ z => nomatch z)
      have nC : Nice 400 6 d := hdn.mono (by decide) (by decide)
      have nA := nice_t2 nT nC
      -- before
      refine ⟨_, rfl, _, rfl, zz2, fun u nu => ⟨.ref u, .tuple [townD hs bs, d], rfl, new2 nu hT7.dp hd, .inr ⟨_, rfl⟩, nA.sh, nA.nd, line (Nat.le_trans nA.len (by decide)), room (Nat.le_trans nA.dep (by decide)), ?_⟩⟩
      have g8 := same_new nu (.tup [.ref t, .ref ca])
      have f8 := f7'.same g8
      have hT8 := hT7.sd (Sd.of_same g8)
      have ef8 := g8 _ _ ef7
      have hd8 := dp_sd (Sd.of_same g8) _ _ hd
      generalize upd H7 u (.tup [.ref t, .ref ca]) = H8 at g8 f8 hT8 ef8 hd8
      -- for who in folk
      refine ⟨_, rfl, fo, rfl, ⟨_, .inl (.inl ef8)⟩, ?_⟩
      refine for_list (K := K) (a := fo) (xs := [.str "a", .str "bo", .str "cy", .str "dee"]) (fun m σ' H' => (∃ y8 y9 y10, σ' = [some (.ref a), some (.ref p), z2, some (.ref t), some (.ref fo), some (.int (0 + j)), some (.ref ca), some (.str (PyData.tuple [townD hs bs, d]).shown), y8, y9, y10, none]) ∧ Same H8 H')
        ⟨⟨_, _, _, rfl⟩, Same.refl _⟩ (fun m σ' H' _ ⟨_, sm⟩ => .inl (.inl (sm _ _ ef8))) (fun m x σ' H9 hx hp => ?_) (fun σ' H9 hp => ?_)
      · obtain ⟨⟨y8, y9, y10, rfl⟩, s9⟩ := hp
        obtain ⟨x, hxf, rfl⟩ : ∃ y, y ∈ folkS ∧ V.str y = x := by
          have hm := List.mem_of_getElem? hx
          exact List.mem_map.mp (show x ∈ folkS.map V.str from hm)
        have nsx := nsFolk x hxf
        -- for word in ..
        refine ⟨by show 8 ≤ sizeLine; decide, fun tw ntw => ⟨tw, rfl, ⟨_, .inl (.inl upd_same)⟩, ?_⟩⟩
        have s10 := s9.trans (same_new ntw (.tup [.str "back", .str "ends", .str "on", .str "round", .str "self", .str "step", .str "", .str "selfs"]))
        have etw := upd_same (H := H9) (a := tw) (o := .tup [.str "back", .str "ends", .str "on", .str "round", .str "self", .str "step", .str "", .str "selfs"])
        generalize upd H9 tw (.tup [.str "back", .str "ends", .str "on", .str "round", .str "self", .str "step", .str "", .str "selfs"]) = H10 at s10 etw
        refine for_tup (K := K) (a := tw) (xs := [.str "back", .str "ends", .str "on", .str "round", .str "self", .str "step", .str "", .str "selfs"]) (fun k σ' H' => (∃ y9 y10, σ' = [some (.ref a), some (.ref p), z2, some (.ref t), some (.ref fo), some (.int (0 + j)), some (.ref ca), some (.str (PyData.tuple [townD hs bs, d]).shown), some (.str x), y9, y10, none]) ∧ Same H10 H')
          ⟨⟨_, _, rfl⟩, Same.refl _⟩ (fun k σ' H' _ ⟨_, sm⟩ => .inl (.inl (sm _ _ etw))) (fun k y σ' H11 hy hp => ?_) (fun σ' H11 hp => ?_)
        · obtain ⟨⟨w9, w10, rfl⟩, s11⟩ := hp
          obtain ⟨y, rfl⟩ : ∃ z : Str, y = .str z := by
            have hm := List.mem_of_getElem? hy
            simp only [List.mem_cons, List.not_mem_nil, or_false] at hm
            rcases hm with rfl | rfl | rfl | rfl | rfl | rfl | rfl | rfl
            all_goals exact ⟨_, rfl⟩
          have sA := s10.trans s11
          obtain ⟨sy, sn⟩ := sch_ok (hs := hs) (y := y) nsx nC
          refine ⟨_, rfl, _, rfl, _, rfl, _, rfl, t, hs, bs, x, y, ca, d, rfl, hT8.sd (Sd.of_same sA), dp_sd (Sd.of_same sA) _ _ hd8, fun H12 v s12 hv => ?_⟩
          refine ⟨v, _, rfl, hv, sy, sn.sh, sn.nd, line (Nat.le_trans sn.len (by decide)), room (Nat.le_trans sn.dep (by decide)), ?_⟩
          have sB := sA.trans s12
          refine ⟨_, rfl, _, rfl, _, rfl, _, rfl, t, hs, bs, x, y, ca, d, rfl, hT8.sd (Sd.of_same sB), dp_sd (Sd.of_same sB) _ _ hd8, fun H13 v2 s13 hv2 => ?_⟩
          refine ⟨v2, _, rfl, hv2, sy, sn.sh, sn.nd, line (Nat.le_trans sn.len (by decide)), room (Nat.le_trans sn.dep (by decide)), rfl, _, rfl, ?_⟩
          exact iteNS rfl ⟨⟨_, _, rfl⟩, s11.trans (s12.trans s13)⟩
        · obtain ⟨⟨w9, w10, rfl⟩, s11⟩ := hp
          have sA := s10.trans s11
          -- for far in folk
          refine ⟨_, rfl, fo, rfl, ⟨_, .inl (.inl (sA _ _ ef8))⟩, ?_⟩
          refine for_list (K := K) (a := fo) (xs := [.str "a", .str "bo", .str "cy", .str "dee"]) (fun k σ' H' => (∃ y9 y10, σ' = [some (.ref a), some (.ref p), z2, some (.ref t), some (.ref fo), some (.int (0 + j)), some (.ref ca), some (.str (PyData.tuple [townD hs bs, d]).shown), some (.str x), y9, y10, none]) ∧ Same H8 H')
            ⟨⟨_, _, rfl⟩, sA⟩ (fun k σ' H' _ ⟨_, sm⟩ => .inl (.inl (sm _ _ ef8))) (fun k y σ' H12 hy hp => ?_) (fun σ' H12 hp => ?_)
          · obtain ⟨⟨v9, v10, rfl⟩, s12⟩ := hp
            obtain ⟨y, hyf, rfl⟩ : ∃ z, z ∈ folkS ∧ V.str z = y := by
              have hm := List.mem_of_getElem? hy
              exact List.mem_map.mp (show y ∈ folkS.map V.str from hm)
            obtain ⟨sy, sn⟩ := br_ok (bs := bs) nsx (nsFolk y hyf) nC
            refine ⟨_, rfl, _, rfl, _, rfl, _, rfl, t, hs, bs, x, y, ca, d, rfl, hT8.sd (Sd.of_same s12), dp_sd (Sd.of_same s12) _ _ hd8, okFolk x hxf, okFolk y hyf, fun H13 v s13 hv => ?_⟩
            refine ⟨v, _, rfl, hv, sy, sn.sh, sn.nd, line (Nat.le_trans sn.len (by decide)), room (Nat.le_trans sn.dep (by decide)), ?_⟩
            have sB := s12.trans s13
            refine ⟨_, rfl, _, rfl, _, rfl, _, rfl, t, hs, bs, x, y, ca, d, rfl, hT8.sd (Sd.of_same sB), dp_sd (Sd.of_same sB) _ _ hd8, okFolk x hxf, okFolk y hyf, fun H14 v2 s14 hv2 => ?_⟩
            refine ⟨v2, _, rfl, hv2, sy, sn.sh, sn.nd, line (Nat.le_trans sn.len (by decide)), room (Nat.le_trans sn.dep (by decide)), rfl, _, rfl, ?_⟩
            exact iteNS rfl ⟨⟨_, _, rfl⟩, sB.trans s14⟩
          · obtain ⟨⟨v9, v10, rfl⟩, s12⟩ := hp
            exact ⟨⟨_, _, _, rfl⟩, s12⟩
      · obtain ⟨⟨y8, y9, y10, rfl⟩, s9⟩ := hp
        have hT9 := hT8.sd (Sd.of_same s9)
        have hd9 := dp_sd (Sd.of_same s9) _ _ hd8
        refine ⟨_, rfl, _, rfl, zz2, fun u2 nu2 => ⟨.ref u2, .tuple [townD hs bs, d], rfl, new2 nu2 hT9.dp hd9, .inr ⟨_, rfl⟩, nA.sh, nA.nd, line (Nat.le_trans nA.len (by decide)), room (Nat.le_trans nA.dep (by decide)), _, rfl, rfl, _, rfl, ?_⟩⟩
        have s10 := s9.trans (same_new nu2 (.tup [.ref t, .ref ca]))
        exact iteNS rfl ⟨⟨_, _, _, _, _, _, _, rfl⟩, f8.same s10, hT8.sd (Sd.of_same s10), s10 _ _ ef8⟩
    · obtain ⟨⟨z2, z5, z6, z7, z8, z9, z10, rfl⟩, f5, _, _⟩ := hp
      exact ⟨⟨_, _, _, _, _, _, _, _, _, rfl⟩, f5.mono (show (250 * (i : Int) + 200 + 20 * (((2 : Int).toNat : Nat) : Int)) ≤ 250 * ((i + 1 : Nat) : Int) by
        have : (((2 : Int).toNat : Nat) : Int) = 2 := by decide
        omega)⟩
  · exact q H2
end
end Ms55

namespace Ms55
open PySem PySem.Spec PyProof.Rows L2
section
variable {P : Program} {w : World} {K : PySem.W.Frag} {mg : Str → Option Value} {base : Heap}
/-- a def called where it is known what runs around: its body read there -/
theorem fn_here {x qual : Str} {st : Stmt} {f : Addr} {fd : FuncData} {N ps : List Str} {k : Nat} {A : Around} {outer : List Env} {s : Shared} {H : Hp} {args : Args} {us : List Value} {vs : List V} {Q : VK} {E : XK}
    (F : Fun K x qual st f fd) (S : FnScope N ps (defScope st)) (hl : vs.length = ps.length) (room : Room (k + 1) A) (e0 : Env0 P w K mg base A outer s H) (bind : BindsTo s fd args (ps.zip us)) (rel : Vals vs us)
    (body : ∀ cdv : Value, Room k (A.deeper (envOfC qual (defScope st) s.heap.objs.size f cdv)) →
      ∃ t, PSs (cxOf CX0 P w K mg base N qual (defScope st) f cdv A outer s H E).nox (defBody st) t ∧ t { nx := fun _ H' => Q .non H', rt := Q } (start N vs) H) :
    codeAny (model P w) A (.call (.ref f) args) (CR CX0 outer P w H s Q E) s := by
  obtain ⟨oc, od, kV, doc, pm, an, cdv, ct, osl, rfl, look, code⟩ := F.ex
  have inK : K.In s.heap := e0.mod.kin.keeps fun b o e => (e0.bs b o e).1
  have noLim : s.heap.NoLimit := e0.mod.nolimit.keeps fun b o e => (e0.bs b o e).1
  have kinds : ∀ z ∈ ps.zip us, (defScope st).names.lookup z.1 = some .local ∨ ((defScope st).names.lookup z.1 = some .cell ∧ ((cellsFrom (s.heap.objs.size + 1) (defScope st).names []).lookup z.1).isSome = true) := by
    rintro ⟨m, v⟩ hz
    rcases S.par m (List.of_mem_zip hz).1 with z | z
    · exact Or.inl z
    · exact Or.inr ⟨z, PySem.W.cellsFrom_some _ _ _ (Or.inl z)⟩
  apply codeAny_call_function room.depth (inK _ _ look) rfl S.co S.gen rfl (PySem.W.codeRec_of inK code)
  apply bind
  apply wpAny_newFunctionEnv_cells S.kind kinds
  intro env he s1 y
  subst he
  constructor
  · exact noLim.keeps y.toInCall.keep
  apply codeAny_func
  obtain ⟨t, ht, hq⟩ := body cdv (room.deeper _)
  have J := inv_start (CX := CX0) (P := P) (w := w) (E := E) S room.hd e0 hl rel y
  apply wpAny_mono (ht.nox.run [] s1 (start N vs) H _ J hq)
  · intro fl s' hs
    cases fl with
    | ret u =>
      obtain ⟨v, σ', H', I, rv, z⟩ := hs
      exact ⟨v, H', I.os, I.bare, I.base, I.hok, rv, z⟩
    | next =>
      obtain ⟨σ', H', I, z⟩ := hs
      exact ⟨V.non, H', I.os, I.bare, I.base, I.hok, rfl, z⟩
    | brk => exact hs.elim fun _ h => h.elim fun _ h => h.2.elim
    | cont => exact hs.elim fun _ h => h.elim fun _ h => h.2.elim
  · intro e s' hs
    exact hs
end
/-- the law's call, from its body where nothing runs around it but the claim's caller -/
theorem call_here {P : Program} {w : World} {K : PySem.W.Frag} {mg mb : Str → Option Value} {fa a : Addr} {s1 : Shared} {vs : List Value} {ns : List Int}
    (KX : K.In s1.heap) (hns : s1.heap.Ns mainGlobals mg) (hb : s1.heap.Ns builtinsNs mb) (hbb : ∀ x : Str, x ≠ "__name__" → mb x = bootBuiltins x) (lim : s1.heap.NoLimit) (hg : s1.gens = #[])
    (ha : s1.heap.get? a = some { cls := .type "list", data := .seq vs.toArray }) (hi : IntsAre vs ns) (hl : ns.length ≤ sizeLine)
    (run : ∀ (base : Heap) (H : Hp), K.In base → base.Ns mainGlobals mg → Env0 P w K mg base callerA [] s1 H → SqL K H a (ns.map V.int) → codeAny (model P w) callerA (.call (.ref fa) ⟨[.ref a], []⟩) (CR CX0 [] P w H s1 (fun v _ => v = .bl true) (fun _ _ _ => False)) s1) :
    codeAny (model P w) callerA (.call (.ref fa) ⟨[.ref a], []⟩) (fun r s' => r = .ok (.ret (.bool true)) ∧ OldK s1.heap s'.heap ∧ s'.os = s1.os ∧ AllBare s'.gens) s1 := by
  have rv := vals_ints hi
  have lv := hi.length
  suffices main : ∃ H : Hp, Only H ∧ SqL K H a (ns.map V.int) ∧ HOk P w H s1.heap ∧ (∀ b, H b ≠ none → b = a ∧ K.lookup a = none) by
    obtain ⟨H, hO, hS, hok, hA⟩ := main
    have free : ∀ {b : Addr} {o : Obj}, s1.heap.get? b = some o → (b = a → K.lookup a = none → False) → (hidT s1.heap H).get? b = some o := by
      intro b o e no
      refine hidT_get e (Classical.byContradiction fun z => ?_)
      exact no (hA b z).1 (hA b z).2
    have nsK : ∀ {b : Addr} {m : Str → Option Value}, s1.heap.Ns b m → (hidT s1.heap H).Ns b m := by
      rintro b m ⟨o, es, ep, e, d, r⟩
      refine ⟨o, es, ep, free e fun z _ => ?_, d, r⟩
      rw [z, ha] at e
      cases e
      cases d
    have kb : K.In (hidT s1.heap H) := by
      intro b o e
      refine free (KX b o e) fun z n => ?_
      rw [z, n] at e
      cases e
    have md : Mod K mg (hidT s1.heap H) := by
      obtain ⟨mc, l1, l2⟩ := lim
      exact ⟨kb, nsK hns, ⟨mb, nsK hb, hbb⟩, ⟨mc, nsK l1, l2⟩⟩
    have none_ : ∀ b : Addr, b ∉ frs ([] : List Env) := fun b z => by cases z
    have e0 : Env0 P w K mg (hidT s1.heap H) callerA [] s1 H :=
      { frames := rfl, mod := md, bs := fun b o e => of_hidT e, bsz := Nat.le_of_eq (hidT_size _ _), funs := trivial, frf := fun b z => absurd z (none_ b), hok := hok, bare := .of_eq hg }
    apply codeAny_mono (run _ H kb (nsK hns) e0 hS)
    intro r s' h
    match r, h with
    | .error e, h => exact False.elim h
    | .ok .next, h => exact False.elim h
    | .ok .brk, h => exact False.elim h
    | .ok .cont, h => exact False.elim h
    | .ok (.ret u), h =>
      obtain ⟨v, H', os, bare, un, hok', r', z⟩ := h
      have z : v = V.bl true := z
      subst z
      cases (show u = Value.bool true from r')
      refine ⟨rfl, OldK.of_keep ?_, os, bare⟩
      intro b o e
      rcases hO b with n | ⟨ob, xs, n⟩
      · exact un.keep b o e n (none_ b) (by simp)
      · have k1 := (hok b _ n).1
        have k2 := (hok' b _ (un.frzs b ob _ n)).1
        rw [k1] at e
        cases e
        exact k2
  cases hk : K.lookup a with
  | some o =>
    have e := KX a o hk
    rw [ha] at e
    cases e
    refine ⟨fun _ => none, fun _ => Or.inl rfl, Or.inr ⟨_, vs.toArray, _, hk, rfl, rfl, rfl, ?_, by simpa using rv⟩, fun b u z => (by cases z), fun b z => absurd rfl z⟩
    rw [List.size_toArray, lv]
    exact hl
  | none =>
    refine ⟨upd (fun _ => none) a (.frz { cls := .type "list", data := .seq vs.toArray } (.lst (ns.map V.int))), fun b => ?_, Or.inl (Or.inr ⟨_, upd_same⟩), fun b u z => ?_, fun b z => ?_⟩
    · by_cases hb : b = a
      · subst hb
        exact Or.inr ⟨_, _, upd_same⟩
      · exact Or.inl (upd_ne hb)
    · by_cases hb : b = a
      · subst hb
        rw [upd_same] at z
        cases z
        refine ⟨ha, ?_, vs, _, rv, ha⟩
        rw [List.length_map]
        exact hl
      · rw [upd_ne hb] at z
        cases z
    · by_cases hb : b = a
      · exact ⟨hb, rfl⟩
      · exact absurd (upd_ne hb) z
end Ms55

namespace Ms55
open PySem PySem.Spec PyProof.Rows L2
section
variable {P : Program} {w : World} {K : PySem.W.Frag} {mg : Str → Option Value} {base : Heap}
theorem no_claim {f : Addr} {fd : FuncData} : FnOk P w K mg base CX0 (0 + 1) f fd ["_law_feed_here", "_law_crew", "_law_deep"] (spClaim K 0) := by
  have no : ∀ vs H Q E, ¬ spClaim K 0 vs H Q E := fun vs H Q E h => by
    obtain ⟨_, _, _, _, _, deep, _, _, _, _, _, _, _, h1, _⟩ := h
    omega
  exact ⟨fun vs H Q E h => absurd h (no vs H Q E), fun A outer s H args us vs Q E _ _ _ _ h => absurd h (no vs H Q E)⟩
theorem all_claim {f g : Addr} {fd gd : FuncData} (F : Fun K "_law_claim" "_law_claim" sClaim f fd) (D : FnOk P w K mg base CX0 1 g gd ["_law_feed_here", "_law_size"] (spDraw K)) (bD : Binds K gd ["_law_feed_here", "_law_size"] []) (kD : PySem.W.keepIn K (.ref g) = true)
    (mD : mg "_law_draw" = some (.ref g)) (bG : Binds K fd ["_law_feed_here", "_law_crew", "_law_deep"] []) (mG : mg "_law_claim" = some (.ref f)) (ml : mg "len" = none) : ∀ m : Nat, FnOk P w K mg base CX0 (m + 1) f fd ["_law_feed_here", "_law_crew", "_law_deep"] (spClaim K m)
  | 0 => no_claim
  | m + 1 => ok_claim F D bD kD mD (all_claim F D bD kD mD bG mG ml m) bG mG ml
end
/-- what is known of the law's def and of those that it calls -/
def LawAt (P : Program) (w : World) (K : PySem.W.Frag) (mg : Str → Option Value) (fa : Addr) : Prop := ∃ fd : FuncData, Fun K "law" "law" sLaw fa fd ∧ (∀ (s : Shared) (u : Value), BindsTo s fd ⟨[u], []⟩ [("_law_script", u)]) ∧
  ∀ base : Heap, ∃ (fF fT fC fS fS2 fB fB2 : Addr) (dF dT dC dS dS2 dB dB2 : FuncData), Kit P w K mg base fF fT fC fS fS2 fB fB2 dF dT dC dS dS2 dB dB2
theorem all_mk {l : PySem.W.OpenLaw} {w : World} {K : PySem.W.Frag} {h : Heap} {mg : Str → Option Value} {fa : Addr} (X : K.In h) (G : h.Ns mainGlobals mg) (hfa : mg "law" = some (.ref fa))
    {f1 f2 f3 f4 f5 f6 f7 f8 f9 f10 f11 f12 f13 : Addr} {od1 an1 od2 an2 od3 an3 od4 an4 od5 an5 od6 an6 od7 an7 od8 an8 od9 an9 od10 an10 od11 an11 od12 an12 od13 an13 : Option Addr} {sl1 sl2 sl3 sl4 sl5 sl6 sl7 sl8 sl9 sl10 sl11 sl12 sl13 : Array (Option Value)} {oc1 kV1 dc1 pm1 cd1 ct1 oc2 kV2 dc2 pm2 cd2 ct2 oc3 kV3 dc3 pm3 cd3 ct3 oc4 kV4 dc4 pm4 cd4 ct4 oc5 kV5 dc5 pm5 cd5 ct5 oc6 kV6 dc6 pm6 cd6 ct6 oc7 kV7 dc7 pm7 cd7 ct7 oc8 kV8 dc8 pm8 cd8 ct8 oc9 kV9 dc9 pm9 cd9 ct9 oc10 kV10 dc10 pm10 cd10 ct10 oc11 kV11 dc11 pm11 cd11 ct11 oc12 kV12 dc12 pm12 cd12 ct12 oc13 kV13 dc13 pm13 cd13 ct13 : Value}
    (a1 : PySem.W.nsIn K mainGlobals "rules_of" = some (some (.ref f1))) (l1 : K.lookup f1 = some ⟨oc1, od1, .func (PySem.W.fnOf "rules_of" "rules_of" (defArgs sRules) (defBody sRules) (defScope sRules) .none kV1 dc1 pm1 an1 cd1 ct1), sl1⟩) (c1 : PySem.W.codeIn K cd1 "rules_of" = true) (k1 : PySem.W.keepIn K (.ref f1) = true)
    (a2 : PySem.W.nsIn K mainGlobals "scheme_of" = some (some (.ref f2))) (l2 : K.lookup f2 = some ⟨oc2, od2, .func (PySem.W.fnOf "scheme_of" "scheme_of" (defArgs sScheme) (defBody sScheme) (defScope sScheme) .none kV2 dc2 pm2 an2 cd2 ct2), sl2⟩) (c2 : PySem.W.codeIn K cd2 "scheme_of" = true) (k2 : PySem.W.keepIn K (.ref f2) = true)
    (a3 : PySem.W.nsIn K mainGlobals "bridge_scheme" = some (some (.ref f3))) (l3 : K.lookup f3 = some ⟨oc3, od3, .func (PySem.W.fnOf "bridge_scheme" "bridge_scheme" (defArgs sBridge) (defBody sBridge) (defScope sBridge) .none kV3 dc3 pm3 an3 cd3 ct3), sl3⟩) (c3 : PySem.W.codeIn K cd3 "bridge_scheme" = true) (k3 : PySem.W.keepIn K (.ref f3) = true)
    (a4 : PySem.W.nsIn K mainGlobals "_law_feed" = some (some (.ref f4))) (l4 : K.lookup f4 = some ⟨oc4, od4, .func (PySem.W.fnOf "_law_feed" "_law_feed" (defArgs sFeed) (defBody sFeed) (defScope sFeed) .none kV4 dc4 pm4 an4 cd4 ct4), sl4⟩) (c4 : PySem.W.codeIn K cd4 "_law_feed" = true) (k4 : PySem.W.keepIn K (.ref f4) = true)
    (a5 : PySem.W.nsIn K mainGlobals "_law_draw" = some (some (.ref f5))) (l5 : K.lookup f5 = some ⟨oc5, od5, .func (PySem.W.fnOf "_law_draw" "_law_draw" (defArgs sDraw) (defBody sDraw) (defScope sDraw) .none kV5 dc5 pm5 an5 cd5 ct5), sl5⟩) (c5 : PySem.W.codeIn K cd5 "_law_draw" = true) (k5 : PySem.W.keepIn K (.ref f5) = true)
    (a6 : PySem.W.nsIn K mainGlobals "_law_claim" = some (some (.ref f6))) (l6 : K.lookup f6 = some ⟨oc6, od6, .func (PySem.W.fnOf "_law_claim" "_law_claim" (defArgs sClaim) (defBody sClaim) (defScope sClaim) .none kV6 dc6 pm6 an6 cd6 ct6), sl6⟩) (c6 : PySem.W.codeIn K cd6 "_law_claim" = true) (k6 : PySem.W.keepIn K (.ref f6) = true)
    (a7 : PySem.W.nsIn K mainGlobals "_law_lots" = some (some (.ref f7))) (l7 : K.lookup f7 = some ⟨oc7, od7, .func (PySem.W.fnOf "_law_lots" "_law_lots" (defArgs sLots) (defBody sLots) (defScope sLots) .none kV7 dc7 pm7 an7 cd7 ct7), sl7⟩) (c7 : PySem.W.codeIn K cd7 "_law_lots" = true) (k7 : PySem.W.keepIn K (.ref f7) = true)
    (a8 : PySem.W.nsIn K mainGlobals "_law_town" = some (some (.ref f8))) (l8 : K.lookup f8 = some ⟨oc8, od8, .func (PySem.W.fnOf "_law_town" "_law_town" (defArgs sTown) (defBody sTown) (defScope sTown) .none kV8 dc8 pm8 an8 cd8 ct8), sl8⟩) (c8 : PySem.W.codeIn K cd8 "_law_town" = true) (k8 : PySem.W.keepIn K (.ref f8) = true)
    (a9 : PySem.W.nsIn K mainGlobals "_law_scheme" = some (some (.ref f9))) (l9 : K.lookup f9 = some ⟨oc9, od9, .func (PySem.W.fnOf "_law_scheme" "_law_scheme" (defArgs sScheme2) (defBody sScheme2) (defScope sScheme2) .none kV9 dc9 pm9 an9 cd9 ct9), sl9⟩) (c9 : PySem.W.codeIn K cd9 "_law_scheme" = true) (k9 : PySem.W.keepIn K (.ref f9) = true)
    (a10 : PySem.W.nsIn K mainGlobals "_law_bridge" = some (some (.ref f10))) (l10 : K.lookup f10 = some ⟨oc10, od10, .func (PySem.W.fnOf "_law_bridge" "_law_bridge" (defArgs sBridge2) (defBody sBridge2) (defScope sBridge2) .none kV10 dc10 pm10 an10 cd10 ct10), sl10⟩) (c10 : PySem.W.codeIn K cd10 "_law_bridge" = true) (k10 : PySem.W.keepIn K (.ref f10) = true)
    (a11 : PySem.W.nsIn K mainGlobals "law" = some (some (.ref f11))) (l11 : K.lookup f11 = some ⟨oc11, od11, .func (PySem.W.fnOf "law" "law" (defArgs sLaw) (defBody sLaw) (defScope sLaw) .none kV11 dc11 pm11 an11 cd11 ct11), sl11⟩) (c11 : PySem.W.codeIn K cd11 "law" = true) (k11 : PySem.W.keepIn K (.ref f11) = true)
    (a12 : PySem.W.nsIn K mainGlobals "rule_said" = some (some (.ref f12))) (l12 : K.lookup f12 = some ⟨oc12, od12, .func (PySem.W.fnOf "rule_said" "rule_said" (defArgs sRuleSaid) (defBody sRuleSaid) (defScope sRuleSaid) .none kV12 dc12 pm12 an12 cd12 ct12), sl12⟩) (c12 : PySem.W.codeIn K cd12 "rule_said" = true) (k12 : PySem.W.keepIn K (.ref f12) = true)
    (a13 : PySem.W.nsIn K mainGlobals "bridge_said" = some (some (.ref f13))) (l13 : K.lookup f13 = some ⟨oc13, od13, .func (PySem.W.fnOf "bridge_said" "bridge_said" (defArgs sBridgeSaid) (defBody sBridgeSaid) (defScope sBridgeSaid) .none kV13 dc13 pm13 an13 cd13 ct13), sl13⟩) (c13 : PySem.W.codeIn K cd13 "bridge_said" = true) (k13 : PySem.W.keepIn K (.ref f13) = true)
    (z1 : PySem.W.nsIn K mainGlobals "len" = some none) (z2 : PySem.W.nsIn K mainGlobals "list" = some none) (z3 : PySem.W.nsIn K mainGlobals "tuple" = some none) (z4 : PySem.W.nsIn K mainGlobals "range" = some none) (z5 : PySem.W.nsIn K mainGlobals "sorted" = some none) (z6 : PySem.W.nsIn K mainGlobals "dict" = some none) (z7 : PySem.W.nsIn K mainGlobals "repr" = some none) : LawAt l.prog w K mg fa := by
  have e := hfa.symm.trans (PySem.W.mg_of X G a11)
  cases e
  have F1 := fun_mk (st := sRules) l1 c1 k1
  have b1 := F1.binds (ps := ["house", "hand"]) fun _ _ _ _ _ _ us hl => match us, hl with | [_, _], _ => rfl
  have m1 := PySem.W.mg_of X G a1
  have F2 := fun_mk (st := sScheme) l2 c2 k2
  have b2 := F2.binds (ps := ["house", "hand", "word", "saying"]) fun _ _ _ _ _ _ us hl => match us, hl with | [_, _, _, _], _ => rfl
  have m2 := PySem.W.mg_of X G a2
  have F3 := fun_mk (st := sBridge) l3 c3 k3
  have b3 := F3.binds (ps := ["house", "one", "other", "saying"]) fun _ _ _ _ _ _ us hl => match us, hl with | [_, _, _, _], _ => rfl
  have m3 := PySem.W.mg_of X G a3
  have F4 := fun_mk (st := sFeed) l4 c4 k4
  have b4 := F4.binds (ps := ["_law_script"]) fun _ _ _ _ _ _ us hl => match us, hl with | [_], _ => rfl
  have m4 := PySem.W.mg_of X G a4
  have F5 := fun_mk (st := sDraw) l5 c5 k5
  have b5 := F5.binds (ps := ["_law_feed_here", "_law_size"]) fun _ _ _ _ _ _ us hl => match us, hl with | [_, _], _ => rfl
  have m5 := PySem.W.mg_of X G a5
  have F6 := fun_mk (st := sClaim) l6 c6 k6
  have b6 := F6.binds (ps := ["_law_feed_here", "_law_crew", "_law_deep"]) fun _ _ _ _ _ _ us hl => match us, hl with | [_, _, _], _ => rfl
  have m6 := PySem.W.mg_of X G a6
  have F7 := fun_mk (st := sLots) l7 c7 k7
  have b7 := F7.binds (ps := ["_law_feed_here"]) fun _ _ _ _ _ _ us hl => match us, hl with | [_], _ => rfl
  have m7 := PySem.W.mg_of X G a7
  have F8 := fun_mk (st := sTown) l8 c8 k8
  have b8 := F8.binds (ps := ["_law_feed_here", "_law_limit"]) fun _ _ _ _ _ _ us hl => match us, hl with | [_, _], _ => rfl
  have m8 := PySem.W.mg_of X G a8
  have F9 := fun_mk (st := sScheme2) l9 c9 k9
  have b9 := F9.binds (ps := ["_law_town_here", "_law_who", "_law_word_now", "_law_claim_here"]) fun _ _ _ _ _ _ us hl => match us, hl with | [_, _, _, _], _ => rfl
  have m9 := PySem.W.mg_of X G a9
  have F10 := fun_mk (st := sBridge2) l10 c10 k10
  have b10 := F10.binds (ps := ["_law_town_here", "_law_near", "_law_far", "_law_claim_here"]) fun _ _ _ _ _ _ us hl => match us, hl with | [_, _, _, _], _ => rfl
  have m10 := PySem.W.mg_of X G a10
  have F11 := fun_mk (st := sLaw) l11 c11 k11
  have F12 := fun_mk (st := sRuleSaid) l12 c12 k12
  have b12 := F12.binds (ps := ["hand", "word", "saying"]) fun _ _ _ _ _ _ us hl => match us, hl with | [_, _, _], _ => rfl
  have m12 := PySem.W.mg_of X G a12
  have F13 := fun_mk (st := sBridgeSaid) l13 c13 k13
  have b13 := F13.binds (ps := ["one", "other", "saying"]) fun _ _ _ _ _ _ us hl => match us, hl with | [_, _, _], _ => rfl
  have m13 := PySem.W.mg_of X G a13
  have n1 := PySem.W.mg_none_of X G z1
  have n2 := PySem.W.mg_none_of X G z2
  have n3 := PySem.W.mg_none_of X G z3
  have n4 := PySem.W.mg_none_of X G z4
  have n5 := PySem.W.mg_none_of X G z5
  have n6 := PySem.W.mg_none_of X G z6
  have n7 := PySem.W.mg_none_of X G z7
  refine ⟨_, F11, fun s u => .of_eq rfl, fun base => ?_⟩
  have D : FnOk l.prog w K mg base CX0 (0 + 1) f5 _ _ _ := ok_draw F5 n1
  have L : FnOk l.prog w K mg base CX0 (1 + 1) f7 _ _ _ := ok_lots (k := 1) F7 D b5 k5 m5 n3
  have R : FnOk l.prog w K mg base CX0 (0 + 1) f1 _ _ _ := ok_rules F1
  have RS : FnOk l.prog w K mg base CX0 (0 + 1) f12 _ _ _ := ok_ruleSaid F12
  have BS : FnOk l.prog w K mg base CX0 (0 + 1) f13 _ _ _ := ok_brSaid F13
  exact ⟨f4, f8, f6, f2, f9, f3, f10, _, _, _, _, _, _, _, { F := ok_feed (k := 0) F4 n2, T := ok_town F8 D b5 k5 m5 L b7 k7 m7 n1 n4 n3 n5, C := all_claim F6 D b5 k5 m5 b6 m6 n1 3, S := ok_scheme (k := 1) F2 R b1 k1 m1 RS b12 k12 m12, S2 := ok_scheme2 (k := 0) F9 n6, B := ok_bridge (k := 1) F3 BS b13 k13 m13, B2 := ok_bridge2 (k := 0) F10, bF := b4, bT := b8, bC := b6, bS := b2, bS2 := b9, bB := b3, bB2 := b10, kF := k4, kT := k8, kC := k6, kS := k2, kS2 := k9, kB := k3, kB2 := k10, mF := m4, mT := m8, mC := m6, mS := m2, mS2 := m9, mB := m3, mB2 := m10, mr := n4, mp := n7 }⟩
theorem walk {l : PySem.W.OpenLaw} {q : Program} {loose : List Str} {XP : (Str → Option Value) → Heap → Prop} {YP : World → Heap → Prop} {d : DefRec} {K : Params → PySem.W.Frag} (hn : l.most = some 63) (hdf : d.params.defaults = [])
    (hY : ∀ (w : World) (h : Heap), YP w h → (K w.params).In h)
    (F : ∀ (w : World) (mg : Str → Option Value) (fa : Addr) (h : Heap), (K w.params).In h → h.Ns mainGlobals mg → mg d.name = some (.ref fa) → LawAt l.prog w (K w.params) mg fa) :
    PySem.W.WalkO q loose XP YP l.row.toRowW d [] (fun f vs => PySem.call f vs) := by
  refine Att.attach_call hn hdf fun w s₀ s₁ mg mb fa o pm cd doc a vs ns G Y ho hd hcd hmg hobj hints hlen hg => ?_
  have KX := hY w _ Y
  obtain ⟨fd, FL, hb, kits⟩ := F w mg fa _ KX G.T.g hmg
  refine call_here KX G.T.g G.T.b G.T.builtins G.T.nolimit hg hobj hints (Nat.le_trans hlen (by decide)) fun base H kb nb e0 hS => ?_
  obtain ⟨fF, fT, fC, fS, fS2, fB, fB2, dF, dT, dC, dS, dS2, dB, dB2, kit⟩ := kits base
  exact fn_here (k := 4) (us := [.ref a]) (vs := [.ref a]) (ps := ["_law_script"]) FL scLaw rfl ⟨rfl, by decide, by decide⟩ e0 (hb s₁ (.ref a)) (.cons rfl .nil) fun cdv hr => law_body (outer := []) (Q := fun v _ => v = .bl true) (E := fun _ _ _ => False) kit rfl hr ⟨a, ns, rfl, hS, hlen, fun _ => rfl⟩
end Ms55

open PySem PySem.W PyProof.Rows
set_option maxRecDepth 100000 in
set_option maxHeartbeats 0 in
theorem PySem.Challenge.cw_mustmays_k55_schemes_told_holds : PySem.Challenge.rw_mustmays_k55_schemes_told.Holds := by
  w_on; o_law; k_head; (case hw => w_witness2)
  k_fill
  refine Ms55.walk (l := PySem.Challenge.rw_mustmays_k55_schemes_told) rfl rfl (fun w h Y => PySem.W.kIn_of Y) ?F
  case F =>
    intro w mg fa h KX G hmg
    refine' Ms55.all_mk KX G hmg ?a1 ?l1 ?c1 ?k1 ?a2 ?l2 ?c2 ?k2 ?a3 ?l3 ?c3 ?k3 ?a4 ?l4 ?c4 ?k4 ?a5 ?l5 ?c5 ?k5 ?a6 ?l6 ?c6 ?k6 ?a7 ?l7 ?c7 ?k7 ?a8 ?l8 ?c8 ?k8 ?a9 ?l9 ?c9 ?k9 ?a10 ?l10 ?c10 ?k10 ?a11 ?l11 ?c11 ?k11 ?a12 ?l12 ?c12 ?k12 ?a13 ?l13 ?c13 ?k13 ?z1 ?z2 ?z3 ?z4 ?z5 ?z6 ?z7
    (case a1 => k_is); (case l1 => k_is); (case c1 => k_is); (case k1 => k_is)
    (case a2 => k_is); (case l2 => k_is); (case c2 => k_is); (case k2 => k_is)
    (case a3 => k_is); (case l3 => k_is); (case c3 => k_is); (case k3 => k_is)
    (case a4 => k_is); (case l4 => k_is); (case c4 => k_is); (case k4 => k_is)
    (case a5 => k_is); (case l5 => k_is); (case c5 => k_is); (case k5 => k_is)
    (case a6 => k_is); (case l6 => k_is); (case c6 => k_is); (case k6 => k_is)
    (case a7 => k_is); (case l7 => k_is); (case c7 => k_is); (case k7 => k_is)
    (case a8 => k_is); (case l8 => k_is); (case c8 => k_is); (case k8 => k_is)
    (case a9 => k_is); (case l9 => k_is); (case c9 => k_is); (case k9 => k_is)
    (case a10 => k_is); (case l10 => k_is); (case c10 => k_is); (case k10 => k_is)
    (case a11 => k_is); (case l11 => k_is); (case c11 => k_is); (case k11 => k_is)
    (case a12 => k_is); (case l12 => k_is); (case c12 => k_is); (case k12 => k_is)
    (case a13 => k_is); (case l13 => k_is); (case c13 => k_is); (case k13 => k_is)
    (case z1 => k_is); (case z2 => k_is); (case z3 => k_is); (case z4 => k_is)
    (case z5 => k_is); (case z6 => k_is); (case z7 => k_is)
