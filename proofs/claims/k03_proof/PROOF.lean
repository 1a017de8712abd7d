import PyProof.Rows.All
import Wide.All
import OpenK.AllK
import Wide.FinOn
import HandS.ForMost
import HandS.Wide
import HandS.Flow
import HandS.Deep
import HandS.Codes
import HandS.TupAny
import PyProof.Rows.InDataRows
import KE.SortData
import KE.KDictPairs
import PyProof.ReprRoads
import PyProof.CallFns
import HandS.Style
import HandS.IsInst
import HandS.Text
import HandS.Dict
import PySem.Challenge.RW_mustmays_k03_texts_written
set_option Elab.async false
set_option linter.all false
set_option maxRecDepth 100000
/-! rules of our own over the layer: repr of data, sorted of data, dict of a tuple of pairs -/
namespace Ms03
open PySem PySem.Spec PyProof.Rows L2
section
variable {X : Cx}
/-- repr of data that holds no dict -/
theorem call_reprD (hgd : X.A.guards = some []) : CallR X (.builtin "repr") (fun xs H Q => ∃ x d, xs = [x] ∧ Dp X.K H x d ∧ (d = .none ∨ ∃ ds, d = .tuple ds) ∧ d.showable = true ∧ d.hasDict = false ∧ d.shown.length ≤ sizeLine ∧
    X.A.units + (d.depth + 1) < cLine ∧ Q (.str d.shown) H) := by
  intro pins s σ H xs us Q I r h
  obtain ⟨x, d, rfl, hd, hform, hs, hnd, hsz, hu, q⟩ := h
  obtain ⟨u, rfl, ru⟩ := vals1 r
  rcases hform with rfl | ⟨ds, rfl⟩
  · cases hd
    cases ru
    exact PySem.P.repr_of_none ⟨.str _, H, I.tok _, ⟨_, rfl⟩, q⟩
  · obtain ⟨as, rd⟩ := Dp.reads I _ _ u hd ru
    cases hd with
    | tup hsq hall =>
      cases ru
      exact repr_of_reads' rd hs (fun z => by rw [hnd] at z; cases z) hgd hu (fun _ _ e => e) (fun h' u tk hk => ⟨.str _, H, I.kept hk, ⟨_, rfl⟩, q⟩) hsz
/-- values and what they stand for, one beside the other -/
theorem each_of {R : Value → V × PyData → Prop} : ∀ {bs : List (V × PyData)} {us : List Value}, Vals (bs.map (·.1)) us → (∀ b ∈ bs, ∀ u, RelV b.1 u → R u b) → PySem.W.EachIs R us bs
  | [], _, .nil, _ => .nil
  | b :: bs, _, .cons r t, h => .cons (h b List.mem_cons_self _ r) (each_of t fun c hc => h c (List.mem_cons_of_mem _ hc))
theorem vals_each : ∀ {bs : List (V × PyData)} {us : List Value}, PySem.W.EachIs (fun u b => RelV b.1 u) us bs → Vals (bs.map (·.1)) us
  | _, _, .nil => .nil
  | _, _, .cons r t => .cons r (vals_each t)
/-- sorted of data that are alike -/
theorem call_sortedD : CallR X (.builtin "sorted") (fun xs H Q => ∃ (a : Addr) (bs : List (V × PyData)), xs = [.ref a] ∧ SqL X.K H a (bs.map (·.1)) ∧ (∀ b ∈ bs, Dp X.K H b.1 b.2) ∧ PySem.W.AllAlike (bs.map (·.2)) ∧ PySem.W.Sortable (bs.map (·.2)) ∧
    (∀ b ∈ bs, X.A.units + 2 + b.2.depth < cLine) ∧ ∀ cs p, cs = bs.mergeSort (PySem.W.dataLe false (·.2)) → H p = none → Q (.ref p) (upd H p (.lst (cs.map (·.1))))) := by
  intro pins s σ H xs us Q I r h
  obtain ⟨a, bs, rfl, hq, hdp, hal, hso, hu, q⟩ := h
  obtain ⟨u, rfl, ru⟩ := vals1 r
  cases ru
  obtain ⟨its, rv, pl, hz⟩ := I.list hq
  have hlen := rv.length
  rw [List.length_map] at hlen hz
  refine PySem.W.sorted_data (R := fun u b => RelV b.1 u) (enc := fun b : V × PyData => b.2) pl.isList (each_of rv fun b _ u r => r) (each_of rv fun b hb u r => Dp.reads I _ _ _ (hdp b hb) r) hal hso hz hu fun out ho he => ?_
  have hlo : (bs.mergeSort (PySem.W.dataLe false (·.2))).length = bs.length := List.length_mergeSort _
  refine ⟨.ref (s.heap.objs.size + 1), _, I.laid (t' := s.toks) (fun b o e => sortedAll_old e) (Nat.le_succ _) ?_, rfl, q _ _ rfl (I.hok.fresh (Nat.le_succ _))⟩
  obtain ⟨e, hat⟩ := sortedAll_at s.heap its (List.toArray out)
  exact ⟨by rw [List.length_map, hlo]; exact hz, out, e, vals_each he, hat⟩
/-- tuple of a list: the new object is known -/
theorem call_tupleF : CallR X (.type "tuple") (fun xs H Q => ∃ (a : Addr) (ys : List V), xs = [.ref a] ∧ SqL X.K H a ys ∧ ∀ p o, o.dict = none → H p = none → Q (.ref p) (upd H p (.frz o (.tup ys)))) := by
  intro pins s σ H xs us Q I r h
  obtain ⟨p, ys, rfl, hq, q⟩ := h
  obtain ⟨u, rfl, rx⟩ := vals1 r
  cases rx
  obtain ⟨its, r', pl, hz⟩ := I.list hq
  have hlen := r'.length
  refine call_tuple_list pl.isList (fun h' kp => ?_) (by simp only [List.size_toArray] <;> omega)
  have I1 : Inv X pins σ H { s with heap := h' } := I.kept (t' := s.toks) kp
  have ob : (h'.push { cls := .type "tuple", data := .seq its.toArray }).get? h'.objs.size = some { cls := .type "tuple", data := .seq its.toArray } := Heap.get?_push_size _ rfl
  refine ⟨.ref h'.objs.size, _, I1.laid (t' := s.toks) (fun b o e => Heap.get?_push_of_some _ e) (Nat.le_refl _) ?_, rfl, q _ { cls := .type "tuple", data := .seq its.toArray } rfl (I1.hok.fresh (Nat.le_refl _))⟩
  exact ⟨ob, hz, its, r', IsTup.new _ _⟩
/-- the pairs at some addresses, as the machine has them -/
theorem two_each {pins : List (Addr × Obj)} {σ : L2.St} {H : Hp} {s : Shared} (I : Inv X pins σ H s) : ∀ {ps : List Addr} {kvs : List (Key × V)}, Paired (fun p kv => SqT X.K H p [kV kv.1, kv.2]) ps kvs →
    ∃ (two : List (Value × Value)) (prs : List (Key × Value)), KV kvs prs ∧ two.length = ps.length ∧ prs.length = ps.length ∧ ∀ (j : Nat) (k v : Value), two[j]? = some (k, v) → ∃ (b : Addr) (y : Key), ps[j]? = some b ∧ IsTup s.heap b #[k, v] ∧ prs[j]? = some (y, v) ∧ keyIs y k = true
  | _, _, .nil => ⟨[], [], .nil, rfl, rfl, fun j k v e => by simp at e⟩
  | _, _, .cons (a := p) (b := kv) h t => by
    obtain ⟨two, prs, r, hl, hl2, hp⟩ := two_each I t
    obtain ⟨its, rv, ht, _⟩ := I.tuple h
    obtain ⟨u, y, rfl, ru, ry⟩ := vals2 rv
    refine ⟨(u, y) :: two, (kv.1, y) :: prs, .cons ⟨rfl, ry⟩ r, by simp [hl], by simp [hl2], fun j k v e => ?_⟩
    cases j with
    | zero =>
      have e' := Option.some.inj e
      cases e'
      exact ⟨p, kv.1, rfl, ht, rfl, kV_is (P := X.prog) (w := X.w) ru⟩
    | succ j =>
      obtain ⟨b, z, e1, e2, e3, e4⟩ := hp j k v (by simpa using e)
      exact ⟨b, z, by simpa using e1, e2, by simpa using e3, e4⟩
/-- dict of a known tuple of pairs -/
theorem call_dictF (hcalm : X.calm = true) : CallR X (.type "dict") (fun xs H Q => ∃ (a : Addr) (o : Obj) (ps : List Addr) (kvs : List (Key × V)), xs = [.ref a] ∧ H a = some (.frz o (.tup (ps.map V.ref))) ∧ o.dict = none ∧
    Paired (fun p kv => SqT X.K H p [kV kv.1, kv.2]) ps kvs ∧ ∀ p, H p = none → Q (.ref p) (upd H p (.dK (mergeK [] kvs)))) := by
  intro pins s σ H xs us Q I r q
  obtain ⟨a, o, ps, kvs, rfl, ha, hod, hp, q⟩ := q
  obtain ⟨u, rfl, rx⟩ := vals1 r
  cases rx
  obtain ⟨ho, hz, its, rv, o', ho', hc, n, hdat⟩ := I.hok _ _ ha
  obtain rfl : o = o' := Option.some.inj (ho.symm.trans ho')
  have ei := refs_at rv
  subst ei
  rw [List.length_map] at hz
  obtain ⟨two, prs, rel, hl, hl2, hpr⟩ := two_each I hp
  have hm : (s.heap.objs.size == sysModules) = false := beq_eq_false_iff_ne.mpr (Nat.ne_of_gt I.big)
  refine call_dict_pairs (knd := mixKind X.prog X.w) (kvs := prs) (PairArg.tuple a (ps.map Value.ref).toArray (fun j => ps.getD j 0) two) (I.ok.hd hcalm) ⟨⟨o, n, ho, hc, hod, hdat⟩, ?_, fun j k v e => ?_⟩ ⟨by rw [hl2, hl], fun i key v e => ?_⟩ (by rw [hl]; exact hz) fun h' tk hd' k => ?_
  · simp [hl]
  · obtain ⟨b, y, e1, e2, _⟩ := hpr j k v e
    have eb : ps.getD j 0 = b := by rw [List.getD_eq_getElem?_getD, e1] <;> rfl
    refine ⟨?_, .inl ?_⟩
    · show (ps.map Value.ref).toArray[j]? = some (Value.ref (ps.getD j 0))
      rw [eb]
      simp [e1]
    · show s.heap.IsTuple (ps.getD j 0) #[k, v]
      rw [eb]
      exact e2
  · obtain ⟨b, y, e1, e2, e3, e4⟩ := hpr i key v e
    exact ⟨y, e3, e4⟩
  · have hlen : (mergeK [] kvs).length ≤ sizeLine := by
      refine Nat.le_trans (length_mergeK kvs []) ?_
      rw [List.length_nil, Nat.zero_add, rel.length, hl2]
      exact hz
    exact ⟨.ref s.heap.objs.size, upd H s.heap.objs.size (.dK (mergeK [] kvs)), I.laid (t' := tk) (fun b o e => k b o (by simp) e) (Nat.le_refl _) (show ObjOk X.prog X.w _ _ _ (.dK (mergeK [] kvs)) from ⟨hlen, hm, merged [] prs, KV.merge rel .nil, hd'⟩), rfl, q _ (I.hok.fresh (Nat.le_refl _))⟩
end
end Ms03

namespace Ms03
open PySem PySem.Spec PyProof.Rows L2
/-! ### heaps: all stays but what stands in S; tuples stay -/
def Tp (H H' : Hp) : Prop := ∀ b o, H b = some o → ((∃ xs, o = .tup xs) ∨ ∃ ob u, o = .frz ob u) → H' b = some o
theorem Tp.refl (H : Hp) : Tp H H := fun _ _ h _ => h
theorem Tp.trans {H H1 H2 : Hp} (a : Tp H H1) (b : Tp H1 H2) : Tp H H2 := fun c o h k => b c o (a c o h k) k
theorem Tp.same {H H' : Hp} (h : Same H H') : Tp H H' := fun b o q _ => h b o q
theorem Tp.lst {H : Hp} {p : Addr} {xs : List V} (h : H p = some (.lst xs)) (o : HO) : Tp H (upd H p o) := fun b u q k => by
  by_cases e : b = p
  · subst e
    rw [h] at q
    cases q
    rcases k with ⟨_, e⟩ | ⟨_, _, e⟩ <;> cases e
  · rw [upd_ne e]
    exact q
theorem Tp.tup {K : PySem.W.Frag} {H H' : Hp} {a : Addr} {xs : List V} (e : Tp H H') (h : SqT K H a xs) : SqT K H' a xs := by
  rcases h with (h | ⟨o, h⟩) | h
  · exact .inl (.inl (e _ _ h (.inl ⟨_, rfl⟩)))
  · exact .inl (.inr ⟨o, e _ _ h (.inr ⟨_, _, rfl⟩)⟩)
  · exact .inr h
theorem same_new {H : Hp} {q : Addr} (hq : H q = none) (o : HO) : Same H (upd H q o) := fun b u e => by rw [upd_ne (ne_of_none e hq)]; exact e
structure Go (S : List Addr) (H H' : Hp) : Prop where
  ex : ∀ b o, H b = some o → b ∉ S → H' b = some o
  tp : Tp H H'
section
variable {S : List Addr} {H H' H'' : Hp} {p : Addr}
theorem Go.same (h : Same H H') : Go S H H' := ⟨fun b o q _ => h b o q, .same h⟩
theorem Go.refl : Go S H H := .same (Same.refl H)
theorem Go.trans (a : Go S H H') (b : Go S H' H'') : Go S H H'' := ⟨fun c o h n => b.ex c o (a.ex c o h n) n, a.tp.trans b.tp⟩
theorem Go.new (h : H p = none) (o : HO) : Go S H (upd H p o) := .same (same_new h o)
theorem Go.mono {T : List Addr} (a : Go S H H') (h : ∀ b ∈ S, b ∈ T) : Go T H H' := ⟨fun c o q n => a.ex c o q fun z => n (h c z), a.tp⟩
theorem Go.put {xs : List V} (hp : p ∈ S) (h : H p = some (.lst xs)) (o : HO) : Go S H (upd H p o) := ⟨fun b u q n => by
  rw [upd_ne fun z => n (by rw [z]; exact hp)]
  exact q, .lst h o⟩
/-- a thing that wasn't there at first is written -/
theorem Go.at {H0 : Hp} (hD : H0 p = none) (s : Go S H0 H) (o : HO) : Go S H0 (upd H p o) := ⟨fun b u e n => by
  rw [upd_ne (ne_of_none e hD)]
  exact s.ex b u e n, fun b u e k => by
  rw [upd_ne (ne_of_none e hD)]
  exact s.tp b u e k⟩
end
/-! ### data of tuples alone -/
mutual
def tupD : PyData → Bool
  | .list _ | .dict _ => false
  | .tuple ds => tupDs ds
  | _ => true
def tupDs : List PyData → Bool
  | [] => true
  | d :: ds => tupD d && tupDs ds
end
mutual
theorem dp_tp {K : PySem.W.Frag} {H H' : Hp} (e : Tp H H') : ∀ (d : PyData) (v : V), tupD d = true → Dp K H v d → Dp K H' v d
  | .none, _, _, h => by cases h; exact .non
  | .bool b, _, _, h => by cases h; exact .bl b
  | .int i, _, _, h => by cases h; exact .int i
  | .str x, _, _, h => by cases h; exact .str x
  | .list ds, _, t, _ => by simp [tupD] at t
  | .tuple ds, _, t, h => by
    cases h with
    | tup hs ha => exact .tup (e.tup hs) (dpAll_tp e ds _ (by simpa [tupD] using t) ha)
  | .dict _, _, _, h => by cases h
theorem dpAll_tp {K : PySem.W.Frag} {H H' : Hp} (e : Tp H H') : ∀ (ds : List PyData) (vs : List V), tupDs ds = true → DpAll K H vs ds → DpAll K H' vs ds
  | [], _, _, h => by cases h; exact .nil
  | d :: ds, _, t, h => by
    simp only [tupDs, Bool.and_eq_true] at t
    cases h with
    | cons h1 h2 => exact .cons (dp_tp e d _ t.1 h1) (dpAll_tp e ds _ t.2 h2)
end
section
variable {K : PySem.W.Frag} {H : Hp} {p : Addr}
theorem same_seq {H' : Hp} {a : Addr} {xs : List V} (e : Same H H') (h : SqL K H a xs) : SqL K H' a xs := e.seq h
mutual
theorem dp_same {H' : Hp} (e : Same H H') : ∀ (d : PyData) (v : V), Dp K H v d → Dp K H' v d
  | .none, _, h => by cases h; exact .non
  | .bool b, _, h => by cases h; exact .bl b
  | .int i, _, h => by cases h; exact .int i
  | .str x, _, h => by cases h; exact .str x
  | .list ds, _, h => by
    cases h with
    | lst hs ha => exact .lst (e.seq hs) (dpAll_same e ds _ ha)
  | .tuple ds, _, h => by
    cases h with
    | tup hs ha => exact .tup ((Tp.same e).tup hs) (dpAll_same e ds _ ha)
  | .dict _, _, h => by cases h
theorem dpAll_same {H' : Hp} (e : Same H H') : ∀ (ds : List PyData) (vs : List V), DpAll K H vs ds → DpAll K H' vs ds
  | [], _, h => by cases h; exact .nil
  | d :: ds, _, h => by
    cases h with
    | cons h1 h2 => exact .cons (dp_same e d _ h1) (dpAll_same e ds _ h2)
end
theorem up {o : HO} {v : V} {d : PyData} (n : H p = none) (h : Dp K H v d) : Dp K (upd H p o) v d := dp_same (same_new n o) _ _ h
theorem new0 (n : H p = none) : Dp K (upd H p (.tup [])) (.ref p) (.tuple []) := .tup (.inl (.inl upd_same)) .nil
theorem new1 {x : V} {a : PyData} (n : H p = none) (hx : Dp K H x a) : Dp K (upd H p (.tup [x])) (.ref p) (.tuple [a]) := .tup (.inl (.inl upd_same)) (.cons (up n hx) .nil)
theorem new2 {x y : V} {a b : PyData} (n : H p = none) (hx : Dp K H x a) (hy : Dp K H y b) : Dp K (upd H p (.tup [x, y])) (.ref p) (.tuple [a, b]) := .tup (.inl (.inl upd_same)) (.cons (up n hx) (.cons (up n hy) .nil))
theorem new3 {x y z : V} {a b c : PyData} (n : H p = none) (hx : Dp K H x a) (hy : Dp K H y b) (hz : Dp K H z c) : Dp K (upd H p (.tup [x, y, z])) (.ref p) (.tuple [a, b, c]) := .tup (.inl (.inl upd_same)) (.cons (up n hx) (.cons (up n hy) (.cons (up n hz) .nil)))
end
theorem zz0 : (0 : Nat) ≤ sizeLine := Nat.zero_le _
theorem zz1 : (1 : Nat) ≤ sizeLine := by decide
theorem zz2 : (2 : Nat) ≤ sizeLine := by decide
theorem zz3 : (3 : Nat) ≤ sizeLine := by decide
theorem zz4 : (4 : Nat) ≤ sizeLine := by decide
theorem zz5 : (5 : Nat) ≤ sizeLine := by decide
/-! ### lists of ints -/
theorem canInts : ∀ ns : List Int, PyData.canLayAll0 (ns.map .int) = true
  | [] => by simp [PyData.canLayAll0]
  | n :: ns => by simp [PyData.canLayAll0, PyData.canLay0, canInts ns]
theorem shInts (ns : List Int) : SeqAt.shaped (.list (ns.map .int)) = true := by
  have h := PySem.W.depth_ints ns
  simp [SeqAt.shaped, PyData.canLay0, canInts ns, PyData.depth, h]
theorem dpInts {K : PySem.W.Frag} {H : Hp} : ∀ ns : List Int, DpAll K H (ns.map V.int) (ns.map .int)
  | [] => .nil
  | n :: ns => .cons (.int n) (dpInts ns)
theorem eqvE : ∀ ds : List PyData, PyData.eqv (.list ds) (.list []) = ds.isEmpty
  | [] => by simp [PyData.eqv, PyData.eqvAll]
  | d :: ds => by simp [PyData.eqv, PyData.eqvAll]
theorem cut_ints (ns : List Int) (lo hi : Option Int) : ∃ ms : List Int, cutV (ns.map V.int) lo hi = ms.map V.int ∧ ms.length ≤ ns.length :=
  ⟨(ns.drop (HT.sIx (ns.map V.int).length 0 lo)).take (HT.sIx (ns.map V.int).length (ns.map V.int).length hi - HT.sIx (ns.map V.int).length 0 lo), by simp only [cutV, List.map_take, List.map_drop], by
    rw [List.length_take, List.length_drop]
    omega⟩
/-! ### picks -/
theorem pick {xs : List V} {i : Int} (h0 : 0 ≤ i) (h1 : i < xs.length) : ∃ z, atI xs i = some z ∧ z ∈ xs := by
  have hj : i.toNat < xs.length := by omega
  exact ⟨xs[i.toNat], at_of (j := i.toNat) (by omega) (List.getElem?_eq_getElem hj), List.getElem_mem hj⟩
theorem set_at {k : Int} {n : Nat} (h0 : 0 ≤ k) (h1 : k < n) : ixN n k = some k.toNat := by unfold ixN; rw [if_pos h0, if_pos h1]
/-! ### a reading cut in two -/
def tCe (t : TE) : TE := fun σ H Q => ∃ M : VK, t σ H M ∧ ∀ v H', M v H' → Q v H'
theorem pe_cut {X : Cx} {e : Expr} {t : TE} (h : PE X e t) : PE X e (tCe t) := ⟨fun pins s σ H Q I ⟨M, m, k⟩ => thn (h.run pins s σ H M I m) fun _ _ ⟨x, H1, I1, r1, q1⟩ => ⟨x, H1, I1, r1, k x H1 q1⟩⟩
/-! ### the feed: a list of the cells, the next one, what is left, how many draws -/
def fdL (c : Addr) (nx lf dr : Int) : List V := [.ref c, .int nx, .int lf, .int dr]
/-- the feed stands at p, its cells at c (another list), no more than n draws were made -/
def Fd (K : PySem.W.Frag) (H : Hp) (p c : Addr) (cells : List Int) (n : Int) : Prop := ∃ nx lf dr : Int, H p = some (.lst (fdL c nx lf dr)) ∧ H c = some (.lst (cells.map V.int)) ∧ c ≠ p ∧ cells.length ≤ 63 ∧ 0 ≤ nx ∧ nx ≤ n ∧ 0 ≤ lf ∧ 0 ≤ dr ∧ dr ≤ n
section
variable {K : PySem.W.Frag} {H H' : Hp} {p c : Addr} {cells : List Int} {n m : Int}
theorem Fd.mono (h : Fd K H p c cells n) (e : n ≤ m) : Fd K H p c cells m := by
  obtain ⟨nx, lf, dr, h1, h2, h0, h3, h4, h4', h5, h6, h7⟩ := h
  exact ⟨nx, lf, dr, h1, h2, h0, h3, h4, by omega, h5, h6, by omega⟩
theorem Fd.same (h : Fd K H p c cells n) (e : Same H H') : Fd K H' p c cells n := by
  obtain ⟨nx, lf, dr, h1, h2, h3⟩ := h
  exact ⟨nx, lf, dr, e _ _ h1, e _ _ h2, h3⟩
theorem Fd.new {q : Addr} (h : Fd K H p c cells n) (hq : H q = none) (o : HO) : Fd K (upd H q o) p c cells n := h.same (same_new hq o)
/-- another thing is written -/
theorem Fd.off {D : Addr} (h : Fd K H p c cells n) (hp : D ≠ p) (hc : D ≠ c) (o : HO) : Fd K (upd H D o) p c cells n := by
  obtain ⟨nx, lf, dr, h1, h2, h3⟩ := h
  exact ⟨nx, lf, dr, by rw [upd_ne hp.symm]; exact h1, by rw [upd_ne hc.symm]; exact h2, h3⟩
/-- a thing that wasn't there at first is written -/
theorem Fd.put {H0 : Hp} {D : Addr} {n0 : Int} (h0 : Fd K H0 p c cells n0) (hD : H0 D = none) (h : Fd K H p c cells n) (o : HO) : Fd K (upd H D o) p c cells n := by
  obtain ⟨_, _, _, g1, g2, _⟩ := h0
  have hp : D ≠ p := (ne_of_none g1 hD).symm
  exact h.off hp (ne_of_none g2 hD).symm o
end
/-- what a draw promises -/
def spDraw (K : PySem.W.Frag) : Sp := fun vs H Q _ => ∃ (p c : Addr) (cells : List Int) (sz n : Int), vs = [.ref p, .int sz] ∧ Fd K H p c cells n ∧ 0 < sz ∧ sz ≤ 1000 ∧ n ≤ 1000000000 ∧ ∀ H' i, Go [p] H H' → Fd K H' p c cells (n + 1) → 0 ≤ i → i < sz → Q (.int i) H'
def spFeed (K : PySem.W.Frag) : Sp := fun vs H Q _ => ∃ (a : Addr) (ns : List Int), vs = [.ref a] ∧ SqL K H a (ns.map V.int) ∧ ns.length ≤ 63 ∧ ∀ H' p c cells, Same H H' → H p = none → Fd K H' p c cells 0 → Q (.ref p) H'
end Ms03

namespace Ms03
open PySem PySem.Spec PyProof.Rows L2
def topS (i : Nat) : Stmt := PySem.Challenge.pw_mustmays_k03_texts_written.main.body.getD i (.Pass ⟨0, 0, 0, 0⟩)
abbrev sFeed : Stmt := topS 5
abbrev sDraw : Stmt := topS 6
abbrev sSaying : Stmt := topS 7
theorem scFeed : FnScope ["_law_script"] ["_law_script"] (defScope sFeed) := ⟨rfl, rfl, rfl, by decide +kernel, rfl, by decide +kernel, by decide +kernel⟩
theorem scDraw : FnScope ["_law_feed_here", "_law_many", "_law_found", "_law_cell", "_law_mixed"] ["_law_feed_here", "_law_many"] (defScope sDraw) := ⟨rfl, rfl, rfl, by decide +kernel, rfl, by decide +kernel, by decide +kernel⟩
section
variable {P : Program} {w : World} {K : PySem.W.Frag} {mg : Str → Option Value} {base : Heap}
theorem ok_feed {f : Addr} {fd : FuncData} {k : Nat} (F : Fun K "_law_feed" "_law_feed" sFeed f fd) : FnOk P w K mg base CX0 (k + 1) f fd ["_law_script"] (spFeed K) := by
  refine F.ok scFeed (fun vs H Q E h => ?_) (fun cdv A outer s H vs Q E hr h => ?_)
  · obtain ⟨a, ns, rfl, _⟩ := h
    rfl
  obtain ⟨a, ns, rfl, hS, h63, q⟩ := h
  refine ⟨_, pss_one (ps_ret (pe_lst (pa_cons (pe_slice sl_list (pv 0) po_none (po_some pe_int)) (pa_cons pe_int (pa_cons pe_int (pa_cons pe_int pa_nil)))))), ?_⟩
  refine ⟨_, rfl, 63, rfl, a, _, rfl, hS, fun l hl => ⟨zz4, fun p hp => ?_⟩⟩
  obtain ⟨ms, em, hm⟩ := cut_ints ns none (some 63)
  rw [em] at hp ⊢
  have s2 := same_new hl (.lst (ms.map V.int))
  have np : H p = none := s2.free hp
  have lp : l ≠ p := ne_of_none upd_same hp
  refine q _ p l ms (s2.trans (same_new hp _)) np ⟨0, 0, 0, upd_same, (by rw [upd_ne lp]; exact upd_same), lp, by omega, by omega, by omega, by omega, by omega, by omega⟩
theorem ok_draw {f : Addr} {fd : FuncData} {k : Nat} (F : Fun K "_law_draw" "_law_draw" sDraw f fd) (ml : mg "len" = none) : FnOk P w K mg base CX0 (k + 1) f fd ["_law_feed_here", "_law_many"] (spDraw K) := by
  refine F.ok scDraw (fun vs H Q E h => ?_) (fun cdv A outer s H vs Q E hr h => ?_)
  · obtain ⟨p, c, cells, sz, n, rfl, _⟩ := h
    rfl
  obtain ⟨p, c, cells, sz, n, rfl, hF, hs0, hs1, hn, q⟩ := h
  have nd := scDraw.nd
  refine ⟨_, pss_cons (ps_asg (pe_op op_add (pe_ix ix_list (pv 0) pe_int (fun _ _ => rfl)) pe_int) (pg_sub (pv 0) pe_int set_list))
    (pss_cons (ps_if (pt_cmpR op_gt (pe_ix ix_list (pv 0) pe_int (fun _ _ => rfl)) pe_int (nomark _))
      (pss_cons (ps_set (i := 2) nd rfl (.inl rfl) (pe_op op_mod (pe_ix ix_list (pv 0) pe_int (fun _ _ => rfl)) (pv 1)))
      (pss_cons (ps_asg (pe_op op_fdivW (pe_ix ix_list (pv 0) pe_int (fun _ _ => rfl)) (pv 1)) (pg_sub (pv 0) pe_int set_list))
      (pss_one (ps_ret (pv 2))))) pss_nil)
    (pss_cons (ps_set (i := 3) nd rfl (.inl rfl) pe_int)
    (C8.pss_cut (ps_if (pt_cmpR (op_neD hr.units) (pe_ix ix_list (pv 0) pe_int (fun _ _ => rfl)) (pe_lst pa_nil) (nomark _))
      (pss_one (ps_set (i := 3) nd rfl (.inl rfl) (pe_ix ix_list (pe_ix ix_list (pv 0) pe_int (fun _ _ => rfl)) (pe_op op_mod (pe_ix ix_list (pv 0) pe_int (fun _ _ => rfl)) (pe_callB call_len_seq (by rfl) ml PySem.boot_len (pa_cons (pe_ix ix_list (pv 0) pe_int (fun _ _ => rfl)) pa_nil))) (fun _ _ => rfl)))) pss_nil)
    (pss_cons (ps_asg (pe_op op_add (pe_ix ix_list (pv 0) pe_int (fun _ _ => rfl)) pe_int) (pg_sub (pv 0) pe_int set_list))
    (C8.pss_cut (ps_if (PW.pt (pw_and (pt_cmpR op_ge (pv 3) (pe_op op_pow pe_int pe_int) (nomark _)) (pw_and1 (pt_cmpR op_le (pe_ix ix_list (pv 0) pe_int (fun _ _ => rfl)) (pe_callB call_len_seq (by rfl) ml PySem.boot_len (pa_cons (pe_ix ix_list (pv 0) pe_int (fun _ _ => rfl)) pa_nil)) (nomark _)))))
      (pss_cons (ps_asg (pe_op op_fdivW (pv 3) (pv 1)) (pg_sub (pv 0) pe_int set_list))
      (pss_one (ps_ret (pe_op op_mod (pv 3) (pv 1))))) pss_nil)
    (pss_cons (ps_set (i := 4) nd rfl (.inl rfl) (pe_op op_mod (pe_op op_pow (pe_op op_add (pe_op op_add (pe_op op_mod (pv 3) pe_int) (pe_op op_mul pe_int (pe_ix ix_list (pv 0) pe_int (fun _ _ => rfl)))) pe_int) pe_int) pe_int))
    (pss_one (ps_ret (pe_op op_mod (pe_op op_fdiv (pe_op op_mod (pe_op op_pow (pe_op op_add (pv 4) (pe_op op_mul pe_int (pe_ix ix_list (pv 0) pe_int (fun _ _ => rfl)))) pe_int) pe_int) pe_int) (pv 1)))))))))), ?_⟩
  obtain ⟨nx, lf, dr, h1, h2, h0, h3, h4, h4', h5, h6, h7⟩ := hF
  have wd : ∀ i : Int, CDivW i sz := fun i => wide_div (b := 10) hs0 (by omega) (by decide) (by decide)
  -- feed[3] = feed[3] + 1
  refine ⟨_, rfl, p, _, 3, _, rfl, rfl, .inl (.inl h1), rfl, dr, 1, rfl, rfl, _, rfl, p, _, 3, 3, rfl, rfl, h1, rfl, ?_⟩
  have ch : ∀ {H' : Hp}, Go [p] H H' → H' c = some (.lst (cells.map V.int)) := fun {H'} g => g.ex _ _ h2 (by simpa using h0)
  have cc : ∀ {H' : Hp}, Go [p] H H' → SqL K H' c (cells.map V.int) := fun {H'} g => SqL.of (ch g)
  have g1 : Go [p] H (upd H p (.lst ((fdL c nx lf dr).set 3 (.int (dr + 1))))) := Go.put List.mem_cons_self h1 _
  have e1 : (upd H p (.lst ((fdL c nx lf dr).set 3 (.int (dr + 1))))) p = some (.lst (fdL c nx lf (dr + 1))) := upd_same
  generalize upd H p (.lst ((fdL c nx lf dr).set 3 (.int (dr + 1)))) = H1 at g1 e1
  -- if feed[2] > 0
  refine ⟨_, rfl, p, _, 2, _, rfl, rfl, .inl (.inl e1), rfl, lf, 0, rfl, rfl, _, rfl, ite2 (fun c0 => ?_) (fun c0 => ?_)⟩
  · refine ⟨_, rfl, p, _, 2, _, rfl, rfl, .inl (.inl e1), rfl, _, rfl, lf, sz, rfl, rfl, hs0, ?_⟩
    refine ⟨_, rfl, p, _, 2, _, rfl, rfl, .inl (.inl e1), rfl, _, rfl, lf, sz, rfl, rfl, wd lf, _, rfl, p, _, 2, 2, rfl, rfl, e1, rfl, ?_⟩
    have g2 := g1.trans (Go.put List.mem_cons_self e1 (.lst ((fdL c nx lf (dr + 1)).set 2 (.int (lf / sz)))))
    exact ⟨_, rfl, q _ _ g2 ⟨nx, lf / sz, dr + 1, upd_same, ch g2, h0, h3, h4, by omega, Int.ediv_nonneg h5 (by omega), by omega, by omega⟩ (Int.emod_nonneg _ (by omega)) (Int.emod_lt_of_pos _ hs0)⟩
  -- cell = 5; if feed[0] != []
  refine ⟨fun σ' H' => ∃ g : Int, σ' = [some (.ref p), some (.int sz), none, some (.int g), none] ∧ Same H1 H', ?_, ?_⟩
  · refine ⟨_, rfl, p, _, 0, _, rfl, rfl, .inl (.inl e1), rfl, zz0, fun r hr' => ?_⟩
    have sm := same_new hr' (.lst [])
    refine ⟨.list (cells.map .int), .list [], .lst (sm.seq (cc g1)) (dpInts cells), .lst (.inl (.inl upd_same)) .nil, shInts cells, by decide, _, rfl, ?_⟩
    rw [eqvE]
    cases cells with
    | nil => exact iteF ⟨5, rfl, sm⟩
    | cons x r =>
      have e3 := sm _ _ e1
      refine iteT ⟨_, rfl, p, _, 0, _, rfl, rfl, .inl (.inl e3), rfl, _, rfl, p, _, 1, _, rfl, rfl, .inl (.inl e3), rfl, _, rfl, p, _, 0, _, rfl, rfl, .inl (.inl e3), rfl, c, _, rfl, .inl (sm.seq (cc g1)), nx, _, rfl, rfl, ?_, ?_⟩
      · rw [List.length_map, List.length_cons]
        omega
      · have hpos : (0 : Int) < (((x :: r).map V.int).length : Nat) := by
          rw [List.length_map, List.length_cons]
          omega
        have a0 := Int.emod_nonneg nx (Int.ne_of_gt hpos)
        have a1 := Int.emod_lt_of_pos nx hpos
        obtain ⟨z, hz, mz⟩ := pick a0 a1
        obtain ⟨g, _, rfl⟩ := List.mem_map.mp mz
        exact ⟨c, _, _, _, rfl, rfl, sm.seq (cc g1), hz, _, rfl, sm⟩
  rintro σ' H2 ⟨g, rfl, sm⟩
  have e2 := sm _ _ e1
  have s2 : Go [p] H H2 := g1.trans (.same sm)
  -- feed[1] = feed[1] + 1
  refine ⟨_, rfl, p, _, 1, _, rfl, rfl, .inl (.inl e2), rfl, nx, 1, rfl, rfl, _, rfl, p, _, 1, 1, rfl, rfl, e2, rfl, ?_⟩
  have s3 := s2.trans (Go.put List.mem_cons_self e2 (.lst ((fdL c nx lf (dr + 1)).set 1 (.int (nx + 1)))))
  have e3 : (upd H2 p (.lst ((fdL c nx lf (dr + 1)).set 1 (.int (nx + 1))))) p = some (.lst (fdL c (nx + 1) lf (dr + 1))) := upd_same
  generalize upd H2 p (.lst ((fdL c nx lf (dr + 1)).set 1 (.int (nx + 1)))) = H3 at s3 e3
  have f3 : Fd K H3 p c cells (n + 1) := ⟨nx + 1, lf, dr + 1, e3, ch s3, h0, h3, by omega, by omega, h5, by omega, by omega⟩
  -- if cell >= 10 ** 18 and ..
  refine ⟨fun σ' H' => σ' = [some (.ref p), some (.int sz), none, some (.int g), none] ∧ H' = H3, ?_, ?_⟩
  · refine ⟨_, rfl, 10, 18, rfl, rfl, ⟨by decide, by decide, by decide⟩, g, _, rfl, rfl, _, rfl, ite2 (fun ca => ?_) (fun ca => iteF ⟨rfl, rfl⟩)⟩
    have hg : (10 : Int) ^ 18 ≤ g := of_decide_eq_true ca
    refine ⟨_, rfl, p, _, 1, _, rfl, rfl, .inl (.inl e3), rfl, _, rfl, p, _, 0, _, rfl, rfl, .inl (.inl e3), rfl, c, _, rfl, .inl (cc s3), _, _, rfl, rfl, _, rfl, ite2 (fun cb => ?_) (fun cb => ⟨rfl, rfl⟩)⟩
    refine ⟨_, rfl, _, rfl, g, sz, rfl, rfl, wd g, _, rfl, p, _, 2, 2, rfl, rfl, e3, rfl, ?_⟩
    have s4 := s3.trans (Go.put List.mem_cons_self e3 (.lst ((fdL c (nx + 1) lf (dr + 1)).set 2 (.int (g / sz)))))
    refine ⟨_, rfl, _, rfl, g, sz, rfl, rfl, hs0, ?_⟩
    exact q _ _ s4 ⟨nx + 1, g / sz, dr + 1, upd_same, ch s4, h0, h3, by omega, by omega, Int.ediv_nonneg (by omega) (by omega), by omega, by omega⟩ (Int.emod_nonneg _ (by omega)) (Int.emod_lt_of_pos _ hs0)
  rintro σ' H4 ⟨rfl, rfl⟩
  have b0 := Int.emod_nonneg g (show (2147483629 : Int) ≠ 0 by decide)
  have b1 := Int.emod_lt_of_pos g (show (0 : Int) < 2147483629 by decide)
  refine ⟨_, rfl, g, 2147483629, rfl, rfl, (show (0 : Int) < 2147483629 by decide), _, rfl, p, _, 3, _, rfl, rfl, .inl (.inl e3), rfl, 7919, dr + 1, rfl, rfl, .inl ⟨by decide, by decide⟩, _, _, rfl, rfl, _, _, rfl, rfl, _, _, rfl, rfl, ⟨by decide, by decide, ?_⟩, _, _, rfl, rfl, (show (0 : Int) < 2147483647 by decide), ?_⟩
  · omega
  generalize (g % 2147483629 + 7919 * (dr + 1) + 1) ^ (5 : Int).toNat = y
  have d0 := Int.emod_nonneg y (show (2147483647 : Int) ≠ 0 by decide)
  have d1 := Int.emod_lt_of_pos y (show (0 : Int) < 2147483647 by decide)
  refine ⟨_, rfl, _, rfl, p, _, 3, _, rfl, rfl, .inl (.inl e3), rfl, 104729, dr + 1, rfl, rfl, .inl ⟨by decide, by decide⟩, _, _, rfl, rfl, _, _, rfl, rfl, ⟨by decide, by decide, ?_⟩, _, _, rfl, rfl, (show (0 : Int) < 2147483587 by decide), _, _, rfl, rfl, ⟨by decide, by decide⟩, _, rfl, _, sz, rfl, rfl, hs0, ?_⟩
  · omega
  exact q _ _ s3 f3 (Int.emod_nonneg _ (by omega)) (Int.emod_lt_of_pos _ hs0)
end
end Ms03

namespace Ms03
open PySem PySem.Spec PyProof.Rows L2
/-! ### sayings as data -/
/-- all words that stand in the law's sayings -/
def poolW : List Str := ["a", "b", "p", "h", "k", "zz", "z", "zy", "zyx", "zyxw", "zyxwv", "zyxwvu", "zyxwvut", "zyxwvuts", "abcdefgh"]
structure Wd (x : Str) : Prop where
  ok : PyData.strOk x = true
  sh : (PyData.str x).shown.length ≤ 20
  mem : x ∈ poolW
def letD (x : Str) : PyData := .tuple [.str "letter", .str x]
def notD (a : PyData) : PyData := .tuple [.str "not", a]
def manyD (w : Str) (ds : List PyData) : PyData := .tuple [.str w, .tuple ds]
def twoD (w : Str) (a b : PyData) : PyData := .tuple [.str w, a, b]
def modD (w h : Str) (a : PyData) : PyData := .tuple [.str w, .str h, a]
/-- a saying, no more than so many levels deep; with "told" or without -/
def Say (tl : Bool) : Nat → PyData → Prop
  | 0, _ => False
  | n + 1, d => (∃ x, Wd x ∧ d = letD x) ∨ (∃ a, Say tl n a ∧ d = notD a) ∨ (∃ (w : Str) (ds : List PyData), (w = "and" ∨ w = "or") ∧ (∀ a ∈ ds, Say tl n a) ∧ d = manyD w ds) ∨
      (∃ (w : Str) (a b : PyData), (w = "so" ∨ (w = "told" ∧ tl = true)) ∧ Say tl n a ∧ Say tl n b ∧ d = twoD w a b) ∨ (∃ (w h : Str) (a : PyData), (w = "must" ∨ w = "may") ∧ Wd h ∧ Say tl n a ∧ d = modD w h a)
theorem Say.mono {tl : Bool} : ∀ {n m : Nat} {d : PyData}, Say tl n d → n ≤ m → Say tl m d
  | 0, _, _, h, _ => h.elim
  | n + 1, 0, _, _, e => absurd e (by omega)
  | n + 1, m + 1, d, h, e => by
    have e' : n ≤ m := by omega
    rcases h with h | ⟨a, h, q⟩ | ⟨w, ds, hw, h, q⟩ | ⟨w, a, b, hw, h, g, q⟩ | ⟨w, x, a, hw, hx, h, q⟩
    · exact .inl h
    · exact .inr (.inl ⟨a, h.mono e', q⟩)
    · exact .inr (.inr (.inl ⟨w, ds, hw, fun a ha => (h a ha).mono e', q⟩))
    · exact .inr (.inr (.inr (.inl ⟨w, a, b, hw, h.mono e', g.mono e', q⟩)))
    · exact .inr (.inr (.inr (.inr ⟨w, x, a, hw, hx, h.mono e', q⟩)))
/-- what stands straight in a saying -/
def inn : PyData → List PyData
  | .tuple (.str w :: r) => if w = "letter" then [] else if w = "and" ∨ w = "or" then (match r with | [.tuple ds] => ds | _ => []) else if w = "must" ∨ w = "may" then r.drop 1 else r
  | _ => []
theorem inn_let (x : Str) : inn (letD x) = [] := by simp [inn, letD]
theorem inn_not (a : PyData) : inn (notD a) = [a] := by
  simp only [inn, notD]
  rw [if_neg (by decide), if_neg (by decide), if_neg (by decide)]
theorem inn_many {w : Str} (ds : List PyData) (h : w = "and" ∨ w = "or") : inn (manyD w ds) = ds := by
  simp only [inn, manyD]
  rw [if_neg (by rcases h with rfl | rfl <;> decide), if_pos h]
theorem inn_two {w : Str} (a b : PyData) (h : w = "so" ∨ w = "told") : inn (twoD w a b) = [a, b] := by
  simp only [inn, twoD]
  rw [if_neg (by rcases h with rfl | rfl <;> decide), if_neg (by rcases h with rfl | rfl <;> decide), if_neg (by rcases h with rfl | rfl <;> decide)]
theorem inn_mod {w : Str} (x : Str) (a : PyData) (h : w = "must" ∨ w = "may") : inn (modD w x a) = [a] := by
  simp only [inn, modD]
  rw [if_neg (by rcases h with rfl | rfl <;> decide), if_neg (by rcases h with rfl | rfl <;> decide), if_pos h]
  rfl
/-- how many parts, gone through so deep -/
def psz : Nat → PyData → Nat
  | 0, _ => 0
  | n + 1, d => 1 + ((inn d).map (psz n)).sum
theorem tupD_say {tl : Bool} : ∀ {n : Nat} {d : PyData}, Say tl n d → tupD d = true
  | 0, _, h => h.elim
  | n + 1, d, h => by
    rcases h with ⟨x, _, rfl⟩ | ⟨a, h, rfl⟩ | ⟨w, ds, hw, h, rfl⟩ | ⟨w, a, b, hw, h, g, rfl⟩ | ⟨w, x, a, hw, hx, h, rfl⟩
    · simp [letD, tupD, tupDs]
    · simp [notD, tupD, tupDs, tupD_say h]
    · have all : ∀ es : List PyData, (∀ a ∈ es, Say tl n a) → tupDs es = true := fun es => by
        induction es with
        | nil => intro _; simp [tupDs]
        | cons e es ih =>
          intro k
          simp [tupDs, tupD_say (k e List.mem_cons_self), ih fun a ha => k a (List.mem_cons_of_mem _ ha)]
      simp [manyD, tupD, tupDs, all ds h]
    · simp [twoD, tupD, tupDs, tupD_say h, tupD_say g]
    · simp [modD, tupD, tupDs, tupD_say h]
def fL (L : Int) : Nat := (L - 1).toNat
/-- what the making of a saying promises -/
def spSaying (K : PySem.W.Frag) (m : Nat) : Sp := fun vs H Q _ => ∃ (p c : Addr) (cells : List Int) (n : Int) (q : Addr) (L : Int) (tl : Bool), vs = [.ref p, .ref q, .bl tl] ∧ Fd K H p c cells n ∧ H q = some (.lst [.int L]) ∧ q ≠ p ∧ q ≠ c ∧ 0 < m ∧ L ≤ m ∧
  n + 2 * (1 + 3 * (fL L : Int)) ≤ 1000000000 ∧ ∀ (H' : Hp) (a : Addr) (d : PyData) (L' : Int) (k : Nat), Go [p, q] H H' → Fd K H' p c cells (n + 2 * (1 + 3 * (k : Int))) → H' q = some (.lst [.int L']) → L' ≤ L → k + fL L' ≤ fL L → Say tl (k + 1) d → (∀ j, psz j d ≤ 1 + 3 * k) → Dp K H' (.ref a) d → Q (.ref a) H'
abbrev NS' : List Str := ["_law_feed_here", "_law_left", "_law_told", "_law_way", "_law_many", "_law_some", "_law_hand", "_law_k"]
theorem scSaying : FnScope NS' ["_law_feed_here", "_law_left", "_law_told"] (defScope sSaying) := ⟨rfl, rfl, rfl, by decide +kernel, rfl, by decide +kernel, by decide +kernel⟩
theorem fL_succ {L : Int} (h : 2 ≤ L) : fL L = fL (L - 1) + 1 := by unfold fL; omega
theorem fL_le {L M : Int} (h : L ≤ M) : fL L ≤ fL M := by unfold fL; omega
theorem psz_let (x : Str) (j : Nat) : psz j (letD x) ≤ 1 := by cases j <;> simp [psz, inn_let]
theorem psz_1 {d e : PyData} {k : Nat} (i : inn d = [e]) (h : ∀ j, psz j e ≤ 1 + 3 * k) (j : Nat) : psz j d ≤ 1 + 3 * (k + 1) := by
  cases j with
  | zero => simp [psz]
  | succ j =>
    have := h j
    simp only [psz, i, List.map_cons, List.map_nil, List.sum_cons, List.sum_nil]
    omega
theorem psz_2 {d e f : PyData} {k l : Nat} (i : inn d = [e, f]) (h : ∀ j, psz j e ≤ 1 + 3 * k) (g : ∀ j, psz j f ≤ 1 + 3 * l) (j : Nat) : psz j d ≤ 1 + 3 * (k + l + 1) := by
  cases j with
  | zero => simp [psz]
  | succ j =>
    have := h j
    have := g j
    simp only [psz, i, List.map_cons, List.map_nil, List.sum_cons, List.sum_nil]
    omega
theorem psz_m {d : PyData} {ds : List PyData} {k : Nat} (i : inn d = ds) (hl : ds.length ≤ 3) (h : ∀ j, (ds.map (psz j)).sum ≤ ds.length + 3 * k) (j : Nat) : psz j d ≤ 1 + 3 * (k + 1) := by
  cases j with
  | zero => simp [psz]
  | succ j =>
    have := h j
    simp only [psz, i]
    omega
theorem dpAll_snoc {K : PySem.W.Frag} {H : Hp} {v : V} {d : PyData} (h : Dp K H v d) : ∀ {ds : List PyData} {vs : List V}, DpAll K H vs ds → DpAll K H (vs ++ [v]) (ds ++ [d])
  | [], _, .nil => .cons h .nil
  | _ :: _, _, .cons a b => .cons a (dpAll_snoc h b)
theorem dpAll_len {K : PySem.W.Frag} {H : Hp} : ∀ {ds : List PyData} {vs : List V}, DpAll K H vs ds → vs.length = ds.length
  | [], _, .nil => rfl
  | _ :: _, _, .cons a b => congrArg (· + 1) (dpAll_len b)
theorem tupDs_say {tl : Bool} {n : Nat} : ∀ {ds : List PyData}, (∀ a ∈ ds, Say tl n a) → tupDs ds = true
  | [], _ => by simp [tupDs]
  | d :: ds, h => by simp [tupDs, tupD_say (h d List.mem_cons_self), tupDs_say fun a ha => h a (List.mem_cons_of_mem _ ha)]
theorem wd_by {x : Str} (h : PyData.strOk x = true) (g : (PyData.str x).shown.length ≤ 20) (m : x ∈ poolW := by decide +kernel) : Wd x := ⟨h, g, m⟩
section
variable {P : Program} {w : World} {K : PySem.W.Frag} {mg : Str → Option Value} {base : Heap}
theorem ok_saying {f g : Addr} {fd gd : FuncData} {m : Nat} (F : Fun K "_law_saying" "_law_saying" sSaying f fd) (D : FnOk P w K mg base CX0 1 g gd ["_law_feed_here", "_law_many"] (spDraw K)) (bD : Binds K gd ["_law_feed_here", "_law_many"] []) (kD : PySem.W.keepIn K (.ref g) = true)
    (mD : mg "_law_draw" = some (.ref g)) (G : FnOk P w K mg base CX0 (m + 1) f fd ["_law_feed_here", "_law_left", "_law_told"] (spSaying K m)) (bG : Binds K fd ["_law_feed_here", "_law_left", "_law_told"] []) (mG : mg "_law_saying" = some (.ref f))
    (mr : mg "range" = none) (mt : mg "tuple" = none) : FnOk P w K mg base CX0 (m + 1 + 1) f fd ["_law_feed_here", "_law_left", "_law_told"] (spSaying K (m + 1)) := by
  refine F.ok scSaying (fun vs H Q E h => ?_) (fun cdv A outer s H vs Q E hr h => ?_)
  · obtain ⟨p, c, cells, n, q, L, tl, rfl, _⟩ := h
    rfl
  obtain ⟨p, c, cells, n, q, L, tl, rfl, hF, hq, hqp, hqc, _, hLm, hn, fin⟩ := h
  have hr1 := hr.mono (show 1 ≤ m + 1 by omega)
  have kG := F.kp
  have nd := scSaying.nd
  refine ⟨_, pss_cons (ps_asg (pe_op op_sub (pe_ix ix_list (pv 1) pe_int (fun _ _ => rfl)) pe_int) (pg_sub (pv 1) pe_int set_list))
    (pss_cons (ps_set (i := 3) nd rfl (.inl rfl) (pe_call D hr1 (by rfl) mD kD bD .nil pass0 (pa_cons (pv 0) (pa_cons pe_int pa_nil))))
    (pss_cons (ps_if (PW.pt (pw_or (pt_cmpR op_lt (pv 3) pe_int (nomark _)) (pw_or1 (pt_cmpR op_lt (pe_ix ix_list (pv 1) pe_int (fun _ _ => rfl)) pe_int (nomark _)))))
      (pss_one (ps_ret (pe_tup (pa_cons pe_str (pa_cons (pe_ix ix_list (pe_lst (pa_cons pe_str (pa_cons pe_str (pa_cons pe_str pa_nil)))) (pe_call D hr1 (by rfl) mD kD bD .nil pass0 (pa_cons (pv 0) (pa_cons pe_int pa_nil))) (fun _ _ => rfl)) pa_nil))))) pss_nil)
    (pss_cons (ps_if (pt_cmpR op_in_seq (pv 3) (pe_tup (pa_cons pe_int (pa_cons pe_int pa_nil))) (by rfl))
      (pss_one (ps_ret (pe_tup (pa_cons pe_str (pa_cons (pe_call G hr (by rfl) mG kG bG .nil pass0 (pa_cons (pv 0) (pa_cons (pv 1) (pa_cons (pv 2) pa_nil)))) pa_nil))))) pss_nil)
    (pss_cons (ps_if (pt_cmpR op_lt (pv 3) pe_int (nomark _))
      (pss_cons (ps_set (i := 4) nd rfl (.inl rfl) (pe_ix ix_list (pe_lst (pa_cons pe_int (pa_cons pe_int (pa_cons pe_int (pa_cons pe_int (pa_cons pe_int pa_nil)))))) (pe_call D hr1 (by rfl) mD kD bD .nil pass0 (pa_cons (pv 0) (pa_cons pe_int pa_nil))) (fun _ _ => rfl)))
      (pss_cons (ps_setLc (i := 5) (own := [("_law_k", 7)]) (g := gName 7) rfl nd rfl rfl (sw_true rfl rfl rfl (by decide +kernel)) (pi_range1 (by rfl) mr (pa_cons (pv 4) pa_nil)) (blkOk_by (N := NS') (sc := defScope sSaying) (by decide +kernel)) (fun _ _ _ _ _ => pg_name (i := 7) nd rfl (Or.inl rfl))
        (fun _ _ _ _ _ => pts_one (pt_cmpR op_gt (pe_ix (r := rIxL K) ix_list (pv 1) pe_int (fun _ _ => rfl)) pe_int (nomark _))) (fun _ _ _ _ _ => pe_call G hr (by rfl) mG kG bG .nil pass0 (pa_cons (pv 0) (pa_cons (pv 1) (pa_cons (pv 2) pa_nil)))))
      (pss_one (ps_ret (pe_tup (pa_cons (pe_ix ix_list (pe_lst (pa_cons pe_str (pa_cons pe_str pa_nil))) (pe_op op_mod (pv 3) pe_int) (fun _ _ => rfl)) (pa_cons (pe_callTy call_tuple_of (by rfl) mt (by decide +kernel) (pa_cons (pv 5) pa_nil)) pa_nil))))))) pss_nil)
    (pss_cons (ps_if (PW.pt (pw_or (pt_cmpR op_in_seq (pv 3) (pe_tup (pa_cons pe_int (pa_cons pe_int pa_nil))) (by rfl)) (pw_or1 (PW.pt (pw_and (pt_cmpR op_eq (pv 3) pe_int (nomark _)) (pw_and1 (pt_not (pt_val (pv 2)))))))))
      (pss_one (ps_ret (pe_tup (pa_cons pe_str (pa_cons (pe_call G hr (by rfl) mG kG bG .nil pass0 (pa_cons (pv 0) (pa_cons (pv 1) (pa_cons (pv 2) pa_nil)))) (pa_cons (pe_call G hr (by rfl) mG kG bG .nil pass0 (pa_cons (pv 0) (pa_cons (pv 1) (pa_cons (pv 2) pa_nil)))) pa_nil)))))) pss_nil)
    (pss_cons (ps_if (pt_cmpR op_eq (pv 3) pe_int (nomark _))
      (pss_one (ps_ret (pe_tup (pa_cons pe_str (pa_cons (pe_call G hr (by rfl) mG kG bG .nil pass0 (pa_cons (pv 0) (pa_cons (pv 1) (pa_cons (pv 2) pa_nil)))) (pa_cons (pe_call G hr (by rfl) mG kG bG .nil pass0 (pa_cons (pv 0) (pa_cons (pv 1) (pa_cons (pv 2) pa_nil)))) pa_nil)))))) pss_nil)
    (pss_cons (ps_set (i := 6) nd rfl (.inl rfl) (pe_ix ix_list (pe_lst (pa_cons pe_str (pa_cons pe_str pa_nil))) (pe_call D hr1 (by rfl) mD kD bD .nil pass0 (pa_cons (pv 0) (pa_cons pe_int pa_nil))) (fun _ _ => rfl)))
    (pss_one (ps_ret (pe_tup (pa_cons (pe_ix ix_list (pe_lst (pa_cons pe_str (pa_cons pe_str pa_nil))) (pe_op op_mod (pv 3) pe_int) (fun _ _ => rfl)) (pa_cons (pv 6) (pa_cons (pe_call G hr (by rfl) mG kG bG .nil pass0 (pa_cons (pv 0) (pa_cons (pv 1) (pa_cons (pv 2) pa_nil)))) pa_nil))))))))))))), ?_⟩
  -- left[0] = left[0] - 1
  refine ⟨_, rfl, q, _, 0, _, rfl, rfl, .inl (.inl hq), rfl, L, 1, rfl, rfl, _, rfl, q, _, 0, 0, rfl, rfl, hq, rfl, ?_⟩
  have g1 : Go [p, q] H (upd H q (.lst ([V.int L].set 0 (.int (L - 1))))) := Go.put (by simp) hq _
  have e1 : (upd H q (.lst ([V.int L].set 0 (.int (L - 1))))) q = some (.lst [.int (L - 1)]) := upd_same
  have f1 : Fd K (upd H q (.lst ([V.int L].set 0 (.int (L - 1))))) p c cells n := hF.off hqp hqc _
  generalize upd H q (.lst ([V.int L].set 0 (.int (L - 1)))) = H1 at g1 e1 f1
  have qp : q ∉ [p] := by simpa using hqp
  have sub : ∀ b ∈ [p], b ∈ [p, q] := fun b hb => List.mem_cons.mpr (Or.inl (List.mem_singleton.mp hb))
  have fL0 := Nat.zero_le (fL L)
  -- way
  refine ⟨_, rfl, p, c, cells, 14, n, rfl, f1, by decide, by decide, by omega, fun H2 way g2 f2 w0 w14 => ?_⟩
  have e2 := g2.ex _ _ e1 qp
  have g2' := g1.trans (g2.mono sub)
  refine ⟨_, rfl, _, _, rfl, rfl, _, rfl, ite2 (fun c1 => iteT ?_) (fun c1 => ⟨_, rfl, q, _, 0, _, rfl, rfl, .inl (.inl e2), rfl, _, _, rfl, rfl, _, rfl, ite2 (fun c2 => ?_) (fun c2 => ?_)⟩)⟩
  · refine ⟨zz3, fun l hl => ⟨_, rfl, p, c, cells, 3, n + 1, rfl, f2.new hl _, by decide, by decide, by omega, fun H3 j g3 f3 j0 j3 => ?_⟩⟩
    have lp : l ∉ [p] := by
      obtain ⟨_, _, _, hp', _⟩ := f2
      simpa using (ne_of_none hp' hl).symm
    obtain ⟨z, hz, mz⟩ := pick (xs := [.str "a", .str "b", .str "p"]) j0 j3
    obtain ⟨x, rfl, hx⟩ : ∃ x, z = .str x ∧ Wd x := by
      simp only [List.mem_cons, List.not_mem_nil, or_false] at mz
      rcases mz with rfl | rfl | rfl <;> exact ⟨_, rfl, wd_by (by decide +kernel) (by decide +kernel)⟩
    refine ⟨l, _, j, _, rfl, rfl, .inl (.inl (g3.ex _ _ upd_same lp)), hz, zz2, fun t nt => ?_⟩
    have gA := g2'.trans ((Go.new hl (.lst [.str "a", .str "b", .str "p"])).trans ((g3.mono sub).trans (Go.new nt (.tup [.str "letter", .str x]))))
    exact fin _ t (letD x) (L - 1) 0 gA ((f3.new nt _).mono (by omega)) (same_new nt _ _ _ (g3.ex _ _ (same_new hl _ _ _ e2) qp)) (by omega) (by rw [Nat.zero_add]; exact fL_le (by omega)) (.inl ⟨x, hx, rfl⟩) (psz_let x) (new2 nt (.str _) (.str _))
  · refine ⟨zz3, fun l hl => ⟨_, rfl, p, c, cells, 3, n + 1, rfl, f2.new hl _, by decide, by decide, by omega, fun H3 j g3 f3 j0 j3 => ?_⟩⟩
    have lp : l ∉ [p] := by
      obtain ⟨_, _, _, hp', _⟩ := f2
      simpa using (ne_of_none hp' hl).symm
    obtain ⟨z, hz, mz⟩ := pick (xs := [.str "a", .str "b", .str "p"]) j0 j3
    obtain ⟨x, rfl, hx⟩ : ∃ x, z = .str x ∧ Wd x := by
      simp only [List.mem_cons, List.not_mem_nil, or_false] at mz
      rcases mz with rfl | rfl | rfl <;> exact ⟨_, rfl, wd_by (by decide +kernel) (by decide +kernel)⟩
    refine ⟨l, _, j, _, rfl, rfl, .inl (.inl (g3.ex _ _ upd_same lp)), hz, zz2, fun t nt => ?_⟩
    have gA := g2'.trans ((Go.new hl (.lst [.str "a", .str "b", .str "p"])).trans ((g3.mono sub).trans (Go.new nt (.tup [.str "letter", .str x]))))
    exact fin _ t (letD x) (L - 1) 0 gA ((f3.new nt _).mono (by omega)) (same_new nt _ _ _ (g3.ex _ _ (same_new hl _ _ _ e2) qp)) (by omega) (by rw [Nat.zero_add]; exact fL_le (by omega)) (.inl ⟨x, hx, rfl⟩) (psz_let x) (new2 nt (.str _) (.str _))
  have hL2 : 2 ≤ L := by
    have := of_decide_eq_false (Bool.eq_false_iff.mpr c2)
    omega
  have fs := fL_succ hL2
  have m0 : 0 < m := by omega
  have hLm' : L - 1 ≤ m := by omega
  have w3 : 3 ≤ way := by
    have := of_decide_eq_false (Bool.eq_false_iff.mpr c1)
    omega
  -- way in (3, 4)
  refine ⟨_, rfl, zz2, fun u1 nu1 => ⟨u1, _, rfl, .inr (.inl (.inl upd_same)), rfl, rfl, _, rfl, ?_⟩⟩
  have s3 := same_new nu1 (.tup [.int 3, .int 4])
  have e3 := s3 _ _ e2
  have f3 := f2.same s3
  have g3 := g2'.trans (Go.same s3)
  generalize upd H2 u1 (.tup [.int 3, .int 4]) = H3 at s3 e3 f3 g3
  refine ite2 (fun c3 => ?_) (fun c3 => ?_)
  · refine ⟨_, rfl, _, rfl, _, rfl, p, c, cells, n + 1, q, L - 1, tl, rfl, f3, e3, hqp, hqc, m0, hLm', by omega, fun H4 a d L' k g4 f4 e4 hL' hk hs hz hd => ⟨zz2, fun t nt => ?_⟩⟩
    exact fin _ t (notD d) L' (k + 1) (g3.trans (g4.trans (Go.new nt _))) ((f4.new nt _).mono (by omega)) (same_new nt _ _ _ e4) (by omega) (by omega) (.inr (.inl ⟨d, hs, rfl⟩)) (psz_1 (inn_not d) hz) (new2 nt (.str _) hd)
  -- way < 8
  refine ⟨_, rfl, _, _, rfl, rfl, _, rfl, ite2 (fun c4 => ?_) (fun c4 => ?_)⟩
  · refine ⟨zz5, fun l hl => ⟨_, rfl, p, c, cells, 5, n + 1, rfl, f3.new hl _, by decide, by decide, by omega, fun H4 j g4 f4 j0 j5 => ?_⟩⟩
    have lp : l ∉ [p] := by
      obtain ⟨_, _, _, hp', _⟩ := f3
      simpa using (ne_of_none hp' hl).symm
    obtain ⟨z, hz, mz⟩ := pick (xs := [.int 2, .int 1, .int 3, .int 2, .int 0]) j0 j5
    obtain ⟨mv, rfl, mv0, mv3⟩ : ∃ mv : Int, z = .int mv ∧ 0 ≤ mv ∧ mv ≤ 3 := by
      simp only [List.mem_cons, List.not_mem_nil, or_false] at mz
      rcases mz with rfl | rfl | rfl | rfl | rfl <;> exact ⟨_, rfl, by decide, by decide⟩
    have e4 := g4.ex _ _ (same_new hl (.lst [.int 2, .int 1, .int 3, .int 2, .int 0]) _ _ e3) qp
    have gA : Go [p, q] H H4 := g3.trans ((Go.new hl (.lst [.int 2, .int 1, .int 3, .int 2, .int 0])).trans (g4.mono sub))
    refine ⟨l, _, j, _, rfl, rfl, .inl (.inl (g4.ex _ _ upd_same lp)), hz, ?_⟩
    -- some = [..]
    refine ⟨_, rfl, mv, rfl, by omega, by omega, fun D hD => ?_⟩
    have Dp_ : D ∉ [p, q] := by
      obtain ⟨_, _, _, hp', _⟩ := f4
      intro hm
      rcases List.mem_cons.mp hm with z | z
      · exact ne_of_none hp' hD z.symm
      · exact ne_of_none e4 hD (List.mem_singleton.mp z).symm
    refine lc_range (lo := 0) (n := mv.toNat) (fun i H' => ∃ (vs : List V) (ds : List PyData) (k : Nat) (Lc : Int), H' D = some (.lst vs) ∧ DpAll K H' vs ds ∧ ds.length ≤ i ∧ (∀ a ∈ ds, Say tl (k + 1) a) ∧ (∀ j, (ds.map (psz j)).sum ≤ ds.length + 3 * k) ∧ H' q = some (.lst [.int Lc]) ∧
        k + fL Lc ≤ fL (L - 1) ∧ Lc ≤ L - 1 ∧ Go [p, q] H4 H' ∧ Fd K H' p c cells (n + 2 + 2 * (ds.length : Int) + 6 * (k : Int)))
      ⟨[], [], 0, L - 1, upd_same, .nil, Nat.le_refl _, by simp, by simp, same_new hD _ _ _ e4, by omega, by omega, Go.new hD _, (f4.new hD _).mono (by simp only [List.length_nil]; omega)⟩ (fun i H' hi hp => ?_) (fun H' hp => ?_)
    · obtain ⟨vs, ds, k, Lc, hl', hd, hdl, hds, hdz, eq', hk, hLc, g', f'⟩ := hp
      have hvl := dpAll_len hd
      refine ⟨rfl, _, rfl, q, _, 0, _, rfl, rfl, .inl (.inl eq'), rfl, _, _, rfl, rfl, _, rfl, ite2 (fun c5 => ?_) (fun c5 => ?_)⟩
      · refine ⟨_, rfl, _, rfl, _, rfl, p, c, cells, _, q, Lc, tl, rfl, f', eq', hqp, hqc, m0, by omega, by omega, fun H5 a d L' k' g5 f5 e5 hL' hk' hs' hz' hd' => ?_⟩
        have hl5 := g5.ex _ _ hl' Dp_
        have hdT := dpAll_tp g5.tp ds vs (tupDs_say hds) hd
        have sT := Tp.lst hl5 (.lst (vs ++ [.ref a]))
        refine ⟨vs, hl5, small1000 (by omega), vs ++ [.ref a], ds ++ [d], k + k', L', upd_same, ?_, by rw [List.length_append]; exact Nat.succ_le_succ hdl, ?_, ?_, ?_, by omega, by omega, (g'.trans g5).at hD _, ?_⟩
        · exact dpAll_tp sT _ _ (tupDs_say (tl := tl) (n := k + k' + 1) fun b hb => by
            rcases List.mem_append.mp hb with z | z
            · exact (hds b z).mono (by omega)
            · rw [List.mem_singleton.mp z]
              exact hs'.mono (by omega)) (dpAll_snoc hd' hdT)
        · intro b hb
          rcases List.mem_append.mp hb with z | z
          · exact (hds b z).mono (by omega)
          · rw [List.mem_singleton.mp z]
            exact hs'.mono (by omega)
        · intro j
          have h1 := hdz j
          have h2 := hz' j
          simp only [List.map_append, List.sum_append, List.map_cons, List.map_nil, List.sum_cons, List.sum_nil, List.length_append, List.length_cons, List.length_nil]
          omega
        · rw [upd_ne fun z => Dp_ (by simp [z])]
          exact e5
        · exact (f4.put hD f5 _).mono (by
            simp only [List.length_append, List.length_cons, List.length_nil]
            omega)
      · exact ⟨vs, ds, k, Lc, hl', hd, by omega, hds, hdz, eq', hk, hLc, g', f'⟩
    · obtain ⟨vs, ds, k, Lc, hl', hd, hdl, hds, hdz, eq', hk, hLc, g', f'⟩ := hp
      have hd3 : ds.length ≤ 3 := by omega
      have hp0 := Int.emod_nonneg way (show (2 : Int) ≠ 0 by decide)
      have hp1 := Int.emod_lt_of_pos way (show (0 : Int) < 2 by decide)
      obtain ⟨z, hz, mz⟩ := pick (xs := [.str "and", .str "or"]) hp0 hp1
      obtain ⟨x, rfl, hx⟩ : ∃ x : Str, z = .str x ∧ (x = "and" ∨ x = "or") := by
        simp only [List.mem_cons, List.not_mem_nil, or_false] at mz
        rcases mz with rfl | rfl
        · exact ⟨_, rfl, .inl rfl⟩
        · exact ⟨_, rfl, .inr rfl⟩
      refine ⟨zz2, fun l2 hl2 => ⟨_, rfl, way, 2, rfl, rfl, (show (0 : Int) < 2 by decide), l2, _, _, _, rfl, rfl, .inl (.inl upd_same), hz, _, rfl, D, vs, rfl, .inl ⟨.inl (.inl (same_new hl2 _ _ _ hl')), fun tt ntt => ⟨zz2, fun t nt => ?_⟩⟩⟩⟩
      have sA := (same_new hl2 (.lst [.str "and", .str "or"])).trans ((same_new ntt (.tup vs)).trans (same_new nt (.tup [.str x, .ref tt])))
      refine fin _ t (manyD x ds) Lc (k + 1) (gA.trans (g'.trans (Go.same sA))) ((f'.same sA).mono (by omega)) (sA _ _ eq') (by omega) (by omega) (.inr (.inr (.inl ⟨x, ds, hx, fun a ha => hds a ha, rfl⟩))) (psz_m (inn_many ds hx) hd3 hdz) ?_
      exact new2 nt (.str _) (.tup (.inl (.inl upd_same)) (dpAll_same ((same_new hl2 _).trans (same_new ntt _)) ds vs hd))
  have w8 : 8 ≤ way := by
    have := of_decide_eq_false (Bool.eq_false_iff.mpr c4)
    omega
  have two : ∀ (x : Str), (x = "so" ∨ (x = "told" ∧ tl = true)) → ∀ (Hs : Hp), Go [p, q] H Hs → ∀ (H4 : Hp) (a : Addr) (d : PyData) (L' : Int) (k : Nat), Go [p, q] Hs H4 → L' ≤ L - 1 → k + fL L' ≤ fL (L - 1) → Say tl (k + 1) d → (∀ j, psz j d ≤ 1 + 3 * k) → Dp K H4 (.ref a) d →
      ∀ (H5 : Hp) (a2 : Addr) (d2 : PyData) (L2 : Int) (k2 : Nat), Go [p, q] H4 H5 → Fd K H5 p c cells (n + 1 + 2 * (1 + 3 * (k : Int)) + 2 * (1 + 3 * (k2 : Int))) → H5 q = some (.lst [.int L2]) → L2 ≤ L' → k2 + fL L2 ≤ fL L' → Say tl (k2 + 1) d2 → (∀ j, psz j d2 ≤ 1 + 3 * k2) → Dp K H5 (.ref a2) d2 →
      ∀ t, H5 t = none → Q (.ref t) (upd H5 t (.tup [.str x, .ref a, .ref a2])) := by
    intro x hx Hs gs H4 a d L' k g4 hL' hk hs hz hd H5 a2 d2 L2 k2 g5 f5 e5 hL2' hk2 hs2 hz2 hd2 t nt
    have hx' : x = "so" ∨ x = "told" := hx.elim .inl fun h => .inr h.1
    refine fin _ t (twoD x d d2) L2 (k + k2 + 1) (gs.trans (g4.trans (g5.trans (Go.new nt _)))) ((f5.new nt _).mono (by omega)) (same_new nt _ _ _ e5) (by omega) (by omega) (.inr (.inr (.inr (.inl ⟨x, d, d2, hx, hs.mono (by omega), hs2.mono (by omega), rfl⟩)))) (psz_2 (inn_two d d2 hx') hz hz2) ?_
    exact new3 nt (.str _) (dp_tp g5.tp d _ (tupD_say hs) hd) hd2
  -- way in (8, 9) or way == 13 and not told
  refine ⟨_, rfl, zz2, fun u2 nu2 => ⟨u2, _, rfl, .inr (.inl (.inl upd_same)), rfl, rfl, _, rfl, ?_⟩⟩
  have s4 := same_new nu2 (.tup [.int 8, .int 9])
  have e4 := s4 _ _ e3
  have f4 := f3.same s4
  have g4 := g3.trans (Go.same s4)
  generalize upd H3 u2 (.tup [.int 8, .int 9]) = H4 at s4 e4 f4 g4
  refine ite2 (fun c5 => iteT ?_) (fun c5 => ?_)
  · exact ⟨_, rfl, _, rfl, _, rfl, p, c, cells, n + 1, q, L - 1, tl, rfl, f4, e4, hqp, hqc, m0, hLm', by omega, fun Ha a d L1 k ga fa ea hL1 hk hs hz hd => ⟨_, rfl, _, rfl, _, rfl, p, c, cells, _, q, L1, tl, rfl, fa, ea, hqp, hqc, m0, by omega, by omega,
      fun Hb a2 d2 L2 k2 gb fb eb hL2 hk2 hs2 hz2 hd2 => ⟨zz3, fun t nt => two "so" (.inl rfl) _ g4 _ a d L1 k ga hL1 hk hs hz hd _ a2 d2 L2 k2 gb fb eb hL2 hk2 hs2 hz2 hd2 t nt⟩⟩⟩
  refine ⟨_, rfl, rfl, _, rfl, ?_⟩
  refine ite2 (fun c6 => ⟨_, rfl, _, rfl, ite2 (fun c7 => ?_) (fun c7 => ?_)⟩) (fun c6 => iteF ?_)
  · exact ⟨_, rfl, _, rfl, _, rfl, p, c, cells, n + 1, q, L - 1, tl, rfl, f4, e4, hqp, hqc, m0, hLm', by omega, fun Ha a d L1 k ga fa ea hL1 hk hs hz hd => ⟨_, rfl, _, rfl, _, rfl, p, c, cells, _, q, L1, tl, rfl, fa, ea, hqp, hqc, m0, by omega, by omega,
      fun Hb a2 d2 L2 k2 gb fb eb hL2 hk2 hs2 hz2 hd2 => ⟨zz3, fun t nt => two "so" (.inl rfl) _ g4 _ a d L1 k ga hL1 hk hs hz hd _ a2 d2 L2 k2 gb fb eb hL2 hk2 hs2 hz2 hd2 t nt⟩⟩⟩
  · have ht : tl = true := by cases tl <;> simp_all
    refine ⟨_, rfl, rfl, _, rfl, ite2 (fun c8 => ?_) (fun c8 => absurd c6 c8)⟩
    exact ⟨_, rfl, _, rfl, _, rfl, p, c, cells, n + 1, q, L - 1, tl, rfl, f4, e4, hqp, hqc, m0, hLm', by omega, fun Ha a d L1 k ga fa ea hL1 hk hs hz hd => ⟨_, rfl, _, rfl, _, rfl, p, c, cells, _, q, L1, tl, rfl, fa, ea, hqp, hqc, m0, by omega, by omega,
      fun Hb a2 d2 L2 k2 gb fb eb hL2 hk2 hs2 hz2 hd2 => ⟨zz3, fun t nt => two "told" (.inr ⟨rfl, ht⟩) _ g4 _ a d L1 k ga hL1 hk hs hz hd _ a2 d2 L2 k2 gb fb eb hL2 hk2 hs2 hz2 hd2 t nt⟩⟩⟩
  refine ⟨_, rfl, rfl, _, rfl, ite2 (fun c8 => absurd c8 c6) (fun c8 => ?_)⟩
  refine ⟨zz2, fun l hl => ⟨_, rfl, p, c, cells, 2, n + 1, rfl, f4.new hl _, by decide, by decide, by omega, fun H5 j g5 f5 j0 j2 => ?_⟩⟩
  have lp : l ∉ [p] := by
    obtain ⟨_, _, _, hp', _⟩ := f4
    simpa using (ne_of_none hp' hl).symm
  obtain ⟨z, hz, mz⟩ := pick (xs := [.str "h", .str "k"]) j0 j2
  obtain ⟨x, rfl, hx⟩ : ∃ x, z = .str x ∧ Wd x := by
    simp only [List.mem_cons, List.not_mem_nil, or_false] at mz
    rcases mz with rfl | rfl <;> exact ⟨_, rfl, wd_by (by decide +kernel) (by decide +kernel)⟩
  have e5 := g5.ex _ _ (same_new hl (.lst [.str "h", .str "k"]) _ _ e4) qp
  have gA : Go [p, q] H H5 := g4.trans ((Go.new hl (.lst [.str "h", .str "k"])).trans (g5.mono sub))
  refine ⟨l, _, j, _, rfl, rfl, .inl (.inl (g5.ex _ _ upd_same lp)), hz, ?_⟩
  have hp0 := Int.emod_nonneg way (show (2 : Int) ≠ 0 by decide)
  have hp1 := Int.emod_lt_of_pos way (show (0 : Int) < 2 by decide)
  obtain ⟨z, hz, mz⟩ := pick (xs := [.str "must", .str "may"]) hp0 hp1
  obtain ⟨y, rfl, hy⟩ : ∃ y : Str, z = .str y ∧ (y = "must" ∨ y = "may") := by
    simp only [List.mem_cons, List.not_mem_nil, or_false] at mz
    rcases mz with rfl | rfl
    · exact ⟨_, rfl, .inl rfl⟩
    · exact ⟨_, rfl, .inr rfl⟩
  refine ⟨zz2, fun l2 hl2 => ⟨_, rfl, way, 2, rfl, rfl, (show (0 : Int) < 2 by decide), l2, _, _, _, rfl, rfl, .inl (.inl upd_same), hz, _, rfl, _, rfl, _, rfl, _, rfl,
    p, c, cells, n + 2, q, L - 1, tl, rfl, (f5.new hl2 _).mono (by omega), same_new hl2 _ _ _ e5, hqp, hqc, m0, hLm', by omega, fun Ha a d L1 k ga fa ea hL1 hk hs hz hd => ⟨zz3, fun t nt => ?_⟩⟩⟩
  refine fin _ t (modD y x d) L1 (k + 1) (gA.trans ((Go.new hl2 _).trans (ga.trans (Go.new nt _)))) ((fa.new nt _).mono (by omega)) (same_new nt _ _ _ ea) (by omega) (by omega) (.inr (.inr (.inr (.inr ⟨y, x, d, hy, hx, hs, rfl⟩)))) (psz_1 (inn_mod x d hy) hz) ?_
  exact new3 nt (.str _) (.str _) hd
end
end Ms03

namespace Ms03
open PySem PySem.Spec PyProof.Rows L2
/-! ### the text of a saying -/
def isS : PyData → Bool
  | .str _ => true
  | _ => false
def strOf : PyData → Str
  | .str x => x
  | _ => Str.empty
/-- texts and sayings that stand for an "and", an "or" -/
def joinD (none_ sign : Str) : List PyData → List PyData
  | [] => [.str none_]
  | [a] => [.str "(", .str sign, a, .str ")"]
  | a :: b :: r => .str "(" :: a :: ((b :: r).flatMap (fun e => [.str sign, e]) ++ [.str ")"])
def manyOf : PyData → List PyData
  | .tuple ds => ds
  | _ => []
def wt2 (w : Str) (x : PyData) : List PyData := if w = "letter" then [x] else if w = "not" then [.str "~", x] else if w = "and" then joinD "T" "&" (manyOf x) else joinD "F" "|" (manyOf x)
def wt3 (w : Str) (x y : PyData) : List PyData := if w = "so" then [.str "(", x, .str ">", y, .str ")"] else if w = "must" then [.str "[", x, .str "]", y] else if w = "may" then [.str "<", x, .str ">", y] else [.str "{", x, .str "}", y]
/-- texts and sayings that one behind the other are a saying's text -/
def wt : PyData → List PyData
  | .tuple [.str w, x] => wt2 w x
  | .tuple [.str w, x, y] => wt3 w x y
  | _ => []
def catS : List Str → Str
  | [] => Str.empty
  | x :: r => x ++ catS r
def txt : Nat → PyData → Str
  | 0, d => strOf d
  | n + 1, d => if isS d = true then strOf d else catS ((wt d).map (txt n))
/-- how many steps -/
def tz : Nat → PyData → Nat
  | 0, _ => 1
  | n + 1, d => if isS d = true then 1 else 1 + ((wt d).map (tz n)).sum
theorem txt_str (n : Nat) (x : Str) : txt n (.str x) = x := by cases n <;> simp [txt, strOf, isS]
theorem tz_str (n : Nat) (x : Str) : tz n (.str x) = 1 := by cases n <;> simp [tz, isS]
theorem isS_say {tl : Bool} : ∀ {n : Nat} {d : PyData}, Say tl n d → isS d = false
  | 0, _, h => h.elim
  | n + 1, d, h => by
    rcases h with ⟨x, _, rfl⟩ | ⟨a, h, rfl⟩ | ⟨w, ds, hw, h, rfl⟩ | ⟨w, a, b, hw, h, g, rfl⟩ | ⟨w, x, a, hw, hx, h, rfl⟩ <;> rfl
/-- a text of a few signs, or a saying -/
def Pc (tl : Bool) (n : Nat) (e : PyData) : Prop := (∃ x : Str, e = .str x ∧ x.length ≤ 8) ∨ Say tl n e
theorem Pc.mono {tl : Bool} {n m : Nat} {e : PyData} (h : Pc tl n e) (k : n ≤ m) : Pc tl m e := h.imp id fun s => s.mono k
theorem pc_str {tl : Bool} {n : Nat} {x : Str} (h : x.length ≤ 8) : Pc tl n (.str x) := .inl ⟨x, rfl, h⟩
theorem pool8 {x : Str} (h : x ∈ poolW) : x.length ≤ 8 := by
  have : ∀ y ∈ poolW, y.length ≤ 8 := by decide +kernel
  exact this x h
theorem joinD_pc {tl : Bool} {n : Nat} {no si : Str} (h1 : no.length ≤ 8) (h2 : si.length ≤ 8) : ∀ {ds : List PyData}, (∀ e ∈ ds, Say tl n e) → ∀ e ∈ joinD no si ds, Pc tl n e
  | [], _, e, he => by
    rw [joinD, List.mem_singleton] at he
    rw [he]
    exact pc_str h1
  | [a], h, e, he => by
    simp only [joinD, List.mem_cons, List.not_mem_nil, or_false] at he
    rcases he with rfl | rfl | rfl | rfl
    · exact pc_str (by decide)
    · exact pc_str h2
    · exact .inr (h _ List.mem_cons_self)
    · exact pc_str (by decide)
  | a :: b :: r, h, e, he => by
    rw [joinD, List.mem_cons, List.mem_cons, List.mem_append, List.mem_singleton, List.mem_flatMap] at he
    rcases he with rfl | rfl | ⟨f, hf, he⟩ | rfl
    · exact pc_str (by decide)
    · exact .inr (h _ List.mem_cons_self)
    · simp only [List.mem_cons, List.not_mem_nil, or_false] at he
      rcases he with rfl | rfl
      · exact pc_str h2
      · exact .inr (h _ (List.mem_cons_of_mem _ hf))
    · exact pc_str (by decide)
theorem wt_let (x : Str) : wt (letD x) = [.str x] := by simp only [wt, letD, wt2]; rw [if_pos trivial]
theorem wt_not (a : PyData) : wt (notD a) = [.str "~", a] := by simp only [wt, notD, wt2]; rw [if_neg (by decide), if_pos trivial]
theorem wt_and (ds : List PyData) : wt (manyD "and" ds) = joinD "T" "&" ds := by simp only [wt, manyD, wt2, manyOf]; rw [if_neg (by decide), if_neg (by decide), if_pos trivial]
theorem wt_or (ds : List PyData) : wt (manyD "or" ds) = joinD "F" "|" ds := by simp only [wt, manyD, wt2, manyOf]; rw [if_neg (by decide), if_neg (by decide), if_neg (by decide)]
theorem wt_so (a b : PyData) : wt (twoD "so" a b) = [.str "(", a, .str ">", b, .str ")"] := by simp only [wt, twoD, wt3]; rw [if_pos trivial]
theorem wt_told (a b : PyData) : wt (twoD "told" a b) = [.str "{", a, .str "}", b] := by simp only [wt, twoD, wt3]; rw [if_neg (by decide), if_neg (by decide), if_neg (by decide)]
theorem wt_must (h : Str) (a : PyData) : wt (modD "must" h a) = [.str "[", .str h, .str "]", a] := by simp only [wt, modD, wt3]; rw [if_neg (by decide), if_pos trivial]
theorem wt_may (h : Str) (a : PyData) : wt (modD "may" h a) = [.str "<", .str h, .str ">", a] := by simp only [wt, modD, wt3]; rw [if_neg (by decide), if_neg (by decide), if_pos trivial]
theorem wt_pc {tl : Bool} {n : Nat} {d : PyData} (h : Say tl (n + 1) d) : ∀ e ∈ wt d, Pc tl n e := by
  intro e he
  rcases h with ⟨x, hx, rfl⟩ | ⟨a, h, rfl⟩ | ⟨w, ds, hw, h, rfl⟩ | ⟨w, a, b, hw, h, g, rfl⟩ | ⟨w, x, a, hw, hx, h, rfl⟩
  · rw [wt_let, List.mem_singleton] at he
    rw [he]
    exact pc_str (pool8 hx.mem)
  · rw [wt_not] at he
    simp only [List.mem_cons, List.not_mem_nil, or_false] at he
    rcases he with rfl | rfl
    · exact pc_str (by decide)
    · exact .inr h
  · rcases hw with rfl | rfl
    · rw [wt_and] at he
      exact joinD_pc (by decide) (by decide) h e he
    · rw [wt_or] at he
      exact joinD_pc (by decide) (by decide) h e he
  · rcases hw with rfl | ⟨rfl, _⟩
    · rw [wt_so] at he
      simp only [List.mem_cons, List.not_mem_nil, or_false] at he
      rcases he with rfl | rfl | rfl | rfl | rfl
      · exact pc_str (by decide)
      · exact .inr h
      · exact pc_str (by decide)
      · exact .inr g
      · exact pc_str (by decide)
    · rw [wt_told] at he
      simp only [List.mem_cons, List.not_mem_nil, or_false] at he
      rcases he with rfl | rfl | rfl | rfl
      · exact pc_str (by decide)
      · exact .inr h
      · exact pc_str (by decide)
      · exact .inr g
  · rcases hw with rfl | rfl
    · rw [wt_must] at he
      simp only [List.mem_cons, List.not_mem_nil, or_false] at he
      rcases he with rfl | rfl | rfl | rfl
      · exact pc_str (by decide)
      · exact pc_str (pool8 hx.mem)
      · exact pc_str (by decide)
      · exact .inr h
    · rw [wt_may] at he
      simp only [List.mem_cons, List.not_mem_nil, or_false] at he
      rcases he with rfl | rfl | rfl | rfl
      · exact pc_str (by decide)
      · exact pc_str (pool8 hx.mem)
      · exact pc_str (by decide)
      · exact .inr h
theorem txt_same {tl : Bool} : ∀ {n k : Nat} {d : PyData}, Pc tl n d → n ≤ k → txt k d = txt n d
  | n, k, _, .inl ⟨x, e, _⟩, _ => by rw [e, txt_str, txt_str]
  | 0, _, _, .inr h, _ => h.elim
  | n + 1, 0, _, .inr _, e => absurd e (by omega)
  | n + 1, k + 1, d, .inr h, e => by
    have hi := wt_pc h
    simp only [txt, isS_say h, Bool.false_eq_true, if_false]
    congr 1
    exact List.map_congr_left fun x hx => txt_same (hi x hx) (by omega)
theorem tz_same {tl : Bool} : ∀ {n k : Nat} {d : PyData}, Pc tl n d → n ≤ k → tz k d = tz n d
  | n, k, _, .inl ⟨x, e, _⟩, _ => by rw [e, tz_str, tz_str]
  | 0, _, _, .inr h, _ => h.elim
  | n + 1, 0, _, .inr _, e => absurd e (by omega)
  | n + 1, k + 1, d, .inr h, e => by
    have hi := wt_pc h
    simp only [tz, isS_say h, Bool.false_eq_true, if_false]
    congr 2
    exact List.map_congr_left fun x hx => tz_same (hi x hx) (by omega)
theorem txt_step {tl : Bool} {n : Nat} {d : PyData} (h : Say tl n d) : txt n d = catS ((wt d).map (txt n)) := by
  cases n with
  | zero => exact h.elim
  | succ n =>
    have hi := wt_pc h
    simp only [txt, isS_say h, Bool.false_eq_true, if_false]
    congr 1
    refine List.map_congr_left fun x hx => ?_
    exact (txt_same (hi x hx) (Nat.le_succ n)).symm
theorem tz_step {tl : Bool} {n : Nat} {d : PyData} (h : Say tl n d) : tz n d = 1 + ((wt d).map (tz n)).sum := by
  cases n with
  | zero => exact h.elim
  | succ n =>
    have hi := wt_pc h
    simp only [tz, isS_say h, Bool.false_eq_true, if_false]
    congr 2
    refine List.map_congr_left fun x hx => ?_
    exact (tz_same (hi x hx) (Nat.le_succ n)).symm
theorem wt_pcn {tl : Bool} {n : Nat} {d : PyData} (h : Say tl n d) : ∀ e ∈ wt d, Pc tl n e := by
  cases n with
  | zero => exact h.elim
  | succ n => exact fun e he => (wt_pc h e he).mono (Nat.le_succ n)
theorem tz_pos (n : Nat) (d : PyData) : 1 ≤ tz n d := by
  cases n with
  | zero => exact Nat.le_refl _
  | succ n =>
    simp only [tz]
    split <;> omega
theorem sum_pos {n : Nat} : ∀ ds : List PyData, ds.length ≤ (ds.map (tz n)).sum
  | [] => Nat.le_refl _
  | d :: ds => by
    have a := tz_pos n d
    have b := sum_pos (n := n) ds
    rw [List.map_cons, List.sum_cons, List.length_cons]
    omega
/-! ### how long texts are -/
theorem len_app (a b : Str) : (a ++ b).length = a.length + b.length := Array.size_append
theorem app_nil : ∀ a : Str, a ++ Str.empty = a
  | ⟨c⟩ => congrArg Str.mk Array.append_empty
theorem nil_app : ∀ a : Str, Str.empty ++ a = a
  | ⟨c⟩ => congrArg Str.mk Array.empty_append
theorem app_assoc : ∀ a b c : Str, a ++ b ++ c = a ++ (b ++ c)
  | ⟨a⟩, ⟨b⟩, ⟨c⟩ => congrArg Str.mk Array.append_assoc
theorem catS_app : ∀ xs ys : List Str, catS (xs ++ ys) = catS xs ++ catS ys
  | [], ys => (nil_app _).symm
  | x :: xs, ys => by rw [List.cons_append, catS, catS, catS_app xs ys, app_assoc]
theorem txt_len {tl : Bool} : ∀ {n : Nat} {d : PyData}, Pc tl n d → (txt n d).length ≤ 8 * tz n d
  | n, _, .inl ⟨x, e, h⟩ => by rw [e, txt_str, tz_str]; omega
  | 0, _, .inr h => h.elim
  | n + 1, d, .inr h => by
    have hi := wt_pc h
    simp only [txt, tz, isS_say h, Bool.false_eq_true, if_false]
    have all : ∀ es : List PyData, (∀ e ∈ es, Pc tl n e) → (catS (es.map (txt n))).length ≤ 8 * (es.map (tz n)).sum := fun es => by
      induction es with
      | nil => intro _; simp [catS, Str.empty, Str.length]
      | cons e es ih =>
        intro k
        have a := txt_len (k e List.mem_cons_self)
        have b := ih fun x hx => k x (List.mem_cons_of_mem _ hx)
        rw [List.map_cons, List.map_cons, catS, len_app, List.sum_cons]
        omega
    have := all _ hi
    omega
theorem cat_len {n : Nat} {tl : Bool} {es : List PyData} (h : ∀ e ∈ es, Pc tl n e) : (catS (es.map (txt n))).length ≤ 8 * (es.map (tz n)).sum := by
  induction es with
  | nil => simp [catS, Str.empty, Str.length]
  | cons e es ih =>
    have a := txt_len (h e List.mem_cons_self)
    have b := ih fun x hx => h x (List.mem_cons_of_mem _ hx)
    rw [List.map_cons, List.map_cons, catS, len_app, List.sum_cons]
    omega
/-! ### steps and parts -/
theorem joinD_tz (n : Nat) (no si : Str) : ∀ ds : List PyData, ((joinD no si ds).map (tz n)).sum ≤ (ds.map (tz n)).sum + ds.length + 2
  | [] => by simp [joinD, tz_str]
  | [a] => by simp [joinD, tz_str]; omega
  | a :: b :: r => by
    have all : ∀ es : List PyData, ((es.flatMap fun e => [PyData.str si, e]).map (tz n)).sum = (es.map (tz n)).sum + es.length := fun es => by
      induction es with
      | nil => rfl
      | cons e es ih =>
        rw [List.flatMap_cons, List.map_append, List.sum_append, ih, List.map_cons, List.map_cons, List.map_cons, List.map_nil, List.sum_cons, List.sum_cons, List.sum_nil, tz_str, List.sum_cons, List.length_cons]
        omega
    have e := all (b :: r)
    rw [joinD]
    simp only [List.map_cons, List.map_append, List.sum_cons, List.sum_append, List.map_nil, List.sum_nil, List.length_cons, tz_str] at e ⊢
    omega
theorem tz_psz {tl : Bool} : ∀ {n : Nat} {d : PyData}, Say tl n d → tz n d + 1 ≤ 5 * psz n d
  | 0, _, h => h.elim
  | n + 1, d, h => by
    have hs := isS_say h
    simp only [tz, psz, hs, Bool.false_eq_true, if_false]
    rcases h with ⟨x, hx, rfl⟩ | ⟨a, h, rfl⟩ | ⟨w, ds, hw, h, rfl⟩ | ⟨w, a, b, hw, h, g, rfl⟩ | ⟨w, x, a, hw, hx, h, rfl⟩
    · rw [wt_let, inn_let]
      simp [tz_str]
    · have := tz_psz h
      rw [wt_not, inn_not]
      simp [tz_str]
      omega
    · have all : ∀ es : List PyData, (∀ e ∈ es, Say tl n e) → (es.map (tz n)).sum + es.length ≤ 5 * (es.map (psz n)).sum := fun es => by
        induction es with
        | nil => intro _; simp
        | cons e es ih =>
          intro k
          have a := tz_psz (k e List.mem_cons_self)
          have b := ih fun x hx => k x (List.mem_cons_of_mem _ hx)
          rw [List.map_cons, List.map_cons, List.sum_cons, List.sum_cons, List.length_cons]
          omega
      have a := all ds h
      rw [inn_many ds hw]
      rcases hw with rfl | rfl
      · have b := joinD_tz n "T" "&" ds
        rw [wt_and]
        omega
      · have b := joinD_tz n "F" "|" ds
        rw [wt_or]
        omega
    · have i1 := tz_psz h
      have i2 := tz_psz g
      rw [inn_two a b (hw.imp id (·.1))]
      rcases hw with rfl | ⟨rfl, _⟩
      · rw [wt_so]
        simp [tz_str]
        omega
      · rw [wt_told]
        simp [tz_str]
        omega
    · have i1 := tz_psz h
      rw [inn_mod x a hw]
      rcases hw with rfl | rfl
      · rw [wt_must]
        simp [tz_str]
        omega
      · rw [wt_may]
        simp [tz_str]
        omega
end Ms03

namespace Ms03
open PySem PySem.Spec PyProof.Rows L2
theorem cut1 (u0 u1 : V) (r : List V) : cutV (u0 :: u1 :: r) (some 1) none = u1 :: r := by
  unfold cutV
  have e : HT.sIx (u0 :: u1 :: r).length 0 (some 1) = 1 := by
    rw [show (some (1 : Int)) = some ((1 : Nat) : Int) from rfl, HT.sIx_nat, List.length_cons, List.length_cons]
    omega
  rw [e, HT.sIx_none]
  simp
theorem no_whole (u0 u1 : V) (r : List V) {p : Prop} (c : HT.sIx (u0 :: u1 :: r).length 0 (some 1) = 0 ∧ HT.sIx (u0 :: u1 :: r).length (u0 :: u1 :: r).length none = (u0 :: u1 :: r).length) : p := by
  have e : HT.sIx (u0 :: u1 :: r).length 0 (some 1) = 1 := by
    rw [show (some (1 : Int)) = some ((1 : Nat) : Int) from rfl, HT.sIx_nat, List.length_cons, List.length_cons]
    omega
  rw [e] at c
  exact absurd c.1 (by decide)
theorem dpAll_flat {K : PySem.W.Frag} {H : Hp} (si : Str) : ∀ {ds : List PyData} {us : List V}, DpAll K H us ds → DpAll K H (us.flatMap fun u => [.str si, u]) (ds.flatMap fun e => [.str si, e])
  | [], _, .nil => .nil
  | _ :: _, _, .cons a b => .cons (.str _) (.cons a (dpAll_flat si b))
theorem dpAll_len' {K : PySem.W.Frag} {H : Hp} {us : List V} {ds : List PyData} (h : DpAll K H us ds) : us.length = ds.length := dpAll_len h
theorem dpAll_add {K : PySem.W.Frag} {H : Hp} : ∀ {ds es : List PyData} {us vs : List V}, DpAll K H us ds → DpAll K H vs es → DpAll K H (us ++ vs) (ds ++ es)
  | [], _, _, _, .nil, h => h
  | _ :: _, _, _, _, .cons a b, h => .cons a (dpAll_add b h)
theorem flat_take {si : Str} {us : List V} {i : Nat} {x : V} (h : us[i]? = some x) : (us.take i).flatMap (fun u => [V.str si, u]) ++ [V.str si, x] = (us.take (i + 1)).flatMap fun u => [V.str si, u] := by
  rw [List.take_add_one, h, List.flatMap_append]
  rfl
theorem flat_len2 (si : Str) : ∀ us : List V, (us.flatMap fun u => [V.str si, u]).length = 2 * us.length
  | [] => rfl
  | u :: us => by
    rw [List.flatMap_cons, List.length_append, flat_len2 si us, List.length_cons]
    simp
    omega
abbrev sText : Stmt := topS 1
abbrev sThings : Stmt := topS 2
abbrev sJoined : Stmt := topS 3
theorem scJoined : FnScope ["some", "none", "sign", "things", "saying"] ["some", "none", "sign"] (defScope sJoined) := ⟨rfl, rfl, rfl, by decide +kernel, rfl, by decide +kernel, by decide +kernel⟩
def spJoined (K : PySem.W.Frag) : Sp := fun vs H Q _ => ∃ (b : Addr) (no si : Str) (us : List V) (ds : List PyData), vs = [.ref b, .str no, .str si] ∧ SqT K H b us ∧ DpAll K H us ds ∧ ds.length ≤ 600 ∧
  ∀ H' l zs, Same H H' → H l = none → H' l = some (.lst zs) → DpAll K H' zs (joinD no si ds) → Q (.ref l) H'
section
variable {P : Program} {w : World} {K : PySem.W.Frag} {mg : Str → Option Value} {base : Heap}
theorem ok_joined {f : Addr} {fd : FuncData} {k : Nat} (F : Fun K "joined_things" "joined_things" sJoined f fd) (ml : mg "len" = none) : FnOk P w K mg base CX0 (k + 1) f fd ["some", "none", "sign"] (spJoined K) := by
  refine F.ok scJoined (fun vs H Q E h => ?_) (fun cdv A outer s H vs Q E hr h => ?_)
  · obtain ⟨b, no, si, us, ds, rfl, _⟩ := h
    rfl
  obtain ⟨b, no, si, us, ds, rfl, hq, hd, h4, q⟩ := h
  have nd := scJoined.nd
  refine ⟨_, pss_cons (ps_if (pt_not (pt_truth (pv 0) (fun _ => rfl))) (pss_one (ps_ret (pe_lst (pa_cons (pv 1) pa_nil)))) pss_nil)
    (pss_cons (ps_if (pt_cmpR op_eq (pe_callB call_len_seq (by rfl) ml PySem.boot_len (pa_cons (pv 0) pa_nil)) pe_int (nomark _)) (pss_one (ps_ret (pe_lst (pa_cons pe_str (pa_cons (pv 2) (pa_cons (pe_ix ix_tup (pv 0) pe_int (fun _ _ => rfl)) (pa_cons pe_str pa_nil))))))) pss_nil)
    (pss_cons (ps_set (i := 3) nd rfl (.inl rfl) (pe_lst (pa_cons pe_str (pa_cons (pe_ix ix_tup (pv 0) pe_int (fun _ _ => rfl)) pa_nil))))
    (pss_cons (ps_for PassesOwn.never rfl (pi_tup (pe_slice sl_tupA (pv 0) (po_some pe_int) po_none)) (pg_name (i := 4) nd rfl (.inl rfl))
      (pss_one (ps_expr (pe_bm PySem.F.plainAttrs_list PySem.F.slot_list_extend PySem.F.type_list_extend mt_extend (pv 3) (pa_cons (pe_lst (pa_cons (pv 2) (pa_cons (pv 4) pa_nil))) pa_nil)))))
    (pss_cons (ps_expr (pe_bm PySem.F.plainAttrs_list PySem.F.slot_list_append PySem.F.type_list_append mt_append (pv 3) (pa_cons pe_str pa_nil)))
    (pss_one (ps_ret (pv 3))))))), ?_⟩
  have lu := dpAll_len hd
  cases hd with
  | nil =>
    refine ⟨_, rfl, false, .inr (.inl ⟨_, hq, rfl⟩), iteT ⟨_, rfl, zz1, fun l nl => ?_⟩⟩
    exact q _ l _ (same_new nl _) nl upd_same (.cons (.str _) .nil)
  | cons h1 hd =>
  cases hd with
  | nil =>
    rename_i u d
    refine ⟨_, rfl, true, .inr (.inl ⟨_, hq, rfl⟩), iteF ⟨_, rfl, b, _, rfl, .inr hq, rfl, _, rfl, iteT ⟨_, rfl, _, rfl, b, _, 0, _, rfl, rfl, hq, rfl, zz4, fun l nl => ?_⟩⟩⟩
    have s1 := same_new nl (.lst [.str "(", .str si, u, .str ")"])
    exact q _ l _ s1 nl upd_same (.cons (.str _) (.cons (.str _) (.cons (dp_same s1 _ _ h1) (.cons (.str _) .nil))))
  | cons h2 hd =>
    rename_i u0 d0 u1 r d1 r'
    have ln : ¬ (((u0 :: u1 :: r).length : Nat) : Int) = 1 := by rw [List.length_cons, List.length_cons]; omega
    refine ⟨_, rfl, true, .inr (.inl ⟨_, hq, rfl⟩), iteF ⟨_, rfl, b, _, rfl, .inr hq, rfl, _, rfl, ite2 (fun c => absurd (by injection of_decide_eq_true c) ln) (fun _ => ⟨_, rfl, b, _, 0, u0, rfl, rfl, hq, atI_nat (j := 0) rfl, zz2, fun l nl => ?_⟩)⟩⟩
    have s1 := same_new nl (.lst [.str "(", u0])
    refine ⟨_, rfl, 1, rfl, b, _, rfl, (Tp.same s1).tup hq, fun c => no_whole _ _ _ c, fun _ t nt => ?_⟩
    rw [cut1]
    have lt : l ≠ t := ne_of_none upd_same nt
    have s2 := s1.trans (same_new nt (.tup (u1 :: r)))
    refine ⟨t, rfl, ⟨_, .inl (.inl upd_same)⟩, ?_⟩
    refine for_tup (xs := u1 :: r) (fun i σ H' => ∃ y4 : Option V, σ = [some (.ref b), some (.str no), some (.str si), some (.ref l), y4] ∧ H' l = some (.lst (.str "(" :: u0 :: ((u1 :: r).take i).flatMap fun u => [.str si, u])) ∧ H' t = some (.tup (u1 :: r)) ∧ Go [] H H')
      ⟨none, rfl, by rw [upd_ne lt]; exact upd_same, upd_same, Go.same s2⟩ (fun i σ' H' _ ⟨_, _, _, h, _⟩ => .inl (.inl h)) (fun i x σ' H' hx ⟨y4, e, k1, k2, g⟩ => ?_) (fun σ' H' ⟨y4, e, k1, k2, g⟩ => ?_)
    · subst e
      have hlt : i < (u1 :: r).length := (List.getElem?_eq_some_iff.mp hx).1
      have hlen : (((u1 :: r).take i).flatMap fun u => [V.str si, u]).length = 2 * i := by
        rw [flat_len2, List.length_take]
        omega
      refine ⟨_, rfl, .inl ⟨rfl, _, SqL.of k1⟩, _, rfl, _, rfl, zz2, fun m nm => ⟨l, m, _, _, rfl, rfl, same_new nm _ _ _ k1, upd_same, ?_, ?_⟩⟩
      · have : (d0 :: d1 :: r').length ≤ 600 := h4
        rw [sizeLine_eq]
        simp only [List.length_cons, List.length_nil] at *
        omega
      · have g2 := g.trans (Go.new nm (.lst [.str si, x]))
        have lm : l ≠ m := ne_of_none k1 nm
        refine ⟨_, rfl, ?_, ?_, g2.at nl _⟩
        · rw [upd_same, ← flat_take hx]
          rfl
        · rw [upd_ne lt.symm]
          exact same_new nm _ _ _ k2
    · subst e
      rw [List.take_length] at k1
      refine ⟨_, rfl, .inl ⟨rfl, _, SqL.of k1⟩, l, _, _, rfl, rfl, k1, ?_, _, rfl, ?_⟩
      · have : (d0 :: d1 :: r').length ≤ 600 := h4
        have e2 := flat_len2 si (u1 :: r)
        simp only [List.length_cons] at *
        rw [sizeLine_eq]
        omega
      · have g2 := g.at nl (.lst (.str "(" :: u0 :: (u1 :: r).flatMap (fun u => [.str si, u]) ++ [.str ")"]))
        have sm : Same H _ := fun b' o e' => g2.ex b' o e' (by simp)
        refine q _ l _ sm nl upd_same ?_
        exact .cons (.str _) (.cons (dp_same sm _ _ h1) (dpAll_add (dpAll_flat si (dpAll_same sm _ _ (.cons h2 hd))) (.cons (.str _) .nil)))
end
end Ms03

namespace Ms03
open PySem PySem.Spec PyProof.Rows L2
section
variable {K : PySem.W.Frag} {H : Hp}
/-- what a saying is, where it stands -/
theorem say_at {tl : Bool} {n : Nat} {d : PyData} {v : V} (hs : Say tl n d) (hd : Dp K H v d) : ∃ (a : Addr) (m : Nat), v = .ref a ∧ n = m + 1 ∧
    ((∃ x, Wd x ∧ d = letD x ∧ SqT K H a [.str "letter", .str x]) ∨ (∃ e y, Say tl m e ∧ d = notD e ∧ Dp K H y e ∧ SqT K H a [.str "not", y]) ∨
      (∃ (w : Str) (ds : List PyData) (b : Addr), (w = "and" ∨ w = "or") ∧ (∀ e ∈ ds, Say tl m e) ∧ d = manyD w ds ∧ Dp K H (.ref b) (.tuple ds) ∧ SqT K H a [.str w, .ref b]) ∨
      (∃ (w : Str) (e f : PyData) (y z : V), (w = "so" ∨ (w = "told" ∧ tl = true)) ∧ Say tl m e ∧ Say tl m f ∧ d = twoD w e f ∧ Dp K H y e ∧ Dp K H z f ∧ SqT K H a [.str w, y, z]) ∨
      (∃ (w h : Str) (e : PyData) (y : V), (w = "must" ∨ w = "may") ∧ Wd h ∧ Say tl m e ∧ d = modD w h e ∧ Dp K H y e ∧ SqT K H a [.str w, .str h, y])) := by
  cases n with
  | zero => exact hs.elim
  | succ m =>
    rcases hs with ⟨x, hx, rfl⟩ | ⟨e, h, rfl⟩ | ⟨w, ds, hw, h, rfl⟩ | ⟨w, e, f, hw, h, g, rfl⟩ | ⟨w, x, e, hw, hx, h, rfl⟩
    · cases hd with
      | tup hq ha =>
        cases ha with
        | cons h1 h2 =>
          cases h2 with
          | cons h3 h4 =>
            cases h4
            cases h1
            cases h3
            exact ⟨_, m, rfl, rfl, .inl ⟨x, hx, rfl, hq⟩⟩
    · cases hd with
      | tup hq ha =>
        cases ha with
        | cons h1 h2 =>
          cases h2 with
          | cons h3 h4 =>
            cases h4
            cases h1
            exact ⟨_, m, rfl, rfl, .inr (.inl ⟨e, _, h, rfl, h3, hq⟩)⟩
    · cases hd with
      | tup hq ha =>
        cases ha with
        | cons h1 h2 =>
          cases h2 with
          | cons h3 h4 =>
            cases h4
            cases h1
            have h3' := h3
            cases h3 with
            | tup hq2 ha2 => exact ⟨_, m, rfl, rfl, .inr (.inr (.inl ⟨w, ds, _, hw, h, rfl, h3', hq⟩))⟩
    · cases hd with
      | tup hq ha =>
        cases ha with
        | cons h1 h2 =>
          cases h2 with
          | cons h3 h4 =>
            cases h4 with
            | cons h5 h6 =>
              cases h6
              cases h1
              exact ⟨_, m, rfl, rfl, .inr (.inr (.inr (.inl ⟨w, e, f, _, _, hw, h, g, rfl, h3, h5, hq⟩)))⟩
    · cases hd with
      | tup hq ha =>
        cases ha with
        | cons h1 h2 =>
          cases h2 with
          | cons h3 h4 =>
            cases h4 with
            | cons h5 h6 =>
              cases h6
              cases h1
              cases h3
              exact ⟨_, m, rfl, rfl, .inr (.inr (.inr (.inr ⟨w, x, e, _, hw, hx, h, rfl, h5, hq⟩)))⟩
end
theorem joinD_len (no si : Str) : ∀ ds : List PyData, ds.length ≤ (joinD no si ds).length
  | [] => Nat.zero_le _
  | [a] => by
    show 1 ≤ 4
    decide
  | a :: b :: r => by
    have all : ∀ es : List PyData, (es.flatMap fun e => [PyData.str si, e]).length = 2 * es.length := fun es => by
      induction es with
      | nil => rfl
      | cons e es ih =>
        rw [List.flatMap_cons, List.length_append, ih, List.length_cons]
        simp
        omega
    have e := all (b :: r)
    rw [joinD]
    simp only [List.length_cons, List.length_append, List.length_nil] at e ⊢
    omega
theorem tz_many {tl : Bool} {n : Nat} {w : Str} {ds : List PyData} (hw : w = "and" ∨ w = "or") (h : ∀ e ∈ ds, Say tl n e) : ds.length < tz (n + 1) (manyD w ds) := by
  have hs : Say tl (n + 1) (manyD w ds) := .inr (.inr (.inl ⟨w, ds, hw, h, rfl⟩))
  rw [tz_step hs]
  have a := sum_pos (n := n + 1) (wt (manyD w ds))
  rcases hw with rfl | rfl
  · rw [wt_and] at a ⊢
    have b := joinD_len "T" "&" ds
    omega
  · rw [wt_or] at a ⊢
    have b := joinD_len "F" "|" ds
    omega
theorem scThings : FnScope ["saying", "word"] ["saying"] (defScope sThings) := ⟨rfl, rfl, rfl, by decide +kernel, rfl, by decide +kernel, by decide +kernel⟩
def spThings (K : PySem.W.Frag) : Sp := fun vs H Q _ => ∃ (v : V) (tl : Bool) (n : Nat) (d : PyData), vs = [v] ∧ Say tl n d ∧ Dp K H v d ∧ tz n d ≤ 500 ∧ ∀ H' l zs, Same H H' → H l = none → H' l = some (.lst zs) → DpAll K H' zs (wt d) → Q (.ref l) H'
section
variable {P : Program} {w : World} {K : PySem.W.Frag} {mg : Str → Option Value} {base : Heap}
theorem ok_things {f g : Addr} {fd gd : FuncData} {k : Nat} (F : Fun K "written_things" "written_things" sThings f fd) (D : FnOk P w K mg base CX0 k g gd ["some", "none", "sign"] (spJoined K)) (bD : Binds K gd ["some", "none", "sign"] []) (kD : PySem.W.keepIn K (.ref g) = true)
    (mD : mg "joined_things" = some (.ref g)) : FnOk P w K mg base CX0 (k + 1) f fd ["saying"] (spThings K) := by
  refine F.ok scThings (fun vs H Q E h => ?_) (fun cdv A outer s H vs Q E hr h => ?_)
  · obtain ⟨v, tl, n, d, rfl, _⟩ := h
    rfl
  obtain ⟨v, tl, n, d, rfl, hs, hd, hz, q⟩ := h
  have nd := scThings.nd
  refine ⟨_, pss_cons (ps_set (i := 1) nd rfl (.inl rfl) (pe_ix ix_tup (pv 0) pe_int (fun _ _ => rfl)))
    (pss_cons (ps_if (pt_cmpR op_eq (pv 1) pe_str (nomark _)) (pss_one (ps_ret (pe_lst (pa_cons (pe_ix ix_tup (pv 0) pe_int (fun _ _ => rfl)) pa_nil)))) pss_nil)
    (pss_cons (ps_if (pt_cmpR op_eq (pv 1) pe_str (nomark _)) (pss_one (ps_ret (pe_lst (pa_cons pe_str (pa_cons (pe_ix ix_tup (pv 0) pe_int (fun _ _ => rfl)) pa_nil))))) pss_nil)
    (pss_cons (ps_if (pt_cmpR op_eq (pv 1) pe_str (nomark _)) (pss_one (ps_ret (pe_call D hr (by rfl) mD kD bD .nil pass0 (pa_cons (pe_ix ix_tup (pv 0) pe_int (fun _ _ => rfl)) (pa_cons pe_str (pa_cons pe_str pa_nil)))))) pss_nil)
    (pss_cons (ps_if (pt_cmpR op_eq (pv 1) pe_str (nomark _)) (pss_one (ps_ret (pe_call D hr (by rfl) mD kD bD .nil pass0 (pa_cons (pe_ix ix_tup (pv 0) pe_int (fun _ _ => rfl)) (pa_cons pe_str (pa_cons pe_str pa_nil)))))) pss_nil)
    (pss_cons (ps_if (pt_cmpR op_eq (pv 1) pe_str (nomark _)) (pss_one (ps_ret (pe_lst (pa_cons pe_str (pa_cons (pe_ix ix_tup (pv 0) pe_int (fun _ _ => rfl)) (pa_cons pe_str (pa_cons (pe_ix ix_tup (pv 0) pe_int (fun _ _ => rfl)) (pa_cons pe_str pa_nil)))))))) pss_nil)
    (pss_cons (ps_if (pt_cmpR op_eq (pv 1) pe_str (nomark _)) (pss_one (ps_ret (pe_lst (pa_cons pe_str (pa_cons (pe_ix ix_tup (pv 0) pe_int (fun _ _ => rfl)) (pa_cons pe_str (pa_cons (pe_ix ix_tup (pv 0) pe_int (fun _ _ => rfl)) pa_nil))))))) pss_nil)
    (pss_cons (ps_if (pt_cmpR op_eq (pv 1) pe_str (nomark _)) (pss_one (ps_ret (pe_lst (pa_cons pe_str (pa_cons (pe_ix ix_tup (pv 0) pe_int (fun _ _ => rfl)) (pa_cons pe_str (pa_cons (pe_ix ix_tup (pv 0) pe_int (fun _ _ => rfl)) pa_nil))))))) pss_nil)
    (pss_one (ps_ret (pe_lst (pa_cons pe_str (pa_cons (pe_ix ix_tup (pv 0) pe_int (fun _ _ => rfl)) (pa_cons pe_str (pa_cons (pe_ix ix_tup (pv 0) pe_int (fun _ _ => rfl)) pa_nil)))))))))))))), ?_⟩
  obtain ⟨a, m, rfl, rfl, hc⟩ := say_at hs hd
  rcases hc with ⟨x, hx, rfl, hq⟩ | ⟨e, y, he, rfl, hy, hq⟩ | ⟨w, ds, b, hw, he, rfl, hy, hq⟩ | ⟨w, e, f, y, z, hw, he, hf, rfl, hy, hz', hq⟩ | ⟨w, h, e, y, hw, hh, he, rfl, hy, hq⟩
  · refine ⟨_, rfl, a, _, 0, _, rfl, rfl, hq, rfl, _, rfl, rfl, _, rfl, ite2 (fun c => ?_) (fun c => absurd (by decide) c)⟩
    refine ⟨_, rfl, a, _, 1, _, rfl, rfl, hq, rfl, zz1, fun l nl => ?_⟩
    refine q _ l _ (same_new nl _) nl upd_same ?_
    rw [wt_let]
    exact .cons (.str _) .nil
  · refine ⟨_, rfl, a, _, 0, _, rfl, rfl, hq, rfl, _, rfl, rfl, _, rfl, ite2 (fun c => absurd c (by decide)) (fun c => ⟨_, rfl, rfl, _, rfl, ite2 (fun c => ?_) (fun c => absurd (by decide) c)⟩)⟩
    refine ⟨_, rfl, a, _, 1, _, rfl, rfl, hq, rfl, zz2, fun l nl => ?_⟩
    have s1 := same_new nl (.lst [.str "~", y])
    refine q _ l _ s1 nl upd_same ?_
    rw [wt_not]
    exact .cons (.str _) (.cons (dp_same s1 _ _ hy) .nil)
  · have hl := tz_many (n := m) hw he
    rcases hw with rfl | rfl
    · refine ⟨_, rfl, a, _, 0, _, rfl, rfl, hq, rfl, _, rfl, rfl, _, rfl, ite2 (fun c => absurd c (by decide)) (fun c => ⟨_, rfl, rfl, _, rfl, ite2 (fun c => absurd c (by decide)) (fun c => ⟨_, rfl, rfl, _, rfl, ite2 (fun c => ?_) (fun c => absurd (by decide) c)⟩)⟩)⟩
      cases hy with
      | tup hq2 ha =>
        refine ⟨_, rfl, a, _, 1, _, rfl, rfl, hq, rfl, b, _, _, _, _, rfl, hq2, ha, by omega, fun H' l zs s1 nl h1 h2 => q _ l zs s1 nl h1 ?_⟩
        rw [wt_and]
        exact h2
    · refine ⟨_, rfl, a, _, 0, _, rfl, rfl, hq, rfl, _, rfl, rfl, _, rfl, ite2 (fun c => absurd c (by decide)) (fun c => ⟨_, rfl, rfl, _, rfl, ite2 (fun c => absurd c (by decide)) (fun c => ⟨_, rfl, rfl, _, rfl, ite2 (fun c => absurd c (by decide)) (fun c => ⟨_, rfl, rfl, _, rfl, ite2 (fun c => ?_) (fun c => absurd (by decide) c)⟩)⟩)⟩)⟩
      cases hy with
      | tup hq2 ha =>
        refine ⟨_, rfl, a, _, 1, _, rfl, rfl, hq, rfl, b, _, _, _, _, rfl, hq2, ha, by omega, fun H' l zs s1 nl h1 h2 => q _ l zs s1 nl h1 ?_⟩
        rw [wt_or]
        exact h2
  · rcases hw with rfl | ⟨rfl, _⟩
    · refine ⟨_, rfl, a, _, 0, _, rfl, rfl, hq, rfl, _, rfl, rfl, _, rfl, ite2 (fun c => absurd c (by decide)) (fun c => ⟨_, rfl, rfl, _, rfl, ite2 (fun c => absurd c (by decide)) (fun c => ⟨_, rfl, rfl, _, rfl, ite2 (fun c => absurd c (by decide)) (fun c => ⟨_, rfl, rfl, _, rfl, ite2 (fun c => absurd c (by decide)) (fun c => ⟨_, rfl, rfl, _, rfl, ite2 (fun c => ?_) (fun c => absurd (by decide) c)⟩)⟩)⟩)⟩)⟩
      refine ⟨_, rfl, a, _, 1, _, rfl, rfl, hq, rfl, _, rfl, a, _, 2, _, rfl, rfl, hq, rfl, zz5, fun l nl => ?_⟩
      have s1 := same_new nl (.lst [.str "(", y, .str ">", z, .str ")"])
      refine q _ l _ s1 nl upd_same ?_
      rw [wt_so]
      exact .cons (.str _) (.cons (dp_same s1 _ _ hy) (.cons (.str _) (.cons (dp_same s1 _ _ hz') (.cons (.str _) .nil))))
    · refine ⟨_, rfl, a, _, 0, _, rfl, rfl, hq, rfl, _, rfl, rfl, _, rfl, ite2 (fun c => absurd c (by decide)) (fun c => ⟨_, rfl, rfl, _, rfl, ite2 (fun c => absurd c (by decide)) (fun c => ⟨_, rfl, rfl, _, rfl, ite2 (fun c => absurd c (by decide)) (fun c => ⟨_, rfl, rfl, _, rfl, ite2 (fun c => absurd c (by decide)) (fun c => ⟨_, rfl, rfl, _, rfl, ite2 (fun c => absurd c (by decide)) (fun c => ⟨_, rfl, rfl, _, rfl, ite2 (fun c => absurd c (by decide)) (fun c => ⟨_, rfl, rfl, _, rfl, ite2 (fun c => absurd c (by decide)) (fun c => ?_)⟩)⟩)⟩)⟩)⟩)⟩)⟩
      refine ⟨_, rfl, a, _, 1, _, rfl, rfl, hq, rfl, _, rfl, a, _, 2, _, rfl, rfl, hq, rfl, zz4, fun l nl => ?_⟩
      have s1 := same_new nl (.lst [.str "{", y, .str "}", z])
      refine q _ l _ s1 nl upd_same ?_
      rw [wt_told]
      exact .cons (.str _) (.cons (dp_same s1 _ _ hy) (.cons (.str _) (.cons (dp_same s1 _ _ hz') .nil)))
  · rcases hw with rfl | rfl
    · refine ⟨_, rfl, a, _, 0, _, rfl, rfl, hq, rfl, _, rfl, rfl, _, rfl, ite2 (fun c => absurd c (by decide)) (fun c => ⟨_, rfl, rfl, _, rfl, ite2 (fun c => absurd c (by decide)) (fun c => ⟨_, rfl, rfl, _, rfl, ite2 (fun c => absurd c (by decide)) (fun c => ⟨_, rfl, rfl, _, rfl, ite2 (fun c => absurd c (by decide)) (fun c => ⟨_, rfl, rfl, _, rfl, ite2 (fun c => absurd c (by decide)) (fun c => ⟨_, rfl, rfl, _, rfl, ite2 (fun c => ?_) (fun c => absurd (by decide) c)⟩)⟩)⟩)⟩)⟩)⟩
      refine ⟨_, rfl, a, _, 1, _, rfl, rfl, hq, rfl, _, rfl, a, _, 2, _, rfl, rfl, hq, rfl, zz4, fun l nl => ?_⟩
      have s1 := same_new nl (.lst [.str "[", .str h, .str "]", y])
      refine q _ l _ s1 nl upd_same ?_
      rw [wt_must]
      exact .cons (.str _) (.cons (.str _) (.cons (.str _) (.cons (dp_same s1 _ _ hy) .nil)))
    · refine ⟨_, rfl, a, _, 0, _, rfl, rfl, hq, rfl, _, rfl, rfl, _, rfl, ite2 (fun c => absurd c (by decide)) (fun c => ⟨_, rfl, rfl, _, rfl, ite2 (fun c => absurd c (by decide)) (fun c => ⟨_, rfl, rfl, _, rfl, ite2 (fun c => absurd c (by decide)) (fun c => ⟨_, rfl, rfl, _, rfl, ite2 (fun c => absurd c (by decide)) (fun c => ⟨_, rfl, rfl, _, rfl, ite2 (fun c => absurd c (by decide)) (fun c => ⟨_, rfl, rfl, _, rfl, ite2 (fun c => absurd c (by decide)) (fun c => ⟨_, rfl, rfl, _, rfl, ite2 (fun c => ?_) (fun c => absurd (by decide) c)⟩)⟩)⟩)⟩)⟩)⟩)⟩
      refine ⟨_, rfl, a, _, 1, _, rfl, rfl, hq, rfl, _, rfl, a, _, 2, _, rfl, rfl, hq, rfl, zz4, fun l nl => ?_⟩
      have s1 := same_new nl (.lst [.str "<", .str h, .str ">", y])
      refine q _ l _ s1 nl upd_same ?_
      rw [wt_may]
      exact .cons (.str _) (.cons (.str _) (.cons (.str _) (.cons (dp_same s1 _ _ hy) .nil)))
end
end Ms03

namespace Ms03
open PySem PySem.Spec PyProof.Rows L2
theorem tyT {K : PySem.W.Frag} {H : Hp} {a : Addr} {xs : List V} (h : SqT K H a xs) : TyX K H (.ref a) (.type "tuple") := by
  rcases h with (h | ⟨o, h⟩) | ⟨o, _, _, h1, h2, _⟩
  · exact .base (.tup h)
  · exact .fTuple h
  · exact .kTuple h1 h2
theorem join0 : ∀ ys : List Str, Txt.join ("" : Str) ys = catS ys
  | [] => rfl
  | [x] => by
    rw [TL.join_eq, catS, catS, app_nil]
    rfl
  | x :: y :: r => by
    have e := join0 (y :: r)
    rw [TL.join_eq] at e ⊢
    rw [catS, ← e]
    show x ++ Str.empty ++ Str.join Str.empty (y :: r) = _
    rw [app_nil]
    rfl
theorem sum_len {tl : Bool} {n : Nat} : ∀ {ps : List Str}, (∀ x ∈ ps, x.length ≤ 8) → (ps.map (·.length)).sum ≤ 8 * ps.length
  | [], _ => Nat.le_refl _
  | x :: ps, h => by
    have a := h x List.mem_cons_self
    have b := sum_len (tl := tl) (n := n) fun y hy => h y (List.mem_cons_of_mem _ hy)
    rw [List.map_cons, List.sum_cons, List.length_cons]
    omega
theorem dpAll_rev {K : PySem.W.Frag} {H : Hp} : ∀ {ds : List PyData} {us : List V}, DpAll K H us ds → DpAll K H us.reverse ds.reverse
  | [], _, .nil => .nil
  | d :: ds, _, .cons a b => by
    rw [List.reverse_cons, List.reverse_cons]
    exact dpAll_add (dpAll_rev b) (.cons a .nil)
theorem dpAll_end {K : PySem.W.Frag} {H : Hp} : ∀ {ds : List PyData} {us : List V}, DpAll K H us ds → us ≠ [] → ∃ (us' : List V) (u : V) (ds' : List PyData) (d : PyData), us = us' ++ [u] ∧ ds = ds' ++ [d] ∧ DpAll K H us' ds' ∧ Dp K H u d
  | [], _, .nil, h => absurd rfl h
  | [d], _, .cons a .nil, _ => ⟨[], _, [], d, rfl, rfl, .nil, a⟩
  | d :: e :: ds, _, .cons a (.cons b c), _ => by
    obtain ⟨us', u, ds', f, h1, h2, h3, h4⟩ := dpAll_end (K := K) (H := H) (.cons b c) (by simp)
    rw [h1, h2]
    exact ⟨_ :: us', u, d :: ds', f, rfl, rfl, .cons a h3, h4⟩
theorem tupD_pc {tl : Bool} {n : Nat} {e : PyData} (h : Pc tl n e) : tupD e = true := by
  rcases h with ⟨x, rfl, _⟩ | h
  · rfl
  · exact tupD_say h
theorem tupDs_pc {tl : Bool} {n : Nat} : ∀ {ds : List PyData}, (∀ e ∈ ds, Pc tl n e) → tupDs ds = true
  | [], _ => by simp [tupDs]
  | d :: ds, h => by simp [tupDs, tupD_pc (h d List.mem_cons_self), tupDs_pc fun e he => h e (List.mem_cons_of_mem _ he)]
theorem sum_rev : ∀ l : List Nat, l.reverse.sum = l.sum
  | [] => rfl
  | x :: l => by
    rw [List.reverse_cons, List.sum_append, sum_rev l, List.sum_cons, List.sum_cons, List.sum_nil]
    omega
theorem catS_one (x : Str) : catS [x] = x := by rw [catS, catS, app_nil]
theorem scText : FnScope ["saying", "pieces", "waiting", "thing"] ["saying"] (defScope sText) := ⟨rfl, rfl, rfl, by decide +kernel, rfl, by decide +kernel, by decide +kernel⟩
def spText (K : PySem.W.Frag) : Sp := fun vs H Q _ => ∃ (v : V) (tl : Bool) (n : Nat) (d : PyData), vs = [v] ∧ Say tl n d ∧ Dp K H v d ∧ tz n d ≤ 500 ∧ ∀ H', Same H H' → Q (.str (txt n d)) H'
section
variable {P : Program} {w : World} {K : PySem.W.Frag} {mg : Str → Option Value} {base : Heap}
theorem ok_text {f g : Addr} {fd gd : FuncData} {k : Nat} (F : Fun K "saying_text" "saying_text" sText f fd) (D : FnOk P w K mg base CX0 k g gd ["saying"] (spThings K)) (bD : Binds K gd ["saying"] []) (kD : PySem.W.keepIn K (.ref g) = true)
    (mD : mg "written_things" = some (.ref g)) (mi : mg "isinstance" = none) (ms : mg "str" = none) : FnOk P w K mg base CX0 (k + 1) f fd ["saying"] (spText K) := by
  refine F.ok scText (fun vs H Q E h => ?_) (fun cdv A outer s H vs Q E hr h => ?_)
  · obtain ⟨v, tl, n, d, rfl, _⟩ := h
    rfl
  obtain ⟨v, tl, n, d, rfl, hs, hd, hz, q⟩ := h
  have nd := scText.nd
  refine ⟨_, pss_cons (ps_set (i := 1) nd rfl (.inl rfl) (pe_lst pa_nil))
    (pss_cons (ps_set (i := 2) nd rfl (.inl rfl) (pe_lst (pa_cons (pv 0) pa_nil)))
    (pss_cons (ps_while PassesOwn.never (pt_truth (pv 2) (fun _ => rfl))
      (pss_cons (ps_set (i := 3) nd rfl (.inl rfl) (pe_bm0 PySem.F.plainAttrs_list PySem.F.slot_list_pop PySem.F.type_list_pop mt_pop (pv 2)))
      (pss_one (ps_if (pt_val (pe_callB call_isi (by rfl) mi (by decide +kernel) (pa_cons (pv 3) (pa_cons (pe_bltn (v := .ty "str") (by rfl) ms (by decide +kernel) rfl) pa_nil))))
        (pss_one (ps_expr (pe_bm PySem.F.plainAttrs_list PySem.F.slot_list_append PySem.F.type_list_append mt_append (pv 1) (pa_cons (pv 3) pa_nil))))
        (pss_one (ps_expr (pe_bm PySem.F.plainAttrs_list PySem.F.slot_list_extend PySem.F.type_list_extend mt_extend (pv 2) (pa_cons (pe_revL (pe_call D hr (by rfl) mD kD bD .nil pass0 (pa_cons (pv 3) pa_nil))) pa_nil))))))))
    (pss_one (ps_ret (pe_join pe_str (pv 1)))))), ?_⟩
  refine ⟨zz0, fun fl nfl => ⟨_, rfl, zz1, fun wl nwl => ?_⟩⟩
  have fw : fl ≠ wl := ne_of_none upd_same nwl
  have s2 := (same_new nfl (.lst [])).trans (same_new nwl (.lst [v]))
  have nfl' : H wl = none := (same_new nfl (.lst [])).free nwl
  dsimp only [gName, tSeq, L2.start]
  obtain ⟨W, hW⟩ : ∃ W : Nat → L2.St → Hp → Prop, W = fun m σ H' => ∃ (y3 : Option V) (ps : List Str) (ws : List V) (es : List PyData), σ = [some v, some (.ref fl), some (.ref wl), y3] ∧ H' fl = some (.lst (ps.map V.str)) ∧ H' wl = some (.lst ws) ∧ DpAll K H' ws es ∧
      (∀ x ∈ ps, x.length ≤ 8) ∧ (∀ e ∈ es, Pc tl n e) ∧ catS ps ++ catS (es.reverse.map (txt n)) = txt n d ∧ ps.length + (es.map (tz n)).sum ≤ tz n d ∧ m = (es.map (tz n)).sum ∧ Go [] H H' := ⟨_, rfl⟩
  refine ⟨W, ⟨tz n d, ?_⟩, fun m σ' H' hw => ?_⟩
  · rw [hW]
    refine ⟨none, [], [v], [d], rfl, by rw [upd_ne fw]; exact upd_same, upd_same, .cons (dp_same s2 _ _ hd) .nil, by simp, by simpa using .inr hs, ?_, by simp, by simp, Go.same s2⟩
    rw [List.reverse_singleton, List.map_cons, List.map_nil, catS_one]
    exact nil_app _
  · rw [hW] at hw
    obtain ⟨y3, ps, ws, es, rfl, hf, hw, hdw, h8, hpc, hcat, hsum, rfl, g1⟩ := hw
    have lw := dpAll_len hdw
    by_cases hne : ws = []
    · subst hne
      cases hdw
      refine ⟨_, rfl, false, .inl ⟨[], SqL.of hw, rfl⟩, iteF ?_⟩
      have hl := sum_len (tl := tl) (n := n) h8
      have l0 : ("" : Str).length = 0 := rfl
      refine ⟨⟨_, rfl⟩, _, rfl, _, fl, ps, rfl, rfl, .inl (SqL.of hf), ?_, ?_⟩
      · rw [l0]
        omega
      · have e : Txt.join ("" : Str) ps = txt n d := by
          rw [join0, ← hcat]
          exact (app_nil _).symm
        rw [e]
        exact q H' fun b o e => g1.ex b o e (by simp)
    · obtain ⟨ws', u, es', e, rfl, rfl, hdw', hdu'⟩ := dpAll_end hdw hne
      have he := hpc e (by simp)
      rw [List.map_append, List.sum_append, List.map_cons, List.map_nil, List.sum_cons, List.sum_nil] at hsum
      rw [List.reverse_append, List.reverse_singleton, List.singleton_append, List.map_cons, catS] at hcat
      have p1 := sum_pos (n := n) es'
      have lw' := dpAll_len hdw'
      refine ⟨_, rfl, true, .inl ⟨_, SqL.of hw, by simp⟩, iteT ⟨fun σ2 H2 => ∃ m', m' < ((es' ++ [e]).map (tz n)).sum ∧ W m' σ2 H2, fun _ _ h => h, ?_⟩⟩
      rw [List.map_append, List.sum_append, List.map_cons, List.map_nil, List.sum_cons, List.sum_nil]
      refine ⟨_, rfl, .inl ⟨rfl, _, SqL.of hw⟩, wl, _, u, rfl, rfl, hw, by simp, ?_⟩
      simp only [List.dropLast_concat]
      have t1 := Tp.lst hw (.lst ws')
      have hf1 : (upd H' wl (.lst ws')) fl = some (.lst (ps.map V.str)) := by rw [upd_ne fw]; exact hf
      have hw1 : (upd H' wl (.lst ws')) wl = some (.lst ws') := upd_same
      have gx : Go [] H (upd H' wl (.lst ws')) := g1.at nfl' _
      have hdu1 := dp_tp t1 e u (tupD_pc he) hdu'
      have hdw1 := dpAll_tp t1 es' ws' (tupDs_pc fun f hf => hpc f (List.mem_append_left _ hf)) hdw'
      generalize upd H' wl (.lst ws') = H1 at t1 hf1 hw1 gx hdu1 hdw1
      rcases he with ⟨x, rfl, hx⟩ | he
      · cases hdu1
        rw [tz_str] at hsum ⊢
        rw [txt_str] at hcat
        refine ⟨_, rfl, _, _, _, _, true, rfl, .ty "str", .base (.str _), kit_ty (by decide +kernel), _, rfl, iteT ?_⟩
        refine ⟨_, rfl, .inl ⟨rfl, _, SqL.of hf1⟩, _, rfl, fl, _, _, rfl, rfl, hf1, ?_, ?_⟩
        · rw [sizeLine_eq, List.length_map]
          omega
        · refine ⟨_, (by omega : (es'.map (tz n)).sum < _), ?_⟩
          rw [hW]
          have t2 := Tp.lst hf1 (.lst (ps.map V.str ++ [.str x]))
          refine ⟨_, ps ++ [x], ws', es', rfl, ?_, by rw [upd_ne fw.symm]; exact hw1, dpAll_tp t2 es' ws' (tupDs_pc fun f hf => hpc f (List.mem_append_left _ hf)) hdw1, ?_, fun f hf => hpc f (List.mem_append_left _ hf), ?_, ?_, rfl, gx.at nfl _⟩
          · rw [upd_same, List.map_append]
            rfl
          · intro y hy
            rcases List.mem_append.mp hy with hy | hy
            · exact h8 y hy
            · rw [List.mem_singleton.mp hy]
              exact hx
          · rw [catS_app, catS_one, app_assoc]
            exact hcat
          · rw [List.length_append, List.length_singleton]
            omega
      · obtain ⟨a, j, rfl, rfl, hc⟩ := say_at he hdu1
        have hty : ∃ xs, SqT K H1 a xs := by
          rcases hc with ⟨x, hx, rfl, hq⟩ | ⟨e, y, _, rfl, hy, hq⟩ | ⟨w, ds, b, hw, _, rfl, hy, hq⟩ | ⟨w, e, f, y, z, hw, _, hf, rfl, hy, hz', hq⟩ | ⟨w, h, e, y, hw, hh, _, rfl, hy, hq⟩ <;> exact ⟨_, hq⟩
        obtain ⟨xs, hxs⟩ := hty
        have st := tz_step he
        refine ⟨_, rfl, _, _, _, _, false, rfl, .ty "str", tyT hxs, kit_ty (by decide +kernel), _, rfl, iteF ?_⟩
        refine ⟨_, rfl, .inl ⟨rfl, _, SqL.of hw1⟩, _, rfl, _, tl, j + 1, e, rfl, he, hdu1, by omega, fun H3 l zs s3 nl hl hzs => ?_⟩
        refine ⟨l, zs, rfl, SqL.of hl, fun p np => ?_⟩
        have s4 := s3.trans (same_new np (.lst zs.reverse))
        have hzs' := dpAll_same (same_new np (.lst zs.reverse)) _ _ hzs
        have hdw4 := dpAll_same s4 _ _ hdw1
        have hw4 := s4 _ _ hw1
        have hf4 := s4 _ _ hf1
        have hp4 : (upd H3 p (.lst zs.reverse)) p = some (.lst zs.reverse) := upd_same
        have g4 := gx.trans (Go.same s4)
        generalize upd H3 p (.lst zs.reverse) = H4 at hzs' hdw4 hw4 hf4 hp4 g4
        have lz := dpAll_len hzs'
        have pz := sum_pos (n := j + 1) (wt e)
        refine ⟨wl, p, ws', zs.reverse, rfl, rfl, hw4, hp4, ?_, ?_⟩
        · rw [sizeLine_eq, List.length_reverse]
          omega
        · refine ⟨((es' ++ (wt e).reverse).map (tz (j + 1))).sum, ?_, ?_⟩
          rotate_left
          · rw [hW]
            have t5 := Tp.lst hw4 (.lst (ws' ++ zs.reverse))
            have pc2 : ∀ f ∈ (wt e).reverse, Pc tl (j + 1) f := fun f hf => wt_pcn he f (List.mem_reverse.mp hf)
            refine ⟨_, ps, ws' ++ zs.reverse, es' ++ (wt e).reverse, rfl, by rw [upd_ne fw]; exact hf4, upd_same, dpAll_add (dpAll_tp t5 es' ws' (tupDs_pc fun f hf => hpc f (List.mem_append_left _ hf)) hdw4) (dpAll_tp t5 _ _ (tupDs_pc pc2) (dpAll_rev hzs')), h8, ?_, ?_, ?_, rfl, g4.at nfl' _⟩
            · intro f hf
              rcases List.mem_append.mp hf with hf | hf
              · exact hpc f (List.mem_append_left _ hf)
              · exact pc2 f hf
            · rw [List.reverse_append, List.reverse_reverse, List.map_append, catS_app, ← txt_step he]
              exact hcat
            · rw [List.map_append, List.sum_append, List.map_reverse, sum_rev]
              omega
          · rw [List.map_append, List.sum_append, List.map_reverse, sum_rev]
            omega
end
end Ms03

namespace Ms03
open PySem PySem.Spec PyProof.Rows L2
theorem join_cat (si : Str) : ∀ (r : List Str) (x : Str), Str.join si (x :: r) = x ++ catS (r.flatMap fun y => [si, y])
  | [], x => (app_nil x).symm
  | y :: r, x => by
    rw [show Str.join si (x :: y :: r) = x ++ si ++ Str.join si (y :: r) from rfl, join_cat si r y, List.flatMap_cons, catS_app, app_assoc]
    congr 1
    rw [catS, catS_one, app_assoc]
theorem map_flat (n : Nat) (si : Str) : ∀ ds : List PyData, (ds.flatMap fun e => [PyData.str si, e]).map (txt n) = (ds.map (txt n)).flatMap fun y => [si, y]
  | [] => rfl
  | d :: ds => by
    simp only [List.flatMap_cons, List.map_append, map_flat n si ds, List.map_cons, List.map_nil, txt_str]
/-- what the text of an "and", an "or" of some is -/
theorem txt_join (n : Nat) (no si : Str) (d : PyData) (ds : List PyData) : catS ((joinD no si (d :: ds)).map (txt n)) = ("(" : Str) ++ (if (d :: ds).length = 1 then si else ("" : Str)) ++ Txt.join si ((d :: ds).map (txt n)) ++ (")" : Str) := by
  have e0 : (("" : Str)) = Str.empty := rfl
  cases ds with
  | nil =>
    rw [joinD, if_pos (show [d].length = 1 from rfl), TL.join_eq]
    simp only [List.map_cons, List.map_nil, txt_str, catS, app_nil, Str.join, app_assoc]
  | cons e ds =>
    rw [if_neg (by simp), TL.join_eq, joinD]
    simp only [List.map_cons, List.map_append, List.map_nil, join_cat, map_flat, txt_str, catS, catS_app, app_nil, app_assoc, e0, nil_app]
theorem canStrs : ∀ ts : List Str, (∀ x ∈ ts, PyData.strOk x = true) → PyData.canLayAll0 (ts.map .str) = true
  | [], _ => by simp [PyData.canLayAll0]
  | x :: ts, h => by simp [PyData.canLayAll0, PyData.canLay0, h x List.mem_cons_self, canStrs ts fun y hy => h y (List.mem_cons_of_mem _ hy)]
theorem depStrs : ∀ ts : List Str, PyData.depthAll (ts.map .str) = 0
  | [] => by simp [PyData.depthAll]
  | x :: ts => by simp [PyData.depthAll, PyData.depth, depStrs ts]
theorem shStrs (ts : List Str) (h : ∀ x ∈ ts, PyData.strOk x = true) : SeqAt.shaped (.list (ts.map .str)) = true := by
  simp [SeqAt.shaped, PyData.canLay0, canStrs ts h, PyData.depth, depStrs ts]
theorem dpStrs {K : PySem.W.Frag} {H : Hp} : ∀ ts : List Str, DpAll K H (ts.map V.str) (ts.map .str)
  | [] => .nil
  | x :: ts => .cons (.str x) (dpStrs ts)
theorem ok_app {a b : Str} (h : PyData.strOk a = true) (g : PyData.strOk b = true) : PyData.strOk (a ++ b) = true := by
  unfold PyData.strOk at *
  show (a.cps ++ b.cps).all _ = true
  rw [Array.all_append, h, g]
  rfl
theorem ok_cat : ∀ {l : List Str}, (∀ x ∈ l, PyData.strOk x = true) → PyData.strOk (catS l) = true
  | [], _ => by decide +kernel
  | x :: l, h => ok_app (h x List.mem_cons_self) (ok_cat fun y hy => h y (List.mem_cons_of_mem _ hy))
/-- all texts in it can be written -/
def Ok1 (e : PyData) : Prop := ∀ x : Str, e = .str x → PyData.strOk x = true
theorem joinD_ok {tl : Bool} {n : Nat} {no si : Str} (h1 : PyData.strOk no = true) (h2 : PyData.strOk si = true) {ds : List PyData} (h : ∀ e ∈ ds, Say tl n e) : ∀ e ∈ joinD no si ds, Ok1 e := by
  have hsay : ∀ e ∈ ds, Ok1 e := fun e he x ex => by
    have a := isS_say (h e he)
    rw [ex] at a
    cases a
  have hl : Ok1 (.str "(") := fun x ex => by cases ex; decide +kernel
  have hr : Ok1 (.str ")") := fun x ex => by cases ex; decide +kernel
  have hn : Ok1 (.str no) := fun x ex => by cases ex; exact h1
  have hs : Ok1 (.str si) := fun x ex => by cases ex; exact h2
  intro e he
  match ds, h, hsay with
  | [], _, _ =>
    rw [joinD, List.mem_singleton] at he
    rw [he]
    exact hn
  | [a], _, hsay =>
    simp only [joinD, List.mem_cons, List.not_mem_nil, or_false] at he
    rcases he with rfl | rfl | rfl | rfl
    · exact hl
    · exact hs
    · exact hsay _ List.mem_cons_self
    · exact hr
  | a :: b :: r, _, hsay =>
    rw [joinD, List.mem_cons, List.mem_cons, List.mem_append, List.mem_singleton, List.mem_flatMap] at he
    rcases he with rfl | rfl | ⟨f, hf, he⟩ | rfl
    · exact hl
    · exact hsay _ List.mem_cons_self
    · simp only [List.mem_cons, List.not_mem_nil, or_false] at he
      rcases he with rfl | rfl
      · exact hs
      · exact hsay _ (List.mem_cons_of_mem _ hf)
    · exact hr
theorem wt_ok {tl : Bool} {n : Nat} {d : PyData} (h : Say tl (n + 1) d) : ∀ e ∈ wt d, Ok1 e := by
  have say : ∀ {e}, Say tl n e → Ok1 e := fun {e} he x ex => by
    have a := isS_say he
    rw [ex] at a
    cases a
  have lit : ∀ {x : Str}, PyData.strOk x = true → Ok1 (.str x) := fun {x} hx y ey => by cases ey; exact hx
  rcases h with ⟨x, hx, rfl⟩ | ⟨a, h, rfl⟩ | ⟨w, ds, hw, h, rfl⟩ | ⟨w, a, b, hw, h, g, rfl⟩ | ⟨w, x, a, hw, hx, h, rfl⟩
  · rw [wt_let]
    simp only [List.forall_mem_cons]
    exact ⟨lit hx.ok, by simp⟩
  · rw [wt_not]
    simp only [List.forall_mem_cons]
    exact ⟨lit (by decide +kernel), say h, by simp⟩
  · rcases hw with rfl | rfl
    · rw [wt_and]
      exact joinD_ok (by decide +kernel) (by decide +kernel) h
    · rw [wt_or]
      exact joinD_ok (by decide +kernel) (by decide +kernel) h
  · rcases hw with rfl | ⟨rfl, _⟩
    · rw [wt_so]
      simp only [List.forall_mem_cons]
      exact ⟨lit (by decide +kernel), say h, lit (by decide +kernel), say g, lit (by decide +kernel), by simp⟩
    · rw [wt_told]
      simp only [List.forall_mem_cons]
      exact ⟨lit (by decide +kernel), say h, lit (by decide +kernel), say g, by simp⟩
  · rcases hw with rfl | rfl
    · rw [wt_must]
      simp only [List.forall_mem_cons]
      exact ⟨lit (by decide +kernel), lit hx.ok, lit (by decide +kernel), say h, by simp⟩
    · rw [wt_may]
      simp only [List.forall_mem_cons]
      exact ⟨lit (by decide +kernel), lit hx.ok, lit (by decide +kernel), say h, by simp⟩
theorem txt_ok {tl : Bool} : ∀ {n : Nat} {d : PyData}, Say tl n d → PyData.strOk (txt n d) = true
  | 0, _, h => h.elim
  | n + 1, d, h => by
    have hi := wt_pc h
    have ho := wt_ok h
    simp only [txt, isS_say h, Bool.false_eq_true, if_false]
    refine ok_cat fun x hx => ?_
    obtain ⟨e, he, rfl⟩ := List.mem_map.mp hx
    rcases hi e he with ⟨y, rfl, _⟩ | hs
    · rw [txt_str]
      exact ho _ he y rfl
    · exact txt_ok hs
theorem tz_in {tl : Bool} {n : Nat} {d e : PyData} (h : Say tl (n + 1) d) (he : e ∈ wt d) : tz n e ≤ tz (n + 1) d := by
  have all : ∀ l : List PyData, e ∈ l → tz n e ≤ (l.map (tz n)).sum := fun l => by
    induction l with
    | nil => intro z; cases z
    | cons x l ih =>
      intro z
      rw [List.map_cons, List.sum_cons]
      rcases List.mem_cons.mp z with rfl | z
      · omega
      · have := ih z
        omega
  have := all _ he
  simp only [tz, isS_say h, Bool.false_eq_true, if_false]
  omega
theorem txt_in {tl : Bool} {n : Nat} {d : PyData} (h : Say tl (n + 1) d) : txt (n + 1) d = catS ((wt d).map (txt n)) := by
  simp only [txt, isS_say h, Bool.false_eq_true, if_false]
theorem eqvS : ∀ ds : List PyData, PyData.eqv (.list ds) (.list []) = ds.isEmpty
  | [] => by simp [PyData.eqv, PyData.eqvAll]
  | d :: ds => by simp [PyData.eqv, PyData.eqvAll]
end Ms03

namespace Ms03
open PySem PySem.Spec PyProof.Rows L2
abbrev sLText : Stmt := topS 8
abbrev NT : List Str := ["_law_s", "_law_word", "_law_sign", "_law_lot", "_law_one"]
theorem scLText : FnScope NT ["_law_s"] (defScope sLText) := ⟨rfl, rfl, rfl, by decide +kernel, rfl, by decide +kernel, by decide +kernel⟩
def spLText (K : PySem.W.Frag) (m : Nat) : Sp := fun vs H Q _ => ∃ (v : V) (tl : Bool) (n : Nat) (d : PyData), vs = [v] ∧ Say tl n d ∧ n ≤ m ∧ Dp K H v d ∧ tz n d ≤ 500 ∧ ∀ H', Same H H' → Q (.str (txt n d)) H'
theorem dict_a (x y : V) : valV (mergeK [] [((Sum.inr "and" : Key), x), (Sum.inr "or", y)]) (Sum.inr "and") = some x := by rfl
theorem dict_o (x y : V) : valV (mergeK [] [((Sum.inr "and" : Key), x), (Sum.inr "or", y)]) (Sum.inr "or") = some y := by rfl
theorem same_at {H H' : Hp} {p : Addr} (n : H p = none) (s : Same H H') (o : HO) : Same H (upd H' p o) := fun b u e => by
  rw [upd_ne (ne_of_none e n)]
  exact s b u e
theorem dpAll_get {K : PySem.W.Frag} {H : Hp} : ∀ {ds : List PyData} {us : List V} {i : Nat} {x : V}, DpAll K H us ds → us[i]? = some x → ∃ e, ds[i]? = some e ∧ Dp K H x e
  | [], _, i, x, .nil, h => by simp at h
  | d :: ds, _, 0, x, .cons a b, h => by
    cases h
    exact ⟨d, rfl, a⟩
  | d :: ds, _, i + 1, x, .cons a b, h => dpAll_get (ds := ds) (i := i) b h
theorem ll (x : Str) (k : Nat) (h : x.length = k) : x.length = k := h
theorem lit0 : ("" : Str).length = 0 := by decide +kernel
theorem lit1 : ("(" : Str).length = 1 := by decide +kernel
theorem lit2 : (")" : Str).length = 1 := by decide +kernel
theorem lit3 : ("~" : Str).length = 1 := by decide +kernel
theorem lit4 : (">" : Str).length = 1 := by decide +kernel
theorem lit5 : ("{" : Str).length = 1 := by decide +kernel
theorem lit6 : ("}" : Str).length = 1 := by decide +kernel
theorem lit7 : ("[" : Str).length = 1 := by decide +kernel
theorem lit8 : ("]" : Str).length = 1 := by decide +kernel
theorem lit9 : ("<" : Str).length = 1 := by decide +kernel
theorem lit10 : ("&" : Str).length = 1 := by decide +kernel
theorem lit11 : ("|" : Str).length = 1 := by decide +kernel
theorem joinD_sub {n : Nat} (no si : Str) : ∀ ds : List PyData, (ds.map (tz n)).sum ≤ ((joinD no si ds).map (tz n)).sum ∧ ∀ e ∈ ds, e ∈ joinD no si ds
  | [] => by simp
  | [a] => by
    refine ⟨?_, fun e he => ?_⟩
    · simp only [joinD, List.map_cons, List.map_nil, List.sum_cons, List.sum_nil]
      omega
    · rw [List.mem_singleton] at he
      simp [joinD, he]
  | a :: b :: r => by
    have all : ∀ es : List PyData, (es.map (tz n)).sum ≤ ((es.flatMap fun e => [PyData.str si, e]).map (tz n)).sum := fun es => by
      induction es with
      | nil => exact Nat.le_refl _
      | cons e es ih =>
        simp only [List.flatMap_cons, List.map_append, List.sum_append, List.map_cons, List.map_nil, List.sum_cons, List.sum_nil]
        omega
    have e := all (b :: r)
    refine ⟨?_, fun x hx => ?_⟩
    · simp only [joinD, List.map_cons, List.map_append, List.map_nil, List.sum_cons, List.sum_append, List.sum_nil] at e ⊢
      omega
    · rw [joinD, List.mem_cons, List.mem_cons, List.mem_append, List.mem_flatMap]
      rcases List.mem_cons.mp hx with rfl | hx
      · exact .inr (.inl rfl)
      · exact .inr (.inr (.inl ⟨x, hx, by simp⟩))
theorem tz_step' {tl : Bool} {n : Nat} {d : PyData} (h : Say tl (n + 1) d) : tz (n + 1) d = 1 + ((wt d).map (tz n)).sum := by
  simp only [tz, isS_say h, Bool.false_eq_true, if_false]
theorem sum_txt {tl : Bool} {n : Nat} : ∀ {ds : List PyData}, (∀ e ∈ ds, Say tl n e) → ((ds.map (txt n)).map (·.length)).sum ≤ 8 * (ds.map (tz n)).sum
  | [], _ => by simp
  | d :: ds, h => by
    have a := txt_len (.inr (h d List.mem_cons_self))
    have b := sum_txt fun e he => h e (List.mem_cons_of_mem _ he)
    simp only [List.map_cons, List.sum_cons]
    omega
theorem fits {n : Nat} (h : n ≤ 100000) : n ≤ sizeLine := by rw [sizeLine_eq]; omega
section
variable {P : Program} {w : World} {K : PySem.W.Frag} {mg : Str → Option Value} {base : Heap}
theorem ok_ltext {f : Addr} {fd : FuncData} {m : Nat} (F : Fun K "_law_text" "_law_text" sLText f fd) (G : FnOk P w K mg base CX0 (m + 1) f fd ["_law_s"] (spLText K m)) (bG : Binds K fd ["_law_s"] []) (mG : mg "_law_text" = some (.ref f)) (ml : mg "len" = none) :
    FnOk P w K mg base CX0 (m + 1 + 1) f fd ["_law_s"] (spLText K (m + 1)) := by
  refine F.ok scLText (fun vs H Q E h => ?_) (fun cdv A outer s H vs Q E hr h => ?_)
  · obtain ⟨v, tl, n, d, rfl, _⟩ := h
    rfl
  obtain ⟨v, tl, n, d, rfl, hs, hm, hd, hz, q⟩ := h
  have hu0 := hr.units
  have hu : (A.deeper (envOfC "_law_text" (defScope sLText) s.heap.objs.size f cdv)).units + 1 < cLine := by omega
  have kG := F.kp
  have nd := scLText.nd
  refine ⟨_, pss_cons (ps_set (i := 1) nd rfl (.inl rfl) (pe_ix ix_tup (pv 0) pe_int (fun _ _ => rfl)))
    (pss_cons (ps_if (pt_cmpR op_eq (pv 1) pe_str (nomark _)) (pss_one (ps_ret (pe_ix ix_tup (pv 0) pe_int (fun _ _ => rfl)))) pss_nil)
    (pss_cons (ps_if (pt_cmpR op_eq (pv 1) pe_str (nomark _)) (pss_one (ps_ret (pe_op op_add_str pe_str (pe_call G hr (by rfl) mG kG bG .nil pass0 (pa_cons (pe_ix ix_tup (pv 0) pe_int (fun _ _ => rfl)) pa_nil))))) pss_nil)
    (pss_cons (ps_if (pt_cmpR op_in_seq (pv 1) (pe_tup (pa_cons pe_str (pa_cons pe_str pa_nil))) (by rfl))
      (pss_cons (ps_par (i := 2) (j := 3) rfl nd rfl rfl (by decide) rfl rfl (pa_cons (pe_dget hu (pe_disp (pps_cons pe_str pe_str (pps_cons pe_str pe_str pps_nil)) (by rfl) (by rfl) (fun z => by cases z) (by decide)) (pv 1) (fun _ _ => rfl)) (pa_cons (pe_lc (own := [("_law_one", 4)]) (g := gName 4) (tt := tYes) rfl nd (pi_tup (pe_ix ix_tup (pv 0) pe_int (fun _ _ => rfl)))
        (blkOk_by (N := NT) (sc := defScope sLText) (by decide +kernel)) (fun _ _ _ _ _ => pg_name (i := 4) nd rfl (Or.inl rfl)) (fun _ _ _ _ _ => pts_nil) (fun _ _ _ _ _ => pe_call G hr (by rfl) mG kG bG .nil pass0 (pa_cons (pv 4) pa_nil))) pa_nil)) (by rfl))
      (pss_cons (ps_if (pt_cmpR (op_eqD hr.units) (pv 3) (pe_lst pa_nil) (nomark _)) (pss_one (ps_ret (pe_dget hu (pe_disp (pps_cons pe_str pe_str (pps_cons pe_str pe_str pps_nil)) (by rfl) (by rfl) (fun z => by cases z) (by decide)) (pv 1) (fun _ _ => rfl)))) pss_nil)
      (pss_one (ps_ret (pe_op op_add_str (pe_op op_add_str (pe_op op_add_str pe_str (pe_ifExp (pt_cmpR op_eq (pe_callB call_len_seq (by rfl) ml PySem.boot_len (pa_cons (pv 3) pa_nil)) pe_int (nomark _)) (pv 2) pe_str)) (pe_join (pv 2) (pv 3))) pe_str))))) pss_nil)
    (pss_cons (ps_if (pt_cmpR op_eq (pv 1) pe_str (nomark _)) (pss_one (ps_ret (pe_op op_add_str (pe_op op_add_str (pe_op op_add_str (pe_op op_add_str pe_str (pe_call G hr (by rfl) mG kG bG .nil pass0 (pa_cons (pe_ix ix_tup (pv 0) pe_int (fun _ _ => rfl)) pa_nil))) pe_str) (pe_call G hr (by rfl) mG kG bG .nil pass0 (pa_cons (pe_ix ix_tup (pv 0) pe_int (fun _ _ => rfl)) pa_nil))) pe_str))) pss_nil)
    (pss_cons (ps_if (pt_cmpR op_eq (pv 1) pe_str (nomark _)) (pss_one (ps_ret (pe_op op_add_str (pe_op op_add_str (pe_op op_add_str pe_str (pe_call G hr (by rfl) mG kG bG .nil pass0 (pa_cons (pe_ix ix_tup (pv 0) pe_int (fun _ _ => rfl)) pa_nil))) pe_str) (pe_call G hr (by rfl) mG kG bG .nil pass0 (pa_cons (pe_ix ix_tup (pv 0) pe_int (fun _ _ => rfl)) pa_nil))))) pss_nil)
    (pss_one (ps_ret (pe_op op_add_str (pe_ifExp (pt_cmpR op_eq (pv 1) pe_str (nomark _)) (pe_op op_add_str (pe_op op_add_str pe_str (pe_ix ix_tup (pv 0) pe_int (fun _ _ => rfl))) pe_str) (pe_op op_add_str (pe_op op_add_str pe_str (pe_ix ix_tup (pv 0) pe_int (fun _ _ => rfl))) pe_str)) (pe_call G hr (by rfl) mG kG bG .nil pass0 (pa_cons (pe_ix ix_tup (pv 0) pe_int (fun _ _ => rfl)) pa_nil)))))))))), ?_⟩
  obtain ⟨a, j, rfl, rfl, hc⟩ := say_at hs hd
  have hin := fun {e : PyData} (he : e ∈ wt d) => tz_in hs he
  rw [txt_in hs] at q
  rcases hc with ⟨x, hx, rfl, hq⟩ | ⟨e, y, he, rfl, hy, hq⟩ | ⟨w, ds, b, hw, he, rfl, hy, hq⟩ | ⟨w, e, f, y, z, hw, he, hf, rfl, hy, hz', hq⟩ | ⟨w, h, e, y, hw, hh, he, rfl, hy, hq⟩
  · refine ⟨_, rfl, a, _, 0, _, rfl, rfl, hq, rfl, _, rfl, rfl, _, rfl, ite2 (fun c => ?_) (fun c => absurd (by decide +kernel) c)⟩
    rw [wt_let] at q
    simp only [List.map_cons, List.map_nil, txt_str, catS_one] at q
    exact ⟨_, rfl, a, _, 1, _, rfl, rfl, hq, rfl, q H (Same.refl H)⟩
  · refine ⟨_, rfl, a, _, 0, _, rfl, rfl, hq, rfl, _, rfl, rfl, _, rfl, ite2 (fun c => absurd c (by decide +kernel)) (fun c => ⟨_, rfl, rfl, _, rfl, ite2 (fun c => ?_) (fun c => absurd (by decide +kernel) c)⟩)⟩
    rw [wt_not] at q hin
    have t1 := hin (e := e) (by simp)
    have l1 := txt_len (.inr he)
    simp only [List.map_cons, List.map_nil, txt_str, catS, app_nil] at q
    exact ⟨_, rfl, a, _, 1, _, rfl, rfl, hq, rfl, y, tl, j, e, rfl, he, by omega, hy, by omega, fun H1 s1 => ⟨_, _, rfl, rfl, (fits (by simp only [len_app, lit0, lit1, lit2, lit3, lit4, lit5, lit6, lit7, lit8, lit9, lit10, lit11] at *; omega)), q H1 s1⟩⟩
  · rcases hw with rfl | rfl
    · refine ⟨_, rfl, a, _, 0, _, rfl, rfl, hq, rfl, _, rfl, rfl, _, rfl, ite2 (fun c => absurd c (by decide +kernel)) (fun c => ⟨_, rfl, rfl, _, rfl, ite2 (fun c => absurd c (by decide +kernel)) (fun c => ⟨_, rfl, zz2, fun u1 nu1 => ⟨u1, _, rfl, .inr (.inl (.inl upd_same)), rfl, rfl, _, rfl, ite2 (fun c => ?_) (fun c => absurd (by decide +kernel) c)⟩⟩)⟩)⟩
      have s1 := same_new nu1 (.tup [.str "and", .str "or"])
      have hq1 := (Tp.same s1).tup hq
      have hy1 := dp_same s1 _ _ hy
      generalize upd H u1 (.tup [.str "and", .str "or"]) = H1 at s1 hq1 hy1
      refine fun p np => ⟨upd_same, [(Sum.inr "and", .str "&"), (Sum.inr "or", .str "|")], rfl, by decide, _, rfl, p, .str "&", rfl, .inl ⟨_, Sum.inr "and", .inl upd_same, rfl, (dict_a _ _).symm⟩, ?_⟩
      have s2 := same_at np (same_new np (.dK [])) (.dK (mergeK [] [((Sum.inr "and" : Key), .str "&"), (Sum.inr "or", .str "|")]))
      have hq2 := (Tp.same s2).tup hq1
      have hy2 := dp_same s2 _ _ hy1
      have s12 := s1.trans s2
      generalize upd (upd H1 p (.dK [])) p (.dK (mergeK [] [((Sum.inr "and" : Key), .str "&"), (Sum.inr "or", .str "|")])) = H2 at s2 hq2 hy2 s12
      cases hy2 with
      | tup hqb hab =>
        rename_i us
        have lus := dpAll_len hab
        rw [wt_and] at q hin
        have hsum := joinD_sub (n := j) "T" "&" ds
        refine ⟨_, rfl, a, _, 1, _, rfl, rfl, hq2, rfl, b, rfl, ⟨us, hqb⟩, fun D hD => ?_⟩
        refine lc_tup (K := K) (a := b) (xs := us) (fun i H' => H' D = some (.lst (((ds.take i).map (txt j)).map V.str)) ∧ Same H2 H') ⟨upd_same, same_new hD _⟩ (fun i H' _ ⟨_, sm⟩ => (Tp.same sm).tup hqb)
          (fun i x H' hx ⟨hl', sm⟩ => ?_) (fun H' ⟨hl', sm⟩ => ?_)
        · obtain ⟨e, hge, hde⟩ := dpAll_get hab hx
          have me := List.mem_of_getElem? hge
          refine ⟨rfl, ?_⟩
          dsimp only [tYes]
          rw [if_pos rfl]
          have t1 := hin (e := e) (hsum.2 e me)
          refine ⟨_, rfl, x, tl, j, e, rfl, he e me, by omega, dp_same sm _ _ hde, by omega, fun H3 s3 => ⟨_, s3 _ _ hl', ?_, ?_, same_at hD (sm.trans s3) _⟩⟩
          · rw [List.length_map, List.length_map, List.length_take]
            have := tz_many (tl := tl) (n := j) (w := "and") (ds := ds) (by decide +kernel) he
            rw [sizeLine_eq]
            omega
          · rw [upd_same, List.take_add_one, hge, List.map_append, List.map_append]
            rfl
        · rw [lus, List.take_length] at hl'
          have s3 := s12.trans sm
          refine ⟨_, _, rfl, _, rfl, zz0, fun t nt => ?_⟩
          have hok : ∀ x ∈ ds.map (txt j), PyData.strOk x = true := fun x hx => by
            obtain ⟨e, me, rfl⟩ := List.mem_map.mp hx
            exact txt_ok (he e me)
          have s4 := same_new nt (.lst [])
          have s5 := s3.trans s4
          have hl4 := s4 _ _ hl'
          refine ⟨.list ((ds.map (txt j)).map .str), .list [], .lst (SqL.of hl4) (dpStrs _), .lst (.inl (.inl upd_same)) .nil, shStrs _ hok, by decide +kernel, _, rfl, ?_⟩
          rw [eqvS]
          generalize upd H' t (.lst []) = H4 at s4 s5 hl4
          cases ds with
          | nil =>
            refine iteT fun p np => ⟨upd_same, [(Sum.inr "and", .str "T"), (Sum.inr "or", .str "F")], rfl, by decide, _, rfl, p, .str "T", rfl, .inl ⟨_, Sum.inr "and", .inl upd_same, rfl, (dict_a _ _).symm⟩, ?_⟩
            have e : catS ((joinD "T" "&" []).map (txt j)) = ("T" : Str) := by
              simp only [joinD, List.map_cons, List.map_nil, txt_str, catS_one]
            rw [e] at q
            exact q _ (s5.trans (same_at np (same_new np _) _))
          | cons d0 ds =>
            have hcat := cat_len (n := j) (tl := tl) (es := joinD "T" "&" (d0 :: ds)) (fun e me => joinD_pc (by decide +kernel) (by decide +kernel) he e me)
            have hjs := tz_step' (n := j) hs
            rw [wt_and] at hjs
            have hj := txt_join j "T" "&" d0 ds
            have hj2 := congrArg Str.length hj
            simp only [len_app, lit1, lit2] at hj2
            have hsl := sum_txt (n := j) (tl := tl) (ds := d0 :: ds) he
            have hso := hsum.1
            have hno := tz_many (tl := tl) (n := j) (w := "and") (ds := d0 :: ds) (by decide +kernel) he
            refine iteF ⟨_, rfl, D, _, rfl, .inl (SqL.of hl4), rfl, _, rfl, ?_⟩
            rw [hj] at q
            have jb : ((List.map (txt j) (d0 :: ds)).map (·.length)).sum + (List.map (txt j) (d0 :: ds)).length * ("&" : Str).length ≤ 16777216 := by
              rw [lit10, List.length_map]
              omega
            have dl : ((((List.map V.str (List.map (txt j) (d0 :: ds))).length : Nat) : Int) = 1) ↔ (d0 :: ds).length = 1 := by
              rw [List.length_map, List.length_map]
              omega
            by_cases h1 : (d0 :: ds).length = 1
            · rw [if_pos h1] at q hj2
              refine ite2 (fun c => ⟨_, rfl, _, _, rfl, rfl, (fits (by simp only [len_app, lit0, lit1, lit2, lit3, lit4, lit5, lit6, lit7, lit8, lit9, lit10, lit11] at *; omega)), _, rfl, ⟨_, rfl⟩, _, rfl, _, D, _, rfl, rfl, .inl (SqL.of hl4), jb, _, _, rfl, rfl, (fits (by simp only [len_app, lit0, lit1, lit2, lit3, lit4, lit5, lit6, lit7, lit8, lit9, lit10, lit11] at *; omega)), _, _, rfl, rfl, (fits (by simp only [len_app, lit0, lit1, lit2, lit3, lit4, lit5, lit6, lit7, lit8, lit9, lit10, lit11] at *; omega)), q _ s5⟩) (fun c => absurd (by simpa using dl.mpr h1) c)
            · rw [if_neg h1] at q hj2
              refine ite2 (fun c => absurd (dl.mp (by simpa using c)) h1) (fun c => ⟨_, _, rfl, rfl, (fits (by simp only [len_app, lit0, lit1, lit2, lit3, lit4, lit5, lit6, lit7, lit8, lit9, lit10, lit11] at *; omega)), _, rfl, ⟨_, rfl⟩, _, rfl, _, D, _, rfl, rfl, .inl (SqL.of hl4), jb, _, _, rfl, rfl, (fits (by simp only [len_app, lit0, lit1, lit2, lit3, lit4, lit5, lit6, lit7, lit8, lit9, lit10, lit11] at *; omega)), _, _, rfl, rfl, (fits (by simp only [len_app, lit0, lit1, lit2, lit3, lit4, lit5, lit6, lit7, lit8, lit9, lit10, lit11] at *; omega)), q _ s5⟩)
    · refine ⟨_, rfl, a, _, 0, _, rfl, rfl, hq, rfl, _, rfl, rfl, _, rfl, ite2 (fun c => absurd c (by decide +kernel)) (fun c => ⟨_, rfl, rfl, _, rfl, ite2 (fun c => absurd c (by decide +kernel)) (fun c => ⟨_, rfl, zz2, fun u1 nu1 => ⟨u1, _, rfl, .inr (.inl (.inl upd_same)), rfl, rfl, _, rfl, ite2 (fun c => ?_) (fun c => absurd (by decide +kernel) c)⟩⟩)⟩)⟩
      have s1 := same_new nu1 (.tup [.str "and", .str "or"])
      have hq1 := (Tp.same s1).tup hq
      have hy1 := dp_same s1 _ _ hy
      generalize upd H u1 (.tup [.str "and", .str "or"]) = H1 at s1 hq1 hy1
      refine fun p np => ⟨upd_same, [(Sum.inr "and", .str "&"), (Sum.inr "or", .str "|")], rfl, by decide, _, rfl, p, .str "|", rfl, .inl ⟨_, Sum.inr "or", .inl upd_same, rfl, (dict_o _ _).symm⟩, ?_⟩
      have s2 := same_at np (same_new np (.dK [])) (.dK (mergeK [] [((Sum.inr "and" : Key), .str "&"), (Sum.inr "or", .str "|")]))
      have hq2 := (Tp.same s2).tup hq1
      have hy2 := dp_same s2 _ _ hy1
      have s12 := s1.trans s2
      generalize upd (upd H1 p (.dK [])) p (.dK (mergeK [] [((Sum.inr "and" : Key), .str "&"), (Sum.inr "or", .str "|")])) = H2 at s2 hq2 hy2 s12
      cases hy2 with
      | tup hqb hab =>
        rename_i us
        have lus := dpAll_len hab
        rw [wt_or] at q hin
        have hsum := joinD_sub (n := j) "F" "|" ds
        refine ⟨_, rfl, a, _, 1, _, rfl, rfl, hq2, rfl, b, rfl, ⟨us, hqb⟩, fun D hD => ?_⟩
        refine lc_tup (K := K) (a := b) (xs := us) (fun i H' => H' D = some (.lst (((ds.take i).map (txt j)).map V.str)) ∧ Same H2 H') ⟨upd_same, same_new hD _⟩ (fun i H' _ ⟨_, sm⟩ => (Tp.same sm).tup hqb)
          (fun i x H' hx ⟨hl', sm⟩ => ?_) (fun H' ⟨hl', sm⟩ => ?_)
        · obtain ⟨e, hge, hde⟩ := dpAll_get hab hx
          have me := List.mem_of_getElem? hge
          refine ⟨rfl, ?_⟩
          dsimp only [tYes]
          rw [if_pos rfl]
          have t1 := hin (e := e) (hsum.2 e me)
          refine ⟨_, rfl, x, tl, j, e, rfl, he e me, by omega, dp_same sm _ _ hde, by omega, fun H3 s3 => ⟨_, s3 _ _ hl', ?_, ?_, same_at hD (sm.trans s3) _⟩⟩
          · rw [List.length_map, List.length_map, List.length_take]
            have := tz_many (tl := tl) (n := j) (w := "or") (ds := ds) (by decide +kernel) he
            rw [sizeLine_eq]
            omega
          · rw [upd_same, List.take_add_one, hge, List.map_append, List.map_append]
            rfl
        · rw [lus, List.take_length] at hl'
          have s3 := s12.trans sm
          refine ⟨_, _, rfl, _, rfl, zz0, fun t nt => ?_⟩
          have hok : ∀ x ∈ ds.map (txt j), PyData.strOk x = true := fun x hx => by
            obtain ⟨e, me, rfl⟩ := List.mem_map.mp hx
            exact txt_ok (he e me)
          have s4 := same_new nt (.lst [])
          have s5 := s3.trans s4
          have hl4 := s4 _ _ hl'
          refine ⟨.list ((ds.map (txt j)).map .str), .list [], .lst (SqL.of hl4) (dpStrs _), .lst (.inl (.inl upd_same)) .nil, shStrs _ hok, by decide +kernel, _, rfl, ?_⟩
          rw [eqvS]
          generalize upd H' t (.lst []) = H4 at s4 s5 hl4
          cases ds with
          | nil =>
            refine iteT fun p np => ⟨upd_same, [(Sum.inr "and", .str "T"), (Sum.inr "or", .str "F")], rfl, by decide, _, rfl, p, .str "F", rfl, .inl ⟨_, Sum.inr "or", .inl upd_same, rfl, (dict_o _ _).symm⟩, ?_⟩
            have e : catS ((joinD "F" "|" []).map (txt j)) = ("F" : Str) := by
              simp only [joinD, List.map_cons, List.map_nil, txt_str, catS_one]
            rw [e] at q
            exact q _ (s5.trans (same_at np (same_new np _) _))
          | cons d0 ds =>
            have hcat := cat_len (n := j) (tl := tl) (es := joinD "F" "|" (d0 :: ds)) (fun e me => joinD_pc (by decide +kernel) (by decide +kernel) he e me)
            have hjs := tz_step' (n := j) hs
            rw [wt_or] at hjs
            have hj := txt_join j "F" "|" d0 ds
            have hj2 := congrArg Str.length hj
            simp only [len_app, lit1, lit2] at hj2
            have hsl := sum_txt (n := j) (tl := tl) (ds := d0 :: ds) he
            have hso := hsum.1
            have hno := tz_many (tl := tl) (n := j) (w := "or") (ds := d0 :: ds) (by decide +kernel) he
            refine iteF ⟨_, rfl, D, _, rfl, .inl (SqL.of hl4), rfl, _, rfl, ?_⟩
            rw [hj] at q
            have jb : ((List.map (txt j) (d0 :: ds)).map (·.length)).sum + (List.map (txt j) (d0 :: ds)).length * ("|" : Str).length ≤ 16777216 := by
              rw [lit11, List.length_map]
              omega
            have dl : ((((List.map V.str (List.map (txt j) (d0 :: ds))).length : Nat) : Int) = 1) ↔ (d0 :: ds).length = 1 := by
              rw [List.length_map, List.length_map]
              omega
            by_cases h1 : (d0 :: ds).length = 1
            · rw [if_pos h1] at q hj2
              refine ite2 (fun c => ⟨_, rfl, _, _, rfl, rfl, (fits (by simp only [len_app, lit0, lit1, lit2, lit3, lit4, lit5, lit6, lit7, lit8, lit9, lit10, lit11] at *; omega)), _, rfl, ⟨_, rfl⟩, _, rfl, _, D, _, rfl, rfl, .inl (SqL.of hl4), jb, _, _, rfl, rfl, (fits (by simp only [len_app, lit0, lit1, lit2, lit3, lit4, lit5, lit6, lit7, lit8, lit9, lit10, lit11] at *; omega)), _, _, rfl, rfl, (fits (by simp only [len_app, lit0, lit1, lit2, lit3, lit4, lit5, lit6, lit7, lit8, lit9, lit10, lit11] at *; omega)), q _ s5⟩) (fun c => absurd (by simpa using dl.mpr h1) c)
            · rw [if_neg h1] at q hj2
              refine ite2 (fun c => absurd (dl.mp (by simpa using c)) h1) (fun c => ⟨_, _, rfl, rfl, (fits (by simp only [len_app, lit0, lit1, lit2, lit3, lit4, lit5, lit6, lit7, lit8, lit9, lit10, lit11] at *; omega)), _, rfl, ⟨_, rfl⟩, _, rfl, _, D, _, rfl, rfl, .inl (SqL.of hl4), jb, _, _, rfl, rfl, (fits (by simp only [len_app, lit0, lit1, lit2, lit3, lit4, lit5, lit6, lit7, lit8, lit9, lit10, lit11] at *; omega)), _, _, rfl, rfl, (fits (by simp only [len_app, lit0, lit1, lit2, lit3, lit4, lit5, lit6, lit7, lit8, lit9, lit10, lit11] at *; omega)), q _ s5⟩)
  · rcases hw with rfl | ⟨rfl, _⟩
    · refine ⟨_, rfl, a, _, 0, _, rfl, rfl, hq, rfl, _, rfl, rfl, _, rfl, ite2 (fun c => absurd c (by decide +kernel)) (fun c => ⟨_, rfl, rfl, _, rfl, ite2 (fun c => absurd c (by decide +kernel)) (fun c => ⟨_, rfl, zz2, fun u1 nu1 => ⟨u1, _, rfl, .inr (.inl (.inl upd_same)), rfl, rfl, _, rfl, ite2 (fun c => absurd c (by decide +kernel)) (fun c => ?_)⟩⟩)⟩)⟩
      have s1 := same_new nu1 (.tup [.str "and", .str "or"])
      rw [wt_so] at q hin
      have t1 := hin (e := e) (by simp)
      have t2 := hin (e := f) (by simp)
      have l1 := txt_len (.inr he)
      have l2 := txt_len (.inr hf)
      simp only [List.map_cons, List.map_nil, txt_str, catS, app_nil, ← app_assoc] at q
      refine ⟨_, rfl, rfl, _, rfl, ite2 (fun c => ?_) (fun c => absurd (by decide +kernel) c)⟩
      exact ⟨_, rfl, a, _, 1, _, rfl, rfl, ((Tp.same s1).tup hq), rfl, y, tl, j, e, rfl, he, by omega, dp_same s1 _ _ hy, by omega, fun H2 s2 => ⟨_, _, rfl, rfl, (fits (by simp only [len_app, lit0, lit1, lit2, lit3, lit4, lit5, lit6, lit7, lit8, lit9, lit10, lit11] at *; omega)), _, _, rfl, rfl, (fits (by simp only [len_app, lit0, lit1, lit2, lit3, lit4, lit5, lit6, lit7, lit8, lit9, lit10, lit11] at *; omega)), _, rfl, a, _, 2, _, rfl, rfl, ((Tp.same (s1.trans s2)).tup hq), rfl, z, tl, j, f, rfl, hf, by omega, dp_same (s1.trans s2) _ _ hz', by omega, fun H3 s3 => ⟨_, _, rfl, rfl, (fits (by simp only [len_app, lit0, lit1, lit2, lit3, lit4, lit5, lit6, lit7, lit8, lit9, lit10, lit11] at *; omega)), _, _, rfl, rfl, (fits (by simp only [len_app, lit0, lit1, lit2, lit3, lit4, lit5, lit6, lit7, lit8, lit9, lit10, lit11] at *; omega)), q H3 (s1.trans (s2.trans s3))⟩⟩⟩
    · refine ⟨_, rfl, a, _, 0, _, rfl, rfl, hq, rfl, _, rfl, rfl, _, rfl, ite2 (fun c => absurd c (by decide +kernel)) (fun c => ⟨_, rfl, rfl, _, rfl, ite2 (fun c => absurd c (by decide +kernel)) (fun c => ⟨_, rfl, zz2, fun u1 nu1 => ⟨u1, _, rfl, .inr (.inl (.inl upd_same)), rfl, rfl, _, rfl, ite2 (fun c => absurd c (by decide +kernel)) (fun c => ?_)⟩⟩)⟩)⟩
      have s1 := same_new nu1 (.tup [.str "and", .str "or"])
      rw [wt_told] at q hin
      have t1 := hin (e := e) (by simp)
      have t2 := hin (e := f) (by simp)
      have l1 := txt_len (.inr he)
      have l2 := txt_len (.inr hf)
      simp only [List.map_cons, List.map_nil, txt_str, catS, app_nil, ← app_assoc] at q
      refine ⟨_, rfl, rfl, _, rfl, ite2 (fun c => absurd c (by decide +kernel)) (fun c => ⟨_, rfl, rfl, _, rfl, ite2 (fun c => ?_) (fun c => absurd (by decide +kernel) c)⟩)⟩
      exact ⟨_, rfl, a, _, 1, _, rfl, rfl, ((Tp.same s1).tup hq), rfl, y, tl, j, e, rfl, he, by omega, dp_same s1 _ _ hy, by omega, fun H2 s2 => ⟨_, _, rfl, rfl, (fits (by simp only [len_app, lit0, lit1, lit2, lit3, lit4, lit5, lit6, lit7, lit8, lit9, lit10, lit11] at *; omega)), _, _, rfl, rfl, (fits (by simp only [len_app, lit0, lit1, lit2, lit3, lit4, lit5, lit6, lit7, lit8, lit9, lit10, lit11] at *; omega)), _, rfl, a, _, 2, _, rfl, rfl, ((Tp.same (s1.trans s2)).tup hq), rfl, z, tl, j, f, rfl, hf, by omega, dp_same (s1.trans s2) _ _ hz', by omega, fun H3 s3 => ⟨_, _, rfl, rfl, (fits (by simp only [len_app, lit0, lit1, lit2, lit3, lit4, lit5, lit6, lit7, lit8, lit9, lit10, lit11] at *; omega)), q H3 (s1.trans (s2.trans s3))⟩⟩⟩
  · rcases hw with rfl | rfl
    · refine ⟨_, rfl, a, _, 0, _, rfl, rfl, hq, rfl, _, rfl, rfl, _, rfl, ite2 (fun c => absurd c (by decide +kernel)) (fun c => ⟨_, rfl, rfl, _, rfl, ite2 (fun c => absurd c (by decide +kernel)) (fun c => ⟨_, rfl, zz2, fun u1 nu1 => ⟨u1, _, rfl, .inr (.inl (.inl upd_same)), rfl, rfl, _, rfl, ite2 (fun c => absurd c (by decide +kernel)) (fun c => ?_)⟩⟩)⟩)⟩
      have s1 := same_new nu1 (.tup [.str "and", .str "or"])
      rw [wt_must] at q hin
      have t1 := hin (e := e) (by simp)
      have l1 := txt_len (.inr he)
      have l2 := pool8 hh.mem
      simp only [List.map_cons, List.map_nil, txt_str, catS, app_nil, ← app_assoc] at q
      refine ⟨_, rfl, rfl, _, rfl, ite2 (fun c => absurd c (by decide +kernel)) (fun c => ⟨_, rfl, rfl, _, rfl, ite2 (fun c => absurd c (by decide +kernel)) (fun c => ?_)⟩)⟩
      exact ⟨_, rfl, rfl, _, rfl, ite2 (fun c => ⟨_, rfl, a, _, 1, _, rfl, rfl, ((Tp.same s1).tup hq), rfl, _, _, rfl, rfl, (fits (by simp only [len_app, lit0, lit1, lit2, lit3, lit4, lit5, lit6, lit7, lit8, lit9, lit10, lit11] at *; omega)), _, _, rfl, rfl, (fits (by simp only [len_app, lit0, lit1, lit2, lit3, lit4, lit5, lit6, lit7, lit8, lit9, lit10, lit11] at *; omega)), _, rfl, a, _, 2, _, rfl, rfl, ((Tp.same s1).tup hq), rfl, y, tl, j, e, rfl, he, by omega, dp_same s1 _ _ hy, by omega, fun H2 s2 => ⟨_, _, rfl, rfl, (fits (by simp only [len_app, lit0, lit1, lit2, lit3, lit4, lit5, lit6, lit7, lit8, lit9, lit10, lit11] at *; omega)), q H2 (s1.trans s2)⟩⟩) (fun c => absurd (by decide +kernel) c)⟩
    · refine ⟨_, rfl, a, _, 0, _, rfl, rfl, hq, rfl, _, rfl, rfl, _, rfl, ite2 (fun c => absurd c (by decide +kernel)) (fun c => ⟨_, rfl, rfl, _, rfl, ite2 (fun c => absurd c (by decide +kernel)) (fun c => ⟨_, rfl, zz2, fun u1 nu1 => ⟨u1, _, rfl, .inr (.inl (.inl upd_same)), rfl, rfl, _, rfl, ite2 (fun c => absurd c (by decide +kernel)) (fun c => ?_)⟩⟩)⟩)⟩
      have s1 := same_new nu1 (.tup [.str "and", .str "or"])
      rw [wt_may] at q hin
      have t1 := hin (e := e) (by simp)
      have l1 := txt_len (.inr he)
      have l2 := pool8 hh.mem
      simp only [List.map_cons, List.map_nil, txt_str, catS, app_nil, ← app_assoc] at q
      refine ⟨_, rfl, rfl, _, rfl, ite2 (fun c => absurd c (by decide +kernel)) (fun c => ⟨_, rfl, rfl, _, rfl, ite2 (fun c => absurd c (by decide +kernel)) (fun c => ?_)⟩)⟩
      exact ⟨_, rfl, rfl, _, rfl, ite2 (fun c => absurd c (by decide +kernel)) (fun c => ⟨_, rfl, a, _, 1, _, rfl, rfl, ((Tp.same s1).tup hq), rfl, _, _, rfl, rfl, (fits (by simp only [len_app, lit0, lit1, lit2, lit3, lit4, lit5, lit6, lit7, lit8, lit9, lit10, lit11] at *; omega)), _, _, rfl, rfl, (fits (by simp only [len_app, lit0, lit1, lit2, lit3, lit4, lit5, lit6, lit7, lit8, lit9, lit10, lit11] at *; omega)), _, rfl, a, _, 2, _, rfl, rfl, ((Tp.same s1).tup hq), rfl, y, tl, j, e, rfl, he, by omega, dp_same s1 _ _ hy, by omega, fun H2 s2 => ⟨_, _, rfl, rfl, (fits (by simp only [len_app, lit0, lit1, lit2, lit3, lit4, lit5, lit6, lit7, lit8, lit9, lit10, lit11] at *; omega)), q H2 (s1.trans s2)⟩⟩)⟩
end
end Ms03

namespace Ms03
open PySem PySem.Spec PyProof.Rows L2
theorem psz_pos {tl : Bool} {n : Nat} {d : PyData} (h : Say tl n d) : 1 ≤ psz n d := by
  cases n with
  | zero => exact h.elim
  | succ n => simp only [psz]; omega
/-! ### data of a bounded size -/
structure Nice (N D : Nat) (d : PyData) : Prop where
  sh : d.showable = true
  nd : d.hasDict = false
  len : d.shown.length ≤ N
  dep : d.depth ≤ D
theorem Nice.mono {N N' D D' : Nat} {d : PyData} (h : Nice N D d) (a : N ≤ N') (b : D ≤ D') : Nice N' D' d := ⟨h.sh, h.nd, Nat.le_trans h.len a, Nat.le_trans h.dep b⟩
theorem nice_t0 : Nice 2 1 (.tuple []) := ⟨by decide +kernel, by decide +kernel, by decide +kernel, by decide +kernel⟩
theorem nice_t1 {N D : Nat} {a : PyData} (h : Nice N D a) : Nice (N + 5) (D + 1) (.tuple [a]) := by
  refine ⟨by simp [PyData.showable, PyData.showableAll, h.sh], by simp [PyData.hasDict, PyData.hasDictAll, h.nd], ?_, ?_⟩
  · have e := tupleText_len_le (PyData.shownAll [a])
    simp only [PyData.shownAll, List.map_cons, List.map_nil, List.sum_cons, List.sum_nil, List.length_cons, List.length_nil] at e
    have := h.len
    simp only [PyData.shown, PyData.shownAll]
    omega
  · have := h.dep
    simp only [PyData.depth, PyData.depthAll]
    omega
theorem nice_t2 {N M D E : Nat} {a b : PyData} (h : Nice N D a) (g : Nice M E b) : Nice (N + M + 7) (max D E + 1) (.tuple [a, b]) := by
  refine ⟨by simp [PyData.showable, PyData.showableAll, h.sh, g.sh], by simp [PyData.hasDict, PyData.hasDictAll, h.nd, g.nd], ?_, ?_⟩
  · have e := tupleText_len_le (PyData.shownAll [a, b])
    simp only [PyData.shownAll, List.map_cons, List.map_nil, List.sum_cons, List.sum_nil, List.length_cons, List.length_nil] at e
    have := h.len
    have := g.len
    simp only [PyData.shown, PyData.shownAll]
    omega
  · have := h.dep
    have := g.dep
    simp only [PyData.depth, PyData.depthAll]
    omega
theorem nice_t3 {N M L D E F : Nat} {a b c : PyData} (h : Nice N D a) (g : Nice M E b) (i : Nice L F c) : Nice (N + M + L + 9) (max D (max E F) + 1) (.tuple [a, b, c]) := by
  refine ⟨by simp [PyData.showable, PyData.showableAll, h.sh, g.sh, i.sh], by simp [PyData.hasDict, PyData.hasDictAll, h.nd, g.nd, i.nd], ?_, ?_⟩
  · have e := tupleText_len_le (PyData.shownAll [a, b, c])
    simp only [PyData.shownAll, List.map_cons, List.map_nil, List.sum_cons, List.sum_nil, List.length_cons, List.length_nil] at e
    have := h.len
    have := g.len
    have := i.len
    simp only [PyData.shown, PyData.shownAll]
    omega
  · have := h.dep
    have := g.dep
    have := i.dep
    simp only [PyData.depth, PyData.depthAll]
    omega
/-- of like ones -/
theorem nice_all {N D : Nat} : ∀ {ds : List PyData}, (∀ d ∈ ds, Nice N D d) → PyData.showableAll ds = true ∧ PyData.hasDictAll ds = false ∧ ((PyData.shownAll ds).map (·.length)).sum ≤ N * ds.length ∧ (PyData.shownAll ds).length = ds.length ∧ PyData.depthAll ds ≤ D
  | [], _ => ⟨rfl, rfl, by simp [PyData.shownAll], rfl, by simp [PyData.depthAll]⟩
  | d :: ds, h => by
    have a := h d List.mem_cons_self
    obtain ⟨h1, h2, h3, h4, h5⟩ := nice_all (ds := ds) fun x hx => h x (List.mem_cons_of_mem _ hx)
    refine ⟨by simp [PyData.showableAll, a.sh, h1], by simp [PyData.hasDictAll, a.nd, h2], ?_, by simp [PyData.shownAll, h4], ?_⟩
    · have := a.len
      simp only [PyData.shownAll, List.map_cons, List.sum_cons, List.length_cons, Nat.mul_add, Nat.mul_one]
      omega
    · have := a.dep
      simp only [PyData.depthAll]
      omega
theorem nice_tup {N D : Nat} {ds : List PyData} (h : ∀ d ∈ ds, Nice N D d) : Nice (N * ds.length + 2 * ds.length + 3) (D + 1) (.tuple ds) := by
  obtain ⟨h1, h2, h3, h4, h5⟩ := nice_all h
  refine ⟨by simp [PyData.showable, h1], by simp [PyData.hasDict, h2], ?_, by simp only [PyData.depth]; omega⟩
  have e := tupleText_len_le (PyData.shownAll ds)
  simp only [PyData.shown]
  omega
/-- texts -/
abbrev NS (x : Str) : Prop := Nice 20 0 (.str x)
theorem ns_by {x : Str} (h : (PyData.str x).shown.length ≤ 20) : NS x := ⟨rfl, rfl, h, Nat.le_refl _⟩

/-- the words of a row, as they are written -/
theorem shown_sum {N : PyData → Nat} {D : Nat} : ∀ {ds : List PyData}, (∀ d ∈ ds, Nice (N d) D d) → PyData.showableAll ds = true ∧ PyData.hasDictAll ds = false ∧ ((PyData.shownAll ds).map (·.length)).sum ≤ (ds.map N).sum ∧ (PyData.shownAll ds).length = ds.length ∧ PyData.depthAll ds ≤ D
  | [], _ => ⟨rfl, rfl, by simp [PyData.shownAll], rfl, by simp [PyData.depthAll]⟩
  | d :: ds, h => by
    have a := h d List.mem_cons_self
    obtain ⟨h1, h2, h3, h4, h5⟩ := shown_sum (ds := ds) fun x hx => h x (List.mem_cons_of_mem _ hx)
    refine ⟨by simp [PyData.showableAll, a.sh, h1], by simp [PyData.hasDictAll, a.nd, h2], ?_, by simp [PyData.shownAll, h4], ?_⟩
    · have := a.len
      simp only [PyData.shownAll, List.map_cons, List.sum_cons]
      omega
    · have := a.dep
      simp only [PyData.depthAll]
      omega
theorem nice_tupS {N : PyData → Nat} {D : Nat} {ds : List PyData} (h : ∀ d ∈ ds, Nice (N d) D d) : Nice ((ds.map N).sum + 2 * ds.length + 3) (D + 1) (.tuple ds) := by
  obtain ⟨h1, h2, h3, h4, h5⟩ := shown_sum h
  refine ⟨by simp [PyData.showable, h1], by simp [PyData.hasDict, h2], ?_, by simp only [PyData.depth]; omega⟩
  have e := tupleText_len_le (PyData.shownAll ds)
  simp only [PyData.shown]
  omega
theorem ns_wd {x : Str} (h : Wd x) : NS x := ns_by h.sh
theorem sum_room (f : PyData → Nat) : ∀ {ds : List PyData}, (∀ e ∈ ds, 1 ≤ f e) → (ds.map fun e => 100 * f e - 20).sum + 2 * ds.length ≤ 100 * (ds.map f).sum
  | [], _ => by simp
  | d :: ds, h => by
    have h1 := sum_room f (ds := ds) fun e he => h e (List.mem_cons_of_mem _ he)
    have h2 := h d List.mem_cons_self
    simp only [List.map_cons, List.sum_cons, List.length_cons]
    omega
theorem nice_say {tl : Bool} : ∀ {n : Nat} {d : PyData}, Say tl n d → Nice (100 * psz n d - 20) (2 * n) d
  | 0, _, h => h.elim
  | n + 1, d, h => by
    rcases h with ⟨x, hx, rfl⟩ | ⟨a, h, rfl⟩ | ⟨w, ds, hw, h, rfl⟩ | ⟨w, a, b, hw, h, g, rfl⟩ | ⟨w, x, a, hw, hx, h, rfl⟩
    · refine (nice_t2 (ns_by (x := "letter") (by decide +kernel)) (ns_wd hx)).mono ?_ ?_
      · simp only [psz, inn_let, List.map_nil, List.sum_nil]
        omega
      · omega
    · have := psz_pos h
      refine (nice_t2 (ns_by (x := "not") (by decide +kernel)) (nice_say h)).mono ?_ ?_
      · simp only [psz, inn_not, List.map_cons, List.map_nil, List.sum_cons, List.sum_nil]
        omega
      · omega
    · have hk : NS w := by rcases hw with rfl | rfl <;> exact ns_by (by decide +kernel)
      have hl := sum_room (psz n) fun e he => psz_pos (h e he)
      refine (nice_t2 hk (nice_tupS (N := fun e => 100 * psz n e - 20) (D := 2 * n) (ds := ds) fun e he => nice_say (h e he))).mono ?_ ?_
      · simp only [psz, inn_many ds hw]
        omega
      · omega
    · have hk : NS w := by rcases hw with rfl | ⟨rfl, _⟩ <;> exact ns_by (by decide +kernel)
      have := psz_pos h
      have := psz_pos g
      refine (nice_t3 hk (nice_say h) (nice_say g)).mono ?_ ?_
      · simp only [psz, inn_two a b (hw.imp id (·.1)), List.map_cons, List.map_nil, List.sum_cons, List.sum_nil]
        omega
      · omega
    · have hk : NS w := by rcases hw with rfl | rfl <;> exact ns_by (by decide +kernel)
      have := psz_pos h
      refine (nice_t3 hk (ns_wd hx) (nice_say h)).mono ?_ ?_
      · simp only [psz, inn_mod x a hw, List.map_cons, List.map_nil, List.sum_cons, List.sum_nil]
        omega
      · omega
end Ms03

namespace Ms03
open PySem PySem.Spec PyProof.Rows L2
/-! ### written tuples as data -/
def Mk (K : PySem.W.Frag) (t : TE) (σ : L2.St) (H0 : Hp) (d : PyData) : Prop := ∀ H, Same H0 H → ∀ Q : VK, (∀ H' v, Same H H' → Dp K H' v d → Q v H') → t σ H Q
def MkA (K : PySem.W.Frag) (t : TA) (σ : L2.St) (H0 : Hp) (ds : List PyData) : Prop := ∀ H, Same H0 H → ∀ Q : List V → Hp → Prop, (∀ H' vs, Same H H' → DpAll K H' vs ds → Q vs H') → t σ H Q
section
variable {K : PySem.W.Frag} {σ : L2.St} {H0 : Hp}
theorem mk_str (x : Str) : Mk K (tC (.str x)) σ H0 (.str x) := fun H _ Q k => k H _ (Same.refl H) (.str x)
theorem mk_var {i : Nat} {v : V} {d : PyData} (h : σ[i]? = some (some v)) (hd : Dp K H0 v d) : Mk K (tVar i) σ H0 d := fun H s Q k => ⟨v, h, k H v (Same.refl H) (dp_same s _ _ hd)⟩
theorem mka_nil : MkA K tNil σ H0 [] := fun H _ Q k => k H _ (Same.refl H) .nil
theorem mka_cons {t : TE} {ts : TA} {d : PyData} {ds : List PyData} (h : Mk K t σ H0 d) (g : MkA K ts σ H0 ds) : MkA K (tCons t ts) σ H0 (d :: ds) := fun H s Q k =>
  h H s _ fun H1 v s1 h1 => g H1 (s.trans s1) _ fun H2 vs s2 h2 => k H2 _ (s1.trans s2) (.cons (dp_same s2 _ _ h1) h2)
theorem mk_tup {t : TA} {ds : List PyData} (h : MkA K t σ H0 ds) (hl : ds.length ≤ 1000 := by decide) : Mk K (tTup t) σ H0 (.tuple ds) := fun H s Q k =>
  h H s _ fun H1 vs s1 h1 => ⟨by rw [dpAll_len h1, sizeLine_eq]; omega, fun p np => k _ _ (s1.trans (same_new np _)) (.tup (.inl (.inl upd_same)) (dpAll_same (same_new np _) _ _ h1))⟩
/-- a written list -/
theorem run_lst {t : TA} {ds : List PyData} {H : Hp} {Q : VK} (h : MkA K t σ H ds) (k : ∀ H' p vs, Same H H' → H p = none → H' p = some (.lst vs) → DpAll K H' vs ds → Q (.ref p) H') (hl : ds.length ≤ 1000 := by decide) : tLst t σ H Q :=
  h H (Same.refl H) _ fun H1 vs s1 h1 => ⟨by rw [dpAll_len h1, sizeLine_eq]; omega, fun p np => k _ _ _ (s1.trans (same_new np _)) (s1.free np) upd_same (dpAll_same (same_new np _) _ _ h1)⟩
theorem run_a {t : TA} {ds : List PyData} {H : Hp} {Q : List V → Hp → Prop} (h : MkA K t σ H ds) (k : ∀ H' vs, Same H H' → DpAll K H' vs ds → Q vs H') : t σ H Q := h H (Same.refl H) Q k
theorem run_1 {t : TE} {d : PyData} {H : Hp} {Q : VK} (h : Mk K t σ H d) (k : ∀ H' v, Same H H' → Dp K H' v d → Q v H') : t σ H Q := h H (Same.refl H) Q k
end
section
variable {X : Cx}
/-- repr of a tuple -/
theorem call_reprA (hgd : X.A.guards = some []) : CallR X (.builtin "repr") (fun xs H Q => ∃ x d, xs = [x] ∧ Dp X.K H x d ∧ ((∃ ds, d = .tuple ds) ∨ ∃ ds, d = .list ds) ∧ d.showable = true ∧ d.hasDict = false ∧ d.shown.length ≤ sizeLine ∧
    X.A.units + (d.depth + 1) < cLine ∧ Q (.str d.shown) H) := by
  intro pins s σ H xs us Q I r h
  obtain ⟨x, d, rfl, hd, hform, hs, hnd, hsz, hu, q⟩ := h
  obtain ⟨u, rfl, ru⟩ := vals1 r
  rcases hform with ⟨ds, rfl⟩ | ⟨ds, rfl⟩
  · obtain ⟨as, rd⟩ := Dp.reads I _ _ u hd ru
    cases hd with
    | tup hsq hall =>
      cases ru
      exact repr_of_reads' rd hs (fun z => by rw [hnd] at z; cases z) hgd hu (fun _ _ e => e) (fun h' u tk hk => ⟨.str _, H, I.kept hk, ⟨_, rfl⟩, q⟩) hsz
  · obtain ⟨as, rd⟩ := Dp.reads I _ _ u hd ru
    cases hd with
    | lst hsq hall =>
      cases ru
      exact repr_of_reads' rd hs (fun z => by rw [hnd] at z; cases z) hgd hu (fun _ _ e => e) (fun h' u tk hk => ⟨.str _, H, I.kept hk, ⟨_, rfl⟩, q⟩) hsz
/-- repr of a text -/
theorem call_reprS : CallR X (.builtin "repr") (fun xs H Q => ∃ x : Str, xs = [.str x] ∧ (reprText x).length ≤ sizeLine ∧ Q (.str (reprText x)) H) := by
  intro pins s σ H xs us Q I r h
  obtain ⟨x, rfl, hz, q⟩ := h
  obtain ⟨u, rfl, ru⟩ := vals1 r
  obtain ⟨t, rfl⟩ := ru
  exact PySem.P.repr_of_str ⟨.str _, H, I.tok _, ⟨_, rfl⟩, q⟩ hz
end
theorem Say.tt {tl : Bool} : ∀ {n : Nat} {d : PyData}, Say tl n d → Say true n d
  | 0, _, h => h.elim
  | n + 1, d, h => by
    rcases h with h | ⟨a, h, q⟩ | ⟨w, ds, hw, h, q⟩ | ⟨w, a, b, hw, h, g, q⟩ | ⟨w, x, a, hw, hx, h, q⟩
    · exact .inl h
    · exact .inr (.inl ⟨a, h.tt, q⟩)
    · exact .inr (.inr (.inl ⟨w, ds, hw, fun a ha => (h a ha).tt, q⟩))
    · exact .inr (.inr (.inr (.inl ⟨w, a, b, hw.imp id (fun z => ⟨z.1, rfl⟩), h.tt, g.tt, q⟩)))
    · exact .inr (.inr (.inr (.inr ⟨w, x, a, hw, hx, h.tt, q⟩)))
/-- a saying that the law asks for -/
structure Good (d : PyData) : Prop where
  say : Say true 12 d
  sz : psz 12 d ≤ 40
theorem Good.tz {d : PyData} (h : Good d) : tz 12 d ≤ 500 := by
  have := tz_psz h.say
  have := h.sz
  omega
theorem good_drawn {tl : Bool} {d : PyData} {k : Nat} (h : Say tl (k + 1) d) (hz : ∀ j, psz j d ≤ 1 + 3 * k) (hk : k ≤ 9) : Good d :=
  ⟨h.tt.mono (by omega), Nat.le_trans (hz 12) (by omega)⟩
theorem repr_fit {x : Str} (h : PyData.strOk x = true) (hl : x.length ≤ 4000) : (reprText x).length ≤ sizeLine := by
  have := StrLaws.reprText_len x (fun c hc => by
    unfold PyData.strOk at h
    rw [← Array.all_toList] at h
    have := List.all_eq_true.mp h c hc
    have : c < 0x110000 := by simpa using this
    omega)
  rw [sizeLine_eq]
  omega
/-! ### the sayings of the page -/
def aD : PyData := letD "a"
def bD : PyData := letD "b"
def topD : PyData := manyD "and" []
def p1D : PyData := manyD "and" [notD aD, modD "must" "h" bD, topD]
def p2D : PyData := twoD "told" (manyD "or" [aD, manyD "or" []]) (modD "may" "h" aD)
def p3D : PyData := twoD "so" (modD "must" "h" aD) (manyD "and" [aD])
def or0D : PyData := manyD "or" []
def or1D : PyData := manyD "or" [aD]
def or3D : PyData := manyD "or" [aD, bD, aD]
def mzD : PyData := modD "must" "abcdefgh" (letD "zyxwvuts")
theorem wdA : Wd "a" := wd_by (by decide +kernel) (by decide +kernel)
theorem wdB : Wd "b" := wd_by (by decide +kernel) (by decide +kernel)
theorem wdH : Wd "h" := wd_by (by decide +kernel) (by decide +kernel)
theorem wdX : Wd "abcdefgh" := wd_by (by decide +kernel) (by decide +kernel)
theorem wdZ : Wd "zyxwvuts" := wd_by (by decide +kernel) (by decide +kernel)
theorem say_a (n : Nat) : Say true (n + 1) aD := .inl ⟨_, wdA, rfl⟩
theorem say_b (n : Nat) : Say true (n + 1) bD := .inl ⟨_, wdB, rfl⟩
theorem say_many {n : Nat} {w : Str} {ds : List PyData} (hw : w = "and" ∨ w = "or") (h : ∀ d ∈ ds, Say true n d) : Say true (n + 1) (manyD w ds) := .inr (.inr (.inl ⟨w, ds, hw, h, rfl⟩))
theorem say_two {n : Nat} {w : Str} {d e : PyData} (hw : w = "so" ∨ w = "told") (h : Say true n d) (g : Say true n e) : Say true (n + 1) (twoD w d e) := .inr (.inr (.inr (.inl ⟨w, d, e, hw.imp id fun z => ⟨z, rfl⟩, h, g, rfl⟩)))
theorem say_mod {n : Nat} {w x : Str} {d : PyData} (hw : w = "must" ∨ w = "may") (hx : Wd x) (h : Say true n d) : Say true (n + 1) (modD w x d) := .inr (.inr (.inr (.inr ⟨w, x, d, hw, hx, h, rfl⟩)))
theorem say_not {n : Nat} {d : PyData} (h : Say true n d) : Say true (n + 1) (notD d) := .inr (.inl ⟨d, h, rfl⟩)
theorem good_top : Good topD := ⟨say_many (.inl rfl) (by simp), by decide +kernel⟩
theorem good_or0 : Good or0D := ⟨say_many (.inr rfl) (by simp), by decide +kernel⟩
theorem good_or1 : Good or1D := ⟨say_many (.inr rfl) (by simp only [List.forall_mem_cons]; exact ⟨say_a _, by simp⟩), by decide +kernel⟩
theorem good_or3 : Good or3D := ⟨say_many (.inr rfl) (by simp only [List.forall_mem_cons]; exact ⟨say_a _, say_b _, say_a _, by simp⟩), by decide +kernel⟩
theorem good_mz : Good mzD := ⟨say_mod (.inl rfl) wdX (.inl ⟨_, wdZ, rfl⟩), by decide +kernel⟩
theorem good_p1 : Good p1D := ⟨say_many (.inl rfl) (by simp only [List.forall_mem_cons]; exact ⟨say_not (say_a _), say_mod (.inl rfl) wdH (say_b _), say_many (.inl rfl) (by simp), by simp⟩), by decide +kernel⟩
theorem good_p2 : Good p2D := ⟨say_two (.inr rfl) (say_many (.inr rfl) (by simp only [List.forall_mem_cons]; exact ⟨say_a _, say_many (.inr rfl) (by simp), by simp⟩)) (say_mod (.inr rfl) wdH (say_a _)), by decide +kernel⟩
theorem good_p3 : Good p3D := ⟨say_two (.inl rfl) (say_mod (.inl rfl) wdH (say_a _)) (say_many (.inl rfl) (by simp only [List.forall_mem_cons]; exact ⟨say_a _, by simp⟩)), by decide +kernel⟩
theorem page_txt : [p1D, p2D, p3D].map (txt 12) = [("(~a&[h]b&T)" : Str), ("{(a|F)}<h>a" : Str), ("([h]a>(&a))" : Str)] := by decide +kernel
abbrev sLaw : Stmt := topS 9
abbrev NL : List Str := ["_law_script", "_law_feed_here", "_law_a", "_law_b", "_law_top", "_law_page", "_law_s", "_law_some", "_law_k", "_law_kept"]
theorem scLaw : FnScope NL ["_law_script"] (defScope sLaw) := ⟨rfl, rfl, rfl, by decide +kernel, rfl, by decide +kernel, by decide +kernel⟩
def spLaw (K : PySem.W.Frag) : Sp := fun vs H Q _ => ∃ (a : Addr) (ns : List Int), vs = [.ref a] ∧ SqL K H a (ns.map V.int) ∧ ns.length ≤ 63 ∧ ∀ H', Q (.bl true) H'
/-- the facts of the defs that the law calls -/
structure Kit (P : Program) (w : World) (K : PySem.W.Frag) (mg : Str → Option Value) (base : Heap) (fF fS fX fT : Addr) (dF dS dX dT : FuncData) : Prop where
  F : FnOk P w K mg base CX0 1 fF dF ["_law_script"] (spFeed K)
  S : FnOk P w K mg base CX0 11 fS dS ["_law_feed_here", "_law_left", "_law_told"] (spSaying K 10)
  X : FnOk P w K mg base CX0 3 fX dX ["saying"] (spText K)
  T : FnOk P w K mg base CX0 13 fT dT ["_law_s"] (spLText K 12)
  bF : Binds K dF ["_law_script"] []
  bS : Binds K dS ["_law_feed_here", "_law_left", "_law_told"] []
  bX : Binds K dX ["saying"] []
  bT : Binds K dT ["_law_s"] []
  kF : PySem.W.keepIn K (.ref fF) = true
  kS : PySem.W.keepIn K (.ref fS) = true
  kX : PySem.W.keepIn K (.ref fX) = true
  kT : PySem.W.keepIn K (.ref fT) = true
  mF : mg "_law_feed" = some (.ref fF)
  mS : mg "_law_saying" = some (.ref fS)
  mX : mg "saying_text" = some (.ref fX)
  mT : mg "_law_text" = some (.ref fT)
  mr : mg "range" = none
  mp : mg "repr" = none
end Ms03

namespace Ms03
open PySem PySem.Spec PyProof.Rows L2
theorem say_word {tl : Bool} {n : Nat} {d : PyData} (h : Say tl n d) : ∃ es, d = .tuple es := by
  cases n with
  | zero => exact h.elim
  | succ n => rcases h with ⟨x, hx, rfl⟩ | ⟨a, h, rfl⟩ | ⟨w, ds, hw, h, rfl⟩ | ⟨w, a, b, hw, h, g, rfl⟩ | ⟨w, x, a, hw, hx, h, rfl⟩ <;> exact ⟨_, rfl⟩
section
variable {P : Program} {w : World} {K : PySem.W.Frag} {mg : Str → Option Value} {base : Heap} {fF fS fX fT : Addr} {dF dS dX dT : FuncData}
theorem law_body (T : Kit P w K mg base fF fS fX fT dF dS dX dT) {f : Addr} {cdv : Value} {A : Around} {outer : List Env} {s : Shared} {H : Hp} {vs : List V} {Q : VK} {E : XK} (hgd : A.guards = some [])
    (hr : Room 13 (A.deeper (envOfC "law" (defScope sLaw) s.heap.objs.size f cdv))) (h : spLaw K vs H Q E) :
    ∃ t, PSs (cxOf CX0 P w K mg base NL "law" (defScope sLaw) f cdv A outer s H E).nox (defBody sLaw) t ∧ t { nx := fun _ H' => Q .non H', rt := Q } (start NL vs) H := by
  obtain ⟨a, ns, rfl, hS, h63, q⟩ := h
  have nd := scLaw.nd
  have hr1 := hr.mono (show 1 ≤ 13 by decide)
  have hr3 := hr.mono (show 3 ≤ 13 by decide)
  have hr11 := hr.mono (show 11 ≤ 13 by decide)
  have hg : (cxOf CX0 P w K mg base NL "law" (defScope sLaw) f cdv A outer s H E).nox.A.guards = some [] := hgd
  refine ⟨_, pss_cons (ps_set (i := 1) nd rfl (.inr rfl) (pe_call T.F hr1 (by rfl) T.mF T.kF T.bF .nil pass0 (pa_cons (pv 0) pa_nil)))
    (pss_cons (ps_asg (pe_tup (pa_cons (pe_tup (pa_cons pe_str (pa_cons pe_str pa_nil))) (pa_cons (pe_tup (pa_cons pe_str (pa_cons pe_str pa_nil))) (pa_cons (pe_tup (pa_cons pe_str (pa_cons (pe_tup pa_nil) pa_nil))) pa_nil))))
      (pg_tup rfl (pgs_cons (pg_name (i := 2) nd rfl (.inl rfl)) (pgs_cons (pg_name (i := 3) nd rfl (.inl rfl)) (pgs_cons (pg_name (i := 4) nd rfl (.inl rfl)) pgs_nil)))))
    (pss_cons (ps_set (i := 5) nd rfl (.inl rfl) (pe_lst (pa_cons (pe_tup (pa_cons pe_str (pa_cons (pe_tup (pa_cons (pe_tup (pa_cons pe_str (pa_cons (pv 2) pa_nil))) (pa_cons (pe_tup (pa_cons pe_str (pa_cons pe_str (pa_cons (pv 3) pa_nil)))) (pa_cons (pv 4) pa_nil)))) pa_nil)))
        (pa_cons (pe_tup (pa_cons pe_str (pa_cons (pe_tup (pa_cons pe_str (pa_cons (pe_tup (pa_cons (pv 2) (pa_cons (pe_tup (pa_cons pe_str (pa_cons (pe_tup pa_nil) pa_nil))) pa_nil))) pa_nil))) (pa_cons (pe_tup (pa_cons pe_str (pa_cons pe_str (pa_cons (pv 2) pa_nil)))) pa_nil)))) pa_nil))))
    (pss_cons (ps_expr (pe_bm PySem.F.plainAttrs_list PySem.F.slot_list_append PySem.F.type_list_append mt_append (pv 5) (pa_cons (pe_tup (pa_cons pe_str (pa_cons (pe_tup (pa_cons pe_str (pa_cons pe_str (pa_cons (pv 2) pa_nil)))) (pa_cons (pe_tup (pa_cons pe_str (pa_cons (pe_tup (pa_cons (pv 2) pa_nil)) pa_nil))) pa_nil)))) pa_nil)))
    (pss_cons (ps_if (pt_cmpR (op_neD hr.units) (pe_lc (own := [("_law_s", 6)]) (g := gName 6) (tt := tYes) rfl nd (pi_list (pv 5))
        (blkOk_by (N := NL) (sc := defScope sLaw) (by decide +kernel)) (fun _ _ _ _ _ => pg_name (i := 6) nd rfl (Or.inl rfl)) (fun _ _ _ _ _ => pts_nil) (fun _ _ _ _ _ => pe_call T.X hr3 (by rfl) T.mX T.kX T.bX .nil pass0 (pa_cons (pv 6) pa_nil)))
        (pe_lst (pa_cons pe_str (pa_cons pe_str (pa_cons pe_str pa_nil)))) (nomark _)) (pss_one (ps_ret pe_bl)) pss_nil)
    (pss_cons (ps_set (i := 7) nd rfl (.inl rfl) (pe_op op_cat (pv 5) (pe_lst (pa_cons (pv 4) (pa_cons (pe_tup (pa_cons pe_str (pa_cons (pe_tup pa_nil) pa_nil))) (pa_cons (pe_tup (pa_cons pe_str (pa_cons (pe_tup (pa_cons (pv 2) pa_nil)) pa_nil)))
        (pa_cons (pe_tup (pa_cons pe_str (pa_cons (pe_tup (pa_cons (pv 2) (pa_cons (pv 3) (pa_cons (pv 2) pa_nil)))) pa_nil))) (pa_cons (pe_tup (pa_cons pe_str (pa_cons pe_str (pa_cons (pe_tup (pa_cons pe_str (pa_cons pe_str pa_nil))) pa_nil)))) pa_nil))))))))
    (pss_cons (ps_set (i := 7) nd rfl (.inl rfl) (pe_op op_cat (pv 7) (pe_lc (own := [("_law_k", 8)]) (g := gName 8) (tt := tYes) rfl nd (pi_range1 (by rfl) T.mr (pa_cons pe_int pa_nil))
        (blkOk_by (N := NL) (sc := defScope sLaw) (by decide +kernel)) (fun _ _ _ _ _ => pg_name (i := 8) nd rfl (Or.inl rfl)) (fun _ _ _ _ _ => pts_nil)
        (fun _ _ _ _ _ => pe_call T.S hr11 (by rfl) T.mS T.kS T.bS .nil pass0 (pa_cons (pv 1) (pa_cons (pe_lst (pa_cons pe_int pa_nil)) (pa_cons (pe_cmpR op_eq (pe_op op_mod (pv 8) pe_int) pe_int (nomark _)) pa_nil)))))))
    (pss_cons (ps_for PassesOwn.never rfl (pi_list (pv 7)) (pg_name (i := 6) nd rfl (.inl rfl))
      (pss_cons (ps_set (i := 9) nd rfl (.inl rfl) (pe_callB (call_reprA hg) (by rfl) T.mp (by decide +kernel) (pa_cons (pv 6) pa_nil)))
      (pss_one (ps_if (PW.pt (pw_or (pt_cmpR op_ne (pe_callB call_reprS (by rfl) T.mp (by decide +kernel) (pa_cons (pe_call T.X hr3 (by rfl) T.mX T.kX T.bX .nil pass0 (pa_cons (pv 6) pa_nil)) pa_nil))
          (pe_callB call_reprS (by rfl) T.mp (by decide +kernel) (pa_cons (pe_call T.T hr (by rfl) T.mT T.kT T.bT .nil pass0 (pa_cons (pv 6) pa_nil)) pa_nil)) (nomark _))
          (pw_or1 (pt_cmpR op_ne (pe_callB (call_reprA hg) (by rfl) T.mp (by decide +kernel) (pa_cons (pv 6) pa_nil)) (pv 9) (nomark _))))) (pss_one (ps_ret pe_bl)) pss_nil))))
    (pss_one (ps_ret pe_bl))))))))), ?_⟩
  -- the feed
  refine ⟨_, rfl, a, ns, rfl, hS, h63, fun H1 p c cells s1 np f1 => ?_⟩
  -- a, b, top
  dsimp only [gName, tSeq, tAsg]
  refine run_1 (K := K) (d := .tuple [aD, bD, topD]) (mk_tup (mka_cons (mk_tup (mka_cons (mk_str _) (mka_cons (mk_str _) mka_nil))) (mka_cons (mk_tup (mka_cons (mk_str _) (mka_cons (mk_str _) mka_nil))) (mka_cons (mk_tup (mka_cons (mk_str _) (mka_cons (mk_tup mka_nil) mka_nil))) mka_nil)))) (fun H2 v s2 hv => ?_)
  cases hv with
  | tup hq2 ha2 =>
  cases ha2 with
  | cons da ha2 =>
  cases ha2 with
  | cons db ha2 =>
  cases ha2 with
  | cons dt ha2 =>
  cases ha2
  rename_i tt va vb vt
  have f2 := f1.same s2
  refine ⟨tt, [va, vb, vt], rfl, hq2, rfl, _, _, rfl, _, _, rfl, _, _, rfl, rfl, ?_⟩
  -- the page
  dsimp only [gName, tSeq, tAsg]
  refine run_lst (K := K) (ds := [p1D, p2D]) (mka_cons (mk_tup (mka_cons (mk_str _) (mka_cons (mk_tup (mka_cons (mk_tup (mka_cons (mk_str _) (mka_cons (mk_var rfl da) mka_nil))) (mka_cons (mk_tup (mka_cons (mk_str _) (mka_cons (mk_str _) (mka_cons (mk_var rfl db) mka_nil)))) (mka_cons (mk_var rfl dt) mka_nil)))) mka_nil)))
    (mka_cons (mk_tup (mka_cons (mk_str _) (mka_cons (mk_tup (mka_cons (mk_str _) (mka_cons (mk_tup (mka_cons (mk_var rfl da) (mka_cons (mk_tup (mka_cons (mk_str _) (mka_cons (mk_tup mka_nil) mka_nil))) mka_nil))) mka_nil))) (mka_cons (mk_tup (mka_cons (mk_str _) (mka_cons (mk_str _) (mka_cons (mk_var rfl da) mka_nil)))) mka_nil)))) mka_nil)) (fun H3 pg us s3 npg hpg dpg => ?_)
  have pgp : pg ≠ p := by
    obtain ⟨_, _, _, hp', _⟩ := f2
    exact (ne_of_none hp' npg).symm
  have pgc : pg ≠ c := by
    obtain ⟨_, _, _, _, hc', _⟩ := f2
    exact (ne_of_none hc' npg).symm
  have f3 := f2.same s3
  -- append
  try dsimp only [gName, tSeq, tAsg]
  refine ⟨_, rfl, .inl ⟨rfl, _, SqL.of hpg⟩, ?_⟩
  refine run_a (K := K) (ds := [p3D]) (mka_cons (mk_tup (mka_cons (mk_str _) (mka_cons (mk_tup (mka_cons (mk_str _) (mka_cons (mk_str _) (mka_cons (mk_var rfl (dp_same s3 _ _ da)) mka_nil)))) (mka_cons (mk_tup (mka_cons (mk_str _) (mka_cons (mk_tup (mka_cons (mk_var rfl (dp_same s3 _ _ da)) mka_nil)) mka_nil))) mka_nil)))) mka_nil) (fun H4 vs4 s4 h4 => ?_)
  cases h4 with
  | cons d3 h4 =>
  cases h4
  rename_i v3
  have hpg4 := s4 _ _ hpg
  refine ⟨pg, us, v3, rfl, rfl, hpg4, small1000 (by rw [dpAll_len dpg]; decide), ?_⟩
  have t5 := Tp.lst hpg4 (.lst (us ++ [v3]))
  have s34 := s3.trans s4
  have da := dp_tp t5 _ _ (by decide +kernel) (dp_same s34 _ _ da)
  have db := dp_tp t5 _ _ (by decide +kernel) (dp_same s34 _ _ db)
  have dt := dp_tp t5 _ _ (by decide +kernel) (dp_same s34 _ _ dt)
  have dp3 := dpAll_tp t5 _ _ (by decide +kernel) (dpAll_add (dpAll_same s4 _ _ dpg) (.cons d3 .nil))
  have f5 := (f3.same s4).off pgp pgc (.lst (us ++ [v3]))
  have hpg5 : (upd H4 pg (.lst (us ++ [v3]))) pg = some (.lst (us ++ [v3])) := upd_same
  generalize upd H4 pg (.lst (us ++ [v3])) = H5 at da db dt dp3 f5 hpg5 ⊢
  generalize us ++ [v3] = us3 at dp3 hpg5 ⊢
  have l3 : us3.length = 3 := dpAll_len dp3
  -- the page's texts
  try dsimp only [gName, tSeq, tAsg]
  refine ⟨_, rfl, pg, rfl, ⟨_, SqL.of hpg5⟩, fun D nD => ?_⟩
  refine lc_list (K := K) (a := pg) (xs := us3) (fun j H' => H' D = some (.lst (([p1D, p2D, p3D].take j).map fun e => V.str (txt 12 e))) ∧ Same H5 H') ⟨upd_same, same_new nD _⟩ (fun j H' _ hp => same_seq hp.2 (SqL.of hpg5)) (fun j x H' hx hp => ?_) (fun H' hp => ?_)
  · obtain ⟨hl', sm⟩ := hp
    obtain ⟨e, he, hde⟩ := dpAll_get dp3 hx
    have ge : Good e := by
      have me := List.mem_of_getElem? he
      simp only [List.cons_append, List.nil_append, List.mem_cons, List.not_mem_nil, or_false] at me
      rcases me with rfl | rfl | rfl
      · exact good_p1
      · exact good_p2
      · exact good_p3
    refine ⟨rfl, ?_⟩
    dsimp only [tYes]
    rw [if_pos rfl]
    refine ⟨_, rfl, x, true, 12, e, rfl, ge.say, dp_same sm _ _ hde, ge.tz, fun H6 s6 => ⟨_, s6 _ _ hl', ?_, ?_, same_at nD (sm.trans s6) _⟩⟩
    · rw [List.length_map, List.length_take]
      exact small1000 (Nat.le_trans (Nat.min_le_right _ _) (by decide))
    · rw [upd_same, List.take_add_one, show [p1D, p2D, p3D][j]? = some e from he, List.map_append]
      rfl
  obtain ⟨hl', sm⟩ := hp
  have hl3 : H' D = some (.lst ([("(~a&[h]b&T)" : Str), ("{(a|F)}<h>a" : Str), ("([h]a>(&a))" : Str)].map V.str)) := by
    rw [hl', l3, ← page_txt, List.map_map]
    rfl
  refine ⟨zz3, fun t nt => ?_⟩
  have s6 := sm.trans (same_new nt (.lst [.str "(~a&[h]b&T)", .str "{(a|F)}<h>a", .str "([h]a>(&a))"]))
  refine ⟨.list [.str "(~a&[h]b&T)", .str "{(a|F)}<h>a", .str "([h]a>(&a))"], .list [.str "(~a&[h]b&T)", .str "{(a|F)}<h>a", .str "([h]a>(&a))"], .lst (SqL.of (same_new nt _ _ _ hl3)) (dpStrs [_, _, _]), .lst (SqL.of upd_same) (dpStrs [_, _, _]), by decide +kernel, by decide +kernel, _, rfl, ?_⟩
  refine ite2 (fun cc => absurd cc (by decide +kernel)) (fun _ => ?_)
  have da := dp_same s6 _ _ da
  have db := dp_same s6 _ _ db
  have dt := dp_same s6 _ _ dt
  have dp3 := dpAll_same s6 _ _ dp3
  have f6 := f5.same s6
  have hpg6 := s6 _ _ hpg5
  generalize upd H' t (.lst [.str "(~a&[h]b&T)", .str "{(a|F)}<h>a", .str "([h]a>(&a))"]) = H6 at da db dt dp3 f6 hpg6 ⊢
  -- some more
  try dsimp only [gName, tSeq, tAsg, tNext]
  refine ⟨_, rfl, ?_⟩
  refine run_lst (K := K) (ds := [topD, or0D, or1D, or3D, mzD]) (mka_cons (mk_var rfl dt) (mka_cons (mk_tup (mka_cons (mk_str _) (mka_cons (mk_tup mka_nil) mka_nil))) (mka_cons (mk_tup (mka_cons (mk_str _) (mka_cons (mk_tup (mka_cons (mk_var rfl da) mka_nil)) mka_nil)))
    (mka_cons (mk_tup (mka_cons (mk_str _) (mka_cons (mk_tup (mka_cons (mk_var rfl da) (mka_cons (mk_var rfl db) (mka_cons (mk_var rfl da) mka_nil)))) mka_nil))) (mka_cons (mk_tup (mka_cons (mk_str _) (mka_cons (mk_str _) (mka_cons (mk_tup (mka_cons (mk_str _) (mka_cons (mk_str _) mka_nil))) mka_nil)))) mka_nil))))) (fun H7 l2 vs2 s7 nl2 hl2 dl2 => ?_)
  refine ⟨pg, l2, _, _, rfl, rfl, s7 _ _ hpg6, hl2, ?_, fun sx nsx => ?_⟩
  · rw [l3, dpAll_len dl2]
    decide
  have s8 := s7.trans (same_new nsx (.lst (us3 ++ vs2)))
  have d8 := dpAll_same (same_new nsx (.lst (us3 ++ vs2))) _ _ (dpAll_add (dpAll_same s7 _ _ dp3) dl2)
  have f8 := f6.same s8
  have hsx : (upd H7 sx (.lst (us3 ++ vs2))) sx = some (.lst (us3 ++ vs2)) := upd_same
  have sxp : sx ≠ p := by
    obtain ⟨_, _, _, hp', _⟩ := f6.same s7
    exact (ne_of_none hp' nsx).symm
  generalize upd H7 sx (.lst (us3 ++ vs2)) = H8 at d8 f8 hsx ⊢
  generalize us3 ++ vs2 = us8 at d8 hsx ⊢
  generalize hds8 : ([p1D, p2D] ++ [p3D] ++ [topD, or0D, or1D, or3D, mzD] : List PyData) = ds8 at d8
  have g8 : ∀ d ∈ ds8, Good d := by
    rw [← hds8]
    simp only [List.cons_append, List.nil_append, List.forall_mem_cons]
    exact ⟨good_p1, good_p2, good_p3, good_top, good_or0, good_or1, good_or3, good_mz, by simp⟩
  have l8 : us8.length = 8 := by
    rw [dpAll_len d8, ← hds8]
    rfl
  -- the drawn ones
  try dsimp only [gName, tSeq, tAsg, tNext]
  refine ⟨_, rfl, 16, rfl, by decide, by decide, fun D2 nD2 => ?_⟩
  have D2p : D2 ≠ p := by
    obtain ⟨_, _, _, hp', _⟩ := f8
    exact (ne_of_none hp' nD2).symm
  have D2c : D2 ≠ c := by
    obtain ⟨_, _, _, _, hc', _⟩ := f8
    exact (ne_of_none hc' nD2).symm
  have D2x : D2 ≠ sx := (ne_of_none hsx nD2).symm
  refine lc_range (lo := 0) (n := (16 : Int).toNat) (fun i H' => ∃ (vs : List V) (ds : List PyData), H' D2 = some (.lst vs) ∧ DpAll K H' vs ds ∧ (∀ d ∈ ds, Good d) ∧ ds.length = i ∧ Fd K H' p c cells (100 * i) ∧ H' sx = some (.lst us8) ∧ DpAll K H' us8 ds8)
    ⟨[], [], upd_same, .nil, by simp, rfl, (f8.new nD2 _).mono (by omega), same_new nD2 _ _ _ hsx, dpAll_same (same_new nD2 _) _ _ d8⟩ (fun i H' hi hp => ?_) (fun H' hp => ?_)
  · obtain ⟨vs, ds, hD, hds, hgd', hln, fx, hx, hd8⟩ := hp
    have hi16 : i < 16 := hi
    have lus := dpAll_len hds
    refine ⟨rfl, ?_⟩
    dsimp only [tYes]
    rw [if_pos rfl]
    refine ⟨_, rfl, zz1, fun q' nq => ?_⟩
    have fq := fx.new nq (.lst [.int 10])
    have hq9 : (upd H' q' (.lst [.int 10])) q' = some (.lst [.int 10]) := upd_same
    have hxq' := same_new nq (.lst [.int 10]) _ _ hx
    have hDq := same_new nq (.lst [.int 10]) _ _ hD
    have hdsq := dpAll_same (same_new nq (.lst [.int 10])) _ _ hds
    have hd8q := dpAll_same (same_new nq (.lst [.int 10])) _ _ hd8
    have hqp : q' ≠ p := by
      obtain ⟨_, _, _, hp', _⟩ := fx
      exact (ne_of_none hp' nq).symm
    have hqc : q' ≠ c := by
      obtain ⟨_, _, _, _, hc', _⟩ := fx
      exact (ne_of_none hc' nq).symm
    have hqx : sx ≠ q' := ne_of_none hx nq
    have hqD : D2 ≠ q' := ne_of_none hD nq
    generalize upd H' q' (.lst [.int 10]) = Hq at fq hq9 hxq' hDq hdsq hd8q ⊢
    have hfL : Ms03.fL 10 = 9 := by decide
    refine ⟨_, rfl, (0 : Int) + (i : Int), 2, rfl, rfl, (show (0 : Int) < 2 by decide), rfl, p, c, cells, 100 * i, q', 10, _, rfl, fq, hq9, hqp, hqc, by decide, by decide, by rw [hfL]; omega, fun H6 one d L' k g6 f6 e6 hL hk hs hz hd => ?_⟩
    have gd := good_drawn hs hz (by omega)
    have hx6 := g6.ex _ _ hxq' (by simp [sxp, hqx])
    have hD6 := g6.ex _ _ hDq (by simp [D2p, hqD])
    have hds6 := dpAll_tp g6.tp ds vs (tupDs_say (tl := true) (n := 12) fun e he => (hgd' e he).say) hdsq
    have hd86 := dpAll_tp g6.tp ds8 us8 (tupDs_say (tl := true) (n := 12) fun e he => (g8 e he).say) hd8q
    have t7 := Tp.lst hD6 (.lst (vs ++ [.ref one]))
    have gall : ∀ e ∈ ds ++ [d], Good e := fun e he => by
      rcases List.mem_append.mp he with he | he
      · exact hgd' e he
      · rw [List.mem_singleton.mp he]
        exact gd
    refine ⟨vs, hD6, small1000 (by omega), vs ++ [.ref one], ds ++ [d], upd_same, dpAll_tp t7 _ _ (tupDs_say (tl := true) (n := 12) fun e he => (gall e he).say) (dpAll_add hds6 (.cons hd .nil)), gall, ?_, (f6.off D2p D2c _).mono (by omega), ?_, dpAll_tp t7 _ _ (tupDs_say (tl := true) (n := 12) fun e he => (g8 e he).say) hd86⟩
    · rw [List.length_append, hln]
      rfl
    · rw [upd_ne D2x.symm]
      exact hx6
  obtain ⟨vs, ds, hD, hds, hgd', hln, fx, hx, hd8⟩ := hp
  have lvs := dpAll_len hds
  have hln : ds.length = 16 := hln
  refine ⟨sx, D2, us8, vs, rfl, rfl, hx, hD, ?_, fun al nal => ?_⟩
  · rw [l8, lvs, hln]
    decide
  have dall := dpAll_same (same_new nal (.lst (us8 ++ vs))) _ _ (dpAll_add hd8 hds)
  have gall : ∀ d ∈ ds8 ++ ds, Good d := fun d hd => (List.mem_append.mp hd).elim (g8 d) (hgd' d)
  have hal : (upd H' al (.lst (us8 ++ vs))) al = some (.lst (us8 ++ vs)) := upd_same
  generalize upd H' al (.lst (us8 ++ vs)) = H9 at dall hal ⊢
  generalize us8 ++ vs = its at dall hal ⊢
  generalize ds8 ++ ds = dits at dall gall
  -- each of them
  try dsimp only [gName, tSeq, tAsg, tNext]
  refine ⟨_, rfl, al, rfl, ⟨_, SqL.of hal⟩, ?_⟩
  refine for_list (K := K) (a := al) (xs := its) (fun i σ' H' => (∃ y6 y8 y9 : Option V, σ' = [some (.ref a), some (.ref p), some va, some vb, some vt, some (.ref pg), y6, some (.ref al), y8, y9]) ∧ Same H9 H')
    ⟨⟨_, _, _, rfl⟩, Same.refl H9⟩ (fun i σ' H' _ hp => same_seq hp.2 (SqL.of hal)) (fun i x σ' H' hxi hp => ?_) (fun σ' H' hp => ?_)
  · obtain ⟨⟨z6, z8, z9, rfl⟩, sm⟩ := hp
    obtain ⟨d, hdi, hd9⟩ := dpAll_get dall hxi
    have gd := gall d (List.mem_of_getElem? hdi)
    have hd := dp_same sm _ _ hd9
    have nice := nice_say gd.say
    have hform : (∃ es, d = .tuple es) ∨ ∃ es, d = .list es := .inl (say_word gd.say)
    have hsz := gd.sz
    have hrl : d.shown.length ≤ sizeLine := Nat.le_trans nice.len (by rw [sizeLine_eq]; omega)
    have hun : (A.deeper (envOfC "law" (defScope sLaw) s.heap.objs.size f cdv)).units + 64 < cLine := hr.units
    have hru : (A.deeper (envOfC "law" (defScope sLaw) s.heap.objs.size f cdv)).units + (d.depth + 1) < cLine := by
      have := nice.dep
      omega
    have htl := txt_len (.inr gd.say)
    have htz := gd.tz
    have fit := repr_fit (txt_ok gd.say) (by omega)
    refine ⟨_, rfl, x, d, rfl, hd, hform, nice.sh, nice.nd, hrl, hru, _, rfl, x, true, 12, d, rfl, gd.say, hd, gd.tz, fun H2 s2 => ⟨txt 12 d, rfl, fit, _, rfl, x, true, 12, d, rfl, gd.say, Nat.le_refl _, dp_same s2 _ _ hd, gd.tz, fun H3 s3 => ⟨txt 12 d, rfl, fit, rfl, _, rfl, ?_⟩⟩⟩
    refine ite2 (fun cc => absurd cc (by simp)) (fun _ => ?_)
    have hd3 := dp_same (s2.trans s3) _ _ hd
    refine ⟨_, rfl, x, d, rfl, hd3, hform, nice.sh, nice.nd, hrl, hru, _, rfl, rfl, _, rfl, ?_⟩
    refine ite2 (fun cc => absurd cc (by simp)) (fun _ => ?_)
    exact ⟨⟨_, _, _, rfl⟩, sm.trans (s2.trans s3)⟩
  · exact q _
end
end Ms03

namespace Ms03
open PySem PySem.Spec PyProof.Rows L2
section
variable {P : Program} {w : World} {K : PySem.W.Frag} {mg : Str → Option Value} {base : Heap}
/-- a def called where it is known what runs around: its body read there -/
theorem fn_here {x qual : Str} {st : Stmt} {f : Addr} {fd : FuncData} {N ps : List Str} {k : Nat} {A : Around} {outer : List Env} {s : Shared} {H : Hp} {args : Args} {us : List Value} {vs : List V} {Q : VK} {E : XK}
    (F : Fun K x qual st f fd) (S : FnScope N ps (defScope st)) (hl : vs.length = ps.length) (room : Room (k + 1) A) (e0 : Env0 P w K mg base A outer s H) (bind : BindsTo s fd args (ps.zip us)) (rel : Vals vs us)
    (body : ∀ cdv : Value, Room k (A.deeper (envOfC qual (defScope st) s.heap.objs.size f cdv)) →
      ∃ t, PSs (cxOf CX0 P w K mg base N qual (defScope st) f cdv A outer s H E).nox (defBody st) t ∧ t { nx := fun _ H' => Q .non H', rt := Q } (start N vs) H) :
    codeAny (model P w) A (.call (.ref f) args) (CR CX0 outer P w H s Q E) s := by
  obtain ⟨oc, od, kV, doc, pm, an, cdv, ct, osl, rfl, look, code⟩ := F.ex
  have inK : K.In s.heap := e0.mod.kin.keeps fun b o e => (e0.bs b o e).1
  have noLim : s.heap.NoLimit := e0.mod.nolimit.keeps fun b o e => (e0.bs b o e).1
  have kinds : ∀ z ∈ ps.zip us, (defScope st).names.lookup z.1 = some .local ∨ ((defScope st).names.lookup z.1 = some .cell ∧ ((cellsFrom (s.heap.objs.size + 1) (defScope st).names []).lookup z.1).isSome = true) := by
    rintro ⟨m, v⟩ hz
    rcases S.par m (List.of_mem_zip hz).1 with z | z
    · exact Or.inl z
    · exact Or.inr ⟨z, PySem.W.cellsFrom_some _ _ _ (Or.inl z)⟩
  apply codeAny_call_function room.depth (inK _ _ look) rfl S.co S.gen rfl (PySem.W.codeRec_of inK code)
  apply bind
  apply wpAny_newFunctionEnv_cells S.kind kinds
  intro env he s1 y
  subst he
  constructor
  · exact noLim.keeps y.toInCall.keep
  apply codeAny_func
  obtain ⟨t, ht, hq⟩ := body cdv (room.deeper _)
  have J := inv_start (CX := CX0) (P := P) (w := w) (E := E) S room.hd e0 hl rel y
  apply wpAny_mono (ht.nox.run [] s1 (start N vs) H _ J hq)
  · intro fl s' hs
    cases fl with
    | ret u =>
      obtain ⟨v, σ', H', I, rv, z⟩ := hs
      exact ⟨v, H', I.os, I.bare, I.base, I.hok, rv, z⟩
    | next =>
      obtain ⟨σ', H', I, z⟩ := hs
      exact ⟨V.non, H', I.os, I.bare, I.base, I.hok, rfl, z⟩
    | brk => exact hs.elim fun _ h => h.elim fun _ h => h.2.elim
    | cont => exact hs.elim fun _ h => h.elim fun _ h => h.2.elim
  · intro e s' hs
    exact hs
end
/-- the law's call, from its body where nothing runs around it but the claim's caller -/
theorem call_here {P : Program} {w : World} {K : PySem.W.Frag} {mg mb : Str → Option Value} {fa a : Addr} {s1 : Shared} {vs : List Value} {ns : List Int}
    (KX : K.In s1.heap) (hns : s1.heap.Ns mainGlobals mg) (hb : s1.heap.Ns builtinsNs mb) (hbb : ∀ x : Str, x ≠ "__name__" → mb x = bootBuiltins x) (lim : s1.heap.NoLimit) (hg : s1.gens = #[])
    (ha : s1.heap.get? a = some { cls := .type "list", data := .seq vs.toArray }) (hi : IntsAre vs ns) (hl : ns.length ≤ sizeLine)
    (run : ∀ (base : Heap) (H : Hp), K.In base → base.Ns mainGlobals mg → Env0 P w K mg base callerA [] s1 H → SqL K H a (ns.map V.int) → codeAny (model P w) callerA (.call (.ref fa) ⟨[.ref a], []⟩) (CR CX0 [] P w H s1 (fun v _ => v = .bl true) (fun _ _ _ => False)) s1) :
    codeAny (model P w) callerA (.call (.ref fa) ⟨[.ref a], []⟩) (fun r s' => r = .ok (.ret (.bool true)) ∧ OldK s1.heap s'.heap ∧ s'.os = s1.os ∧ AllBare s'.gens) s1 := by
  have rv := vals_ints hi
  have lv := hi.length
  suffices main : ∃ H : Hp, Only H ∧ SqL K H a (ns.map V.int) ∧ HOk P w H s1.heap ∧ (∀ b, H b ≠ none → b = a ∧ K.lookup a = none) by
    obtain ⟨H, hO, hS, hok, hA⟩ := main
    have free : ∀ {b : Addr} {o : Obj}, s1.heap.get? b = some o → (b = a → K.lookup a = none → False) → (hidT s1.heap H).get? b = some o := by
      intro b o e no
      refine hidT_get e (Classical.byContradiction fun z => ?_)
      exact no (hA b z).1 (hA b z).2
    have nsK : ∀ {b : Addr} {m : Str → Option Value}, s1.heap.Ns b m → (hidT s1.heap H).Ns b m := by
      rintro b m ⟨o, es, ep, e, d, r⟩
      refine ⟨o, es, ep, free e fun z _ => ?_, d, r⟩
      rw [z, ha] at e
      cases e
      cases d
    have kb : K.In (hidT s1.heap H) := by
      intro b o e
      refine free (KX b o e) fun z n => ?_
      rw [z, n] at e
      cases e
    have md : Mod K mg (hidT s1.heap H) := by
      obtain ⟨mc, l1, l2⟩ := lim
      exact ⟨kb, nsK hns, ⟨mb, nsK hb, hbb⟩, ⟨mc, nsK l1, l2⟩⟩
    have none_ : ∀ b : Addr, b ∉ frs ([] : List Env) := fun b z => by cases z
    have e0 : Env0 P w K mg (hidT s1.heap H) callerA [] s1 H :=
      { frames := rfl, mod := md, bs := fun b o e => of_hidT e, bsz := Nat.le_of_eq (hidT_size _ _), funs := trivial, frf := fun b z => absurd z (none_ b), hok := hok, bare := .of_eq hg }
    apply codeAny_mono (run _ H kb (nsK hns) e0 hS)
    intro r s' h
    match r, h with
    | .error e, h => exact False.elim h
    | .ok .next, h => exact False.elim h
    | .ok .brk, h => exact False.elim h
    | .ok .cont, h => exact False.elim h
    | .ok (.ret u), h =>
      obtain ⟨v, H', os, bare, un, hok', r', z⟩ := h
      have z : v = V.bl true := z
      subst z
      cases (show u = Value.bool true from r')
      refine ⟨rfl, OldK.of_keep ?_, os, bare⟩
      intro b o e
      rcases hO b with n | ⟨ob, xs, n⟩
      · exact un.keep b o e n (none_ b) (by simp)
      · have k1 := (hok b _ n).1
        have k2 := (hok' b _ (un.frzs b ob _ n)).1
        rw [k1] at e
        cases e
        exact k2
  cases hk : K.lookup a with
  | some o =>
    have e := KX a o hk
    rw [ha] at e
    cases e
    refine ⟨fun _ => none, fun _ => Or.inl rfl, Or.inr ⟨_, vs.toArray, _, hk, rfl, rfl, rfl, ?_, by simpa using rv⟩, fun b u z => (by cases z), fun b z => absurd rfl z⟩
    rw [List.size_toArray, lv]
    exact hl
  | none =>
    refine ⟨upd (fun _ => none) a (.frz { cls := .type "list", data := .seq vs.toArray } (.lst (ns.map V.int))), fun b => ?_, Or.inl (Or.inr ⟨_, upd_same⟩), fun b u z => ?_, fun b z => ?_⟩
    · by_cases hb : b = a
      · subst hb
        exact Or.inr ⟨_, _, upd_same⟩
      · exact Or.inl (upd_ne hb)
    · by_cases hb : b = a
      · subst hb
        rw [upd_same] at z
        cases z
        refine ⟨ha, ?_, vs, _, rv, ha⟩
        rw [List.length_map]
        exact hl
      · rw [upd_ne hb] at z
        cases z
    · by_cases hb : b = a
      · exact ⟨hb, rfl⟩
      · exact absurd (upd_ne hb) z
end Ms03

namespace Ms03
open PySem PySem.Spec PyProof.Rows L2
section
variable {P : Program} {w : World} {K : PySem.W.Frag} {mg : Str → Option Value} {base : Heap}
theorem no_saying {f : Addr} {fd : FuncData} : FnOk P w K mg base CX0 (0 + 1) f fd ["_law_feed_here", "_law_left", "_law_told"] (spSaying K 0) := by
  have no : ∀ vs H Q E, ¬ spSaying K 0 vs H Q E := fun vs H Q E h => by
    obtain ⟨_, _, _, _, _, _, _, _, _, _, _, _, h1, _⟩ := h
    omega
  exact ⟨fun vs H Q E h => absurd h (no vs H Q E), fun A outer s H args us vs Q E _ _ _ _ h => absurd h (no vs H Q E)⟩
theorem no_ltext {f : Addr} {fd : FuncData} {ps : List Str} : FnOk P w K mg base CX0 (0 + 1) f fd ps (spLText K 0) := by
  have no : ∀ vs H Q E, ¬ spLText K 0 vs H Q E := fun vs H Q E h => by
    obtain ⟨_, _, n, _, _, h1, h2, _⟩ := h
    cases (show n = 0 by omega)
    exact h1.elim
  exact ⟨fun vs H Q E h => absurd h (no vs H Q E), fun A outer s H args us vs Q E _ _ _ _ h => absurd h (no vs H Q E)⟩
theorem all_saying {f g : Addr} {fd gd : FuncData} (F : Fun K "_law_saying" "_law_saying" sSaying f fd) (D : FnOk P w K mg base CX0 1 g gd ["_law_feed_here", "_law_many"] (spDraw K)) (bD : Binds K gd ["_law_feed_here", "_law_many"] []) (kD : PySem.W.keepIn K (.ref g) = true)
    (mD : mg "_law_draw" = some (.ref g)) (bG : Binds K fd ["_law_feed_here", "_law_left", "_law_told"] []) (mG : mg "_law_saying" = some (.ref f)) (mr : mg "range" = none) (mt : mg "tuple" = none) : ∀ m : Nat, FnOk P w K mg base CX0 (m + 1) f fd ["_law_feed_here", "_law_left", "_law_told"] (spSaying K m)
  | 0 => no_saying
  | m + 1 => ok_saying F D bD kD mD (all_saying F D bD kD mD bG mG mr mt m) bG mG mr mt
theorem all_ltext {f : Addr} {fd : FuncData} (F : Fun K "_law_text" "_law_text" sLText f fd) (bG : Binds K fd ["_law_s"] []) (mG : mg "_law_text" = some (.ref f)) (ml : mg "len" = none) : ∀ m : Nat, FnOk P w K mg base CX0 (m + 1) f fd ["_law_s"] (spLText K m)
  | 0 => no_ltext
  | m + 1 => ok_ltext F (all_ltext F bG mG ml m) bG mG ml
end
/-- what is known of the law's def and of those that it calls -/
def LawAt (P : Program) (w : World) (K : PySem.W.Frag) (mg : Str → Option Value) (fa : Addr) : Prop := ∃ fd : FuncData, Fun K "law" "law" sLaw fa fd ∧ (∀ (s : Shared) (u : Value), BindsTo s fd ⟨[u], []⟩ [("_law_script", u)]) ∧
  ∀ base : Heap, ∃ (fF fS fX fT : Addr) (dF dS dX dT : FuncData), Kit P w K mg base fF fS fX fT dF dS dX dT
theorem all_mk {l : PySem.W.OpenLaw} {w : World} {K : PySem.W.Frag} {h : Heap} {mg : Str → Option Value} {fa : Addr} (X : K.In h) (G : h.Ns mainGlobals mg) (hfa : mg "law" = some (.ref fa))
    {f1 f2 f3 f4 f5 f6 f7 f8 : Addr} {od1 an1 od2 an2 od3 an3 od4 an4 od5 an5 od6 an6 od7 an7 od8 an8 : Option Addr} {sl1 sl2 sl3 sl4 sl5 sl6 sl7 sl8 : Array (Option Value)} {oc1 kV1 dc1 pm1 cd1 ct1 oc2 kV2 dc2 pm2 cd2 ct2 oc3 kV3 dc3 pm3 cd3 ct3 oc4 kV4 dc4 pm4 cd4 ct4 oc5 kV5 dc5 pm5 cd5 ct5 oc6 kV6 dc6 pm6 cd6 ct6 oc7 kV7 dc7 pm7 cd7 ct7 oc8 kV8 dc8 pm8 cd8 ct8 : Value}
    (a1 : PySem.W.nsIn K mainGlobals "saying_text" = some (some (.ref f1))) (l1 : K.lookup f1 = some ⟨oc1, od1, .func (PySem.W.fnOf "saying_text" "saying_text" (defArgs sText) (defBody sText) (defScope sText) .none kV1 dc1 pm1 an1 cd1 ct1), sl1⟩) (c1 : PySem.W.codeIn K cd1 "saying_text" = true) (k1 : PySem.W.keepIn K (.ref f1) = true)
    (a2 : PySem.W.nsIn K mainGlobals "written_things" = some (some (.ref f2))) (l2 : K.lookup f2 = some ⟨oc2, od2, .func (PySem.W.fnOf "written_things" "written_things" (defArgs sThings) (defBody sThings) (defScope sThings) .none kV2 dc2 pm2 an2 cd2 ct2), sl2⟩) (c2 : PySem.W.codeIn K cd2 "written_things" = true) (k2 : PySem.W.keepIn K (.ref f2) = true)
    (a3 : PySem.W.nsIn K mainGlobals "joined_things" = some (some (.ref f3))) (l3 : K.lookup f3 = some ⟨oc3, od3, .func (PySem.W.fnOf "joined_things" "joined_things" (defArgs sJoined) (defBody sJoined) (defScope sJoined) .none kV3 dc3 pm3 an3 cd3 ct3), sl3⟩) (c3 : PySem.W.codeIn K cd3 "joined_things" = true) (k3 : PySem.W.keepIn K (.ref f3) = true)
    (a4 : PySem.W.nsIn K mainGlobals "_law_feed" = some (some (.ref f4))) (l4 : K.lookup f4 = some ⟨oc4, od4, .func (PySem.W.fnOf "_law_feed" "_law_feed" (defArgs sFeed) (defBody sFeed) (defScope sFeed) .none kV4 dc4 pm4 an4 cd4 ct4), sl4⟩) (c4 : PySem.W.codeIn K cd4 "_law_feed" = true) (k4 : PySem.W.keepIn K (.ref f4) = true)
    (a5 : PySem.W.nsIn K mainGlobals "_law_draw" = some (some (.ref f5))) (l5 : K.lookup f5 = some ⟨oc5, od5, .func (PySem.W.fnOf "_law_draw" "_law_draw" (defArgs sDraw) (defBody sDraw) (defScope sDraw) .none kV5 dc5 pm5 an5 cd5 ct5), sl5⟩) (c5 : PySem.W.codeIn K cd5 "_law_draw" = true) (k5 : PySem.W.keepIn K (.ref f5) = true)
    (a6 : PySem.W.nsIn K mainGlobals "_law_saying" = some (some (.ref f6))) (l6 : K.lookup f6 = some ⟨oc6, od6, .func (PySem.W.fnOf "_law_saying" "_law_saying" (defArgs sSaying) (defBody sSaying) (defScope sSaying) .none kV6 dc6 pm6 an6 cd6 ct6), sl6⟩) (c6 : PySem.W.codeIn K cd6 "_law_saying" = true) (k6 : PySem.W.keepIn K (.ref f6) = true)
    (a7 : PySem.W.nsIn K mainGlobals "_law_text" = some (some (.ref f7))) (l7 : K.lookup f7 = some ⟨oc7, od7, .func (PySem.W.fnOf "_law_text" "_law_text" (defArgs sLText) (defBody sLText) (defScope sLText) .none kV7 dc7 pm7 an7 cd7 ct7), sl7⟩) (c7 : PySem.W.codeIn K cd7 "_law_text" = true) (k7 : PySem.W.keepIn K (.ref f7) = true)
    (a8 : PySem.W.nsIn K mainGlobals "law" = some (some (.ref f8))) (l8 : K.lookup f8 = some ⟨oc8, od8, .func (PySem.W.fnOf "law" "law" (defArgs sLaw) (defBody sLaw) (defScope sLaw) .none kV8 dc8 pm8 an8 cd8 ct8), sl8⟩) (c8 : PySem.W.codeIn K cd8 "law" = true) (k8 : PySem.W.keepIn K (.ref f8) = true)
    (z1 : PySem.W.nsIn K mainGlobals "range" = some none) (z2 : PySem.W.nsIn K mainGlobals "repr" = some none) (z3 : PySem.W.nsIn K mainGlobals "tuple" = some none) (z4 : PySem.W.nsIn K mainGlobals "len" = some none) (z5 : PySem.W.nsIn K mainGlobals "isinstance" = some none) (z6 : PySem.W.nsIn K mainGlobals "str" = some none) : LawAt l.prog w K mg fa := by
  have e := hfa.symm.trans (PySem.W.mg_of X G a8)
  cases e
  have F1 := fun_mk (st := sText) l1 c1 k1
  have b1 := F1.binds (ps := ["saying"]) fun _ _ _ _ _ _ us hl => match us, hl with | [_], _ => rfl
  have m1 := PySem.W.mg_of X G a1
  have F2 := fun_mk (st := sThings) l2 c2 k2
  have b2 := F2.binds (ps := ["saying"]) fun _ _ _ _ _ _ us hl => match us, hl with | [_], _ => rfl
  have m2 := PySem.W.mg_of X G a2
  have F3 := fun_mk (st := sJoined) l3 c3 k3
  have b3 := F3.binds (ps := ["some", "none", "sign"]) fun _ _ _ _ _ _ us hl => match us, hl with | [_, _, _], _ => rfl
  have m3 := PySem.W.mg_of X G a3
  have F4 := fun_mk (st := sFeed) l4 c4 k4
  have b4 := F4.binds (ps := ["_law_script"]) fun _ _ _ _ _ _ us hl => match us, hl with | [_], _ => rfl
  have m4 := PySem.W.mg_of X G a4
  have F5 := fun_mk (st := sDraw) l5 c5 k5
  have b5 := F5.binds (ps := ["_law_feed_here", "_law_many"]) fun _ _ _ _ _ _ us hl => match us, hl with | [_, _], _ => rfl
  have m5 := PySem.W.mg_of X G a5
  have F6 := fun_mk (st := sSaying) l6 c6 k6
  have b6 := F6.binds (ps := ["_law_feed_here", "_law_left", "_law_told"]) fun _ _ _ _ _ _ us hl => match us, hl with | [_, _, _], _ => rfl
  have m6 := PySem.W.mg_of X G a6
  have F7 := fun_mk (st := sLText) l7 c7 k7
  have b7 := F7.binds (ps := ["_law_s"]) fun _ _ _ _ _ _ us hl => match us, hl with | [_], _ => rfl
  have m7 := PySem.W.mg_of X G a7
  have F8 := fun_mk (st := sLaw) l8 c8 k8
  have n1 := PySem.W.mg_none_of X G z1
  have n2 := PySem.W.mg_none_of X G z2
  have n3 := PySem.W.mg_none_of X G z3
  have n4 := PySem.W.mg_none_of X G z4
  have n5 := PySem.W.mg_none_of X G z5
  have n6 := PySem.W.mg_none_of X G z6
  refine ⟨_, F8, fun s u => .of_eq rfl, fun base => ?_⟩
  have D : FnOk l.prog w K mg base CX0 (0 + 1) f5 _ _ _ := ok_draw F5 n4
  have J : FnOk l.prog w K mg base CX0 (0 + 1) f3 _ _ _ := ok_joined F3 n4
  have Th : FnOk l.prog w K mg base CX0 (1 + 1) f2 _ _ _ := ok_things (k := 1) F2 J b3 k3 m3
  exact ⟨f4, f6, f1, f7, _, _, _, _, { F := ok_feed (k := 0) F4, S := all_saying F6 D b5 k5 m5 b6 m6 n1 n3 10, X := ok_text (k := 2) F1 Th b2 k2 m2 n5 n6, T := all_ltext F7 b7 m7 n4 12, bF := b4, bS := b6, bX := b1, bT := b7, kF := k4, kS := k6, kX := k1, kT := k7, mF := m4, mS := m6, mX := m1, mT := m7, mr := n1, mp := n2 }⟩
theorem walk {l : PySem.W.OpenLaw} {q : Program} {loose : List Str} {XP : (Str → Option Value) → Heap → Prop} {YP : World → Heap → Prop} {d : DefRec} {K : Params → PySem.W.Frag} (hn : l.most = some 63) (hdf : d.params.defaults = [])
    (hY : ∀ (w : World) (h : Heap), YP w h → (K w.params).In h)
    (F : ∀ (w : World) (mg : Str → Option Value) (fa : Addr) (h : Heap), (K w.params).In h → h.Ns mainGlobals mg → mg d.name = some (.ref fa) → LawAt l.prog w (K w.params) mg fa) :
    PySem.W.WalkO q loose XP YP l.row.toRowW d [] (fun f vs => PySem.call f vs) := by
  refine Att.attach_call hn hdf fun w s₀ s₁ mg mb fa o pm cd doc a vs ns G Y ho hd hcd hmg hobj hints hlen hg => ?_
  have KX := hY w _ Y
  obtain ⟨fd, FL, hb, kits⟩ := F w mg fa _ KX G.T.g hmg
  refine call_here KX G.T.g G.T.b G.T.builtins G.T.nolimit hg hobj hints (Nat.le_trans hlen (by decide)) fun base H kb nb e0 hS => ?_
  obtain ⟨fF, fS, fX, fT, dF, dS, dX, dT, kit⟩ := kits base
  exact fn_here (k := 13) (us := [.ref a]) (vs := [.ref a]) (ps := ["_law_script"]) FL scLaw rfl ⟨rfl, by decide, by decide⟩ e0 (hb s₁ (.ref a)) (.cons rfl .nil) fun cdv hr => law_body (outer := []) (Q := fun v _ => v = .bl true) (E := fun _ _ _ => False) kit rfl hr ⟨a, ns, rfl, hS, hlen, fun _ => rfl⟩
end Ms03

open PySem PySem.W PyProof.Rows
set_option maxRecDepth 100000 in
set_option maxHeartbeats 0 in
theorem PySem.Challenge.cw_mustmays_k03_texts_written_holds : PySem.Challenge.rw_mustmays_k03_texts_written.Holds := by
  w_on; o_law; k_head; (case hw => w_witness2)
  k_fill
  refine Ms03.walk (l := PySem.Challenge.rw_mustmays_k03_texts_written) rfl rfl (fun w h Y => PySem.W.kIn_of Y) ?F
  case F =>
    intro w mg fa h KX G hmg
    refine' Ms03.all_mk KX G hmg ?a1 ?l1 ?c1 ?k1 ?a2 ?l2 ?c2 ?k2 ?a3 ?l3 ?c3 ?k3 ?a4 ?l4 ?c4 ?k4 ?a5 ?l5 ?c5 ?k5 ?a6 ?l6 ?c6 ?k6 ?a7 ?l7 ?c7 ?k7 ?a8 ?l8 ?c8 ?k8 ?z1 ?z2 ?z3 ?z4 ?z5 ?z6
    (case a1 => k_is); (case l1 => k_is); (case c1 => k_is); (case k1 => k_is)
    (case a2 => k_is); (case l2 => k_is); (case c2 => k_is); (case k2 => k_is)
    (case a3 => k_is); (case l3 => k_is); (case c3 => k_is); (case k3 => k_is)
    (case a4 => k_is); (case l4 => k_is); (case c4 => k_is); (case k4 => k_is)
    (case a5 => k_is); (case l5 => k_is); (case c5 => k_is); (case k5 => k_is)
    (case a6 => k_is); (case l6 => k_is); (case c6 => k_is); (case k6 => k_is)
    (case a7 => k_is); (case l7 => k_is); (case c7 => k_is); (case k7 => k_is)
    (case a8 => k_is); (case l8 => k_is); (case c8 => k_is); (case k8 => k_is)
    (case z1 => k_is)
    (case z2 => k_is)
    (case z3 => k_is)
    (case z4 => k_is)
    (case z5 => k_is)
    (case z6 => k_is)
