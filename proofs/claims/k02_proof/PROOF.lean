import PyProof.Rows.All
import Wide.All
import OpenK.AllK
import Wide.FinOn
import HandS.ForMost
import HandS.Wide
import HandS.Flow
import HandS.Deep
import HandS.Codes
import HandS.TupAny
import PyProof.Rows.InDataRows
import KE.SortData
import KE.KDictPairs
import PyProof.ReprRoads
import PyProof.CallFns
import HandS.SetTxtIn
import KE.DatumOrd
import PyProof.AutoSeq1
import HandS.SortKw
import HandS.SortRule
import HandS.SetTxt0
import HandS.Set
import HandS.SetBool
import HandS.SetFor
import HandS.TupMul
import PySem.Challenge.RW_mustmays_k02_parts_told
set_option Elab.async false
set_option linter.all false
set_option maxRecDepth 100000
/-! rules of our own over the layer: repr of data, sorted of data, dict of a tuple of pairs -/
namespace Ms02
open PySem PySem.Spec PyProof.Rows L2
section
variable {X : Cx}
/-- repr of data that holds no dict -/
theorem call_reprD (hgd : X.A.guards = some []) : CallR X (.builtin "repr") (fun xs H Q => ∃ x d, xs = [x] ∧ Dp X.K H x d ∧ (d = .none ∨ ∃ ds, d = .tuple ds) ∧ d.showable = true ∧ d.hasDict = false ∧ d.shown.length ≤ sizeLine ∧
    X.A.units + (d.depth + 1) < cLine ∧ Q (.str d.shown) H) := by
  intro pins s σ H xs us Q I r h
  obtain ⟨x, d, rfl, hd, hform, hs, hnd, hsz, hu, q⟩ := h
  obtain ⟨u, rfl, ru⟩ := vals1 r
  rcases hform with rfl | ⟨ds, rfl⟩
  · cases hd
    cases ru
    exact PySem.P.repr_of_none ⟨.str _, H, I.tok _, ⟨_, rfl⟩, q⟩
  · obtain ⟨as, rd⟩ := Dp.reads I _ _ u hd ru
    cases hd with
    | tup hsq hall =>
      cases ru
      exact repr_of_reads' rd hs (fun z => by rw [hnd] at z; cases z) hgd hu (fun _ _ e => e) (fun h' u tk hk => ⟨.str _, H, I.kept hk, ⟨_, rfl⟩, q⟩) hsz
/-- values and what they stand for, one beside the other -/
theorem each_of {R : Value → V × PyData → Prop} : ∀ {bs : List (V × PyData)} {us : List Value}, Vals (bs.map (·.1)) us → (∀ b ∈ bs, ∀ u, RelV b.1 u → R u b) → PySem.W.EachIs R us bs
  | [], _, .nil, _ => .nil
  | b :: bs, _, .cons r t, h => .cons (h b List.mem_cons_self _ r) (each_of t fun c hc => h c (List.mem_cons_of_mem _ hc))
theorem vals_each : ∀ {bs : List (V × PyData)} {us : List Value}, PySem.W.EachIs (fun u b => RelV b.1 u) us bs → Vals (bs.map (·.1)) us
  | _, _, .nil => .nil
  | _, _, .cons r t => .cons r (vals_each t)
/-- sorted of data that are alike -/
theorem call_sortedD : CallR X (.builtin "sorted") (fun xs H Q => ∃ (a : Addr) (bs : List (V × PyData)), xs = [.ref a] ∧ SqL X.K H a (bs.map (·.1)) ∧ (∀ b ∈ bs, Dp X.K H b.1 b.2) ∧ PySem.W.AllAlike (bs.map (·.2)) ∧ PySem.W.Sortable (bs.map (·.2)) ∧
    (∀ b ∈ bs, X.A.units + 2 + b.2.depth < cLine) ∧ ∀ cs p, cs = bs.mergeSort (PySem.W.dataLe false (·.2)) → H p = none → Q (.ref p) (upd H p (.lst (cs.map (·.1))))) := by
  intro pins s σ H xs us Q I r h
  obtain ⟨a, bs, rfl, hq, hdp, hal, hso, hu, q⟩ := h
  obtain ⟨u, rfl, ru⟩ := vals1 r
  cases ru
  obtain ⟨its, rv, pl, hz⟩ := I.list hq
  have hlen := rv.length
  rw [List.length_map] at hlen hz
  refine PySem.W.sorted_data (R := fun u b => RelV b.1 u) (enc := fun b : V × PyData => b.2) pl.isList (each_of rv fun b _ u r => r) (each_of rv fun b hb u r => Dp.reads I _ _ _ (hdp b hb) r) hal hso hz hu fun out ho he => ?_
  have hlo : (bs.mergeSort (PySem.W.dataLe false (·.2))).length = bs.length := List.length_mergeSort _
  refine ⟨.ref (s.heap.objs.size + 1), _, I.laid (t' := s.toks) (fun b o e => sortedAll_old e) (Nat.le_succ _) ?_, rfl, q _ _ rfl (I.hok.fresh (Nat.le_succ _))⟩
  obtain ⟨e, hat⟩ := sortedAll_at s.heap its (List.toArray out)
  exact ⟨by rw [List.length_map, hlo]; exact hz, out, e, vals_each he, hat⟩
/-- tuple of a list: the new object is known -/
theorem call_tupleF : CallR X (.type "tuple") (fun xs H Q => ∃ (a : Addr) (ys : List V), xs = [.ref a] ∧ SqL X.K H a ys ∧ ∀ p o, o.dict = none → H p = none → Q (.ref p) (upd H p (.frz o (.tup ys)))) := by
  intro pins s σ H xs us Q I r h
  obtain ⟨p, ys, rfl, hq, q⟩ := h
  obtain ⟨u, rfl, rx⟩ := vals1 r
  cases rx
  obtain ⟨its, r', pl, hz⟩ := I.list hq
  have hlen := r'.length
  refine call_tuple_list pl.isList (fun h' kp => ?_) (by simp only [List.size_toArray] <;> omega)
  have I1 : Inv X pins σ H { s with heap := h' } := I.kept (t' := s.toks) kp
  have ob : (h'.push { cls := .type "tuple", data := .seq its.toArray }).get? h'.objs.size = some { cls := .type "tuple", data := .seq its.toArray } := Heap.get?_push_size _ rfl
  refine ⟨.ref h'.objs.size, _, I1.laid (t' := s.toks) (fun b o e => Heap.get?_push_of_some _ e) (Nat.le_refl _) ?_, rfl, q _ { cls := .type "tuple", data := .seq its.toArray } rfl (I1.hok.fresh (Nat.le_refl _))⟩
  exact ⟨ob, hz, its, r', IsTup.new _ _⟩
/-- the pairs at some addresses, as the machine has them -/
theorem two_each {pins : List (Addr × Obj)} {σ : L2.St} {H : Hp} {s : Shared} (I : Inv X pins σ H s) : ∀ {ps : List Addr} {kvs : List (Key × V)}, Paired (fun p kv => SqT X.K H p [kV kv.1, kv.2]) ps kvs →
    ∃ (two : List (Value × Value)) (prs : List (Key × Value)), KV kvs prs ∧ two.length = ps.length ∧ prs.length = ps.length ∧ ∀ (j : Nat) (k v : Value), two[j]? = some (k, v) → ∃ (b : Addr) (y : Key), ps[j]? = some b ∧ IsTup s.heap b #[k, v] ∧ prs[j]? = some (y, v) ∧ keyIs y k = true
  | _, _, .nil => ⟨[], [], .nil, rfl, rfl, fun j k v e => by simp at e⟩
  | _, _, .cons (a := p) (b := kv) h t => by
    obtain ⟨two, prs, r, hl, hl2, hp⟩ := two_each I t
    obtain ⟨its, rv, ht, _⟩ := I.tuple h
    obtain ⟨u, y, rfl, ru, ry⟩ := vals2 rv
    refine ⟨(u, y) :: two, (kv.1, y) :: prs, .cons ⟨rfl, ry⟩ r, by simp [hl], by simp [hl2], fun j k v e => ?_⟩
    cases j with
    | zero =>
      have e' := Option.some.inj e
      cases e'
      exact ⟨p, kv.1, rfl, ht, rfl, kV_is (P := X.prog) (w := X.w) ru⟩
    | succ j =>
      obtain ⟨b, z, e1, e2, e3, e4⟩ := hp j k v (by simpa using e)
      exact ⟨b, z, by simpa using e1, e2, by simpa using e3, e4⟩
/-- dict of a known tuple of pairs -/
theorem call_dictF (hcalm : X.calm = true) : CallR X (.type "dict") (fun xs H Q => ∃ (a : Addr) (o : Obj) (ps : List Addr) (kvs : List (Key × V)), xs = [.ref a] ∧ H a = some (.frz o (.tup (ps.map V.ref))) ∧ o.dict = none ∧
    Paired (fun p kv => SqT X.K H p [kV kv.1, kv.2]) ps kvs ∧ ∀ p, H p = none → Q (.ref p) (upd H p (.dK (mergeK [] kvs)))) := by
  intro pins s σ H xs us Q I r q
  obtain ⟨a, o, ps, kvs, rfl, ha, hod, hp, q⟩ := q
  obtain ⟨u, rfl, rx⟩ := vals1 r
  cases rx
  obtain ⟨ho, hz, its, rv, o', ho', hc, n, hdat⟩ := I.hok _ _ ha
  obtain rfl : o = o' := Option.some.inj (ho.symm.trans ho')
  have ei := refs_at rv
  subst ei
  rw [List.length_map] at hz
  obtain ⟨two, prs, rel, hl, hl2, hpr⟩ := two_each I hp
  have hm : (s.heap.objs.size == sysModules) = false := beq_eq_false_iff_ne.mpr (Nat.ne_of_gt I.big)
  refine call_dict_pairs (knd := mixKind X.prog X.w) (kvs := prs) (PairArg.tuple a (ps.map Value.ref).toArray (fun j => ps.getD j 0) two) (I.ok.hd hcalm) ⟨⟨o, n, ho, hc, hod, hdat⟩, ?_, fun j k v e => ?_⟩ ⟨by rw [hl2, hl], fun i key v e => ?_⟩ (by rw [hl]; exact hz) fun h' tk hd' k => ?_
  · simp [hl]
  · obtain ⟨b, y, e1, e2, _⟩ := hpr j k v e
    have eb : ps.getD j 0 = b := by rw [List.getD_eq_getElem?_getD, e1] <;> rfl
    refine ⟨?_, .inl ?_⟩
    · show (ps.map Value.ref).toArray[j]? = some (Value.ref (ps.getD j 0))
      rw [eb]
      simp [e1]
    · show s.heap.IsTuple (ps.getD j 0) #[k, v]
      rw [eb]
      exact e2
  · obtain ⟨b, y, e1, e2, e3, e4⟩ := hpr i key v e
    exact ⟨y, e3, e4⟩
  · have hlen : (mergeK [] kvs).length ≤ sizeLine := by
      refine Nat.le_trans (length_mergeK kvs []) ?_
      rw [List.length_nil, Nat.zero_add, rel.length, hl2]
      exact hz
    exact ⟨.ref s.heap.objs.size, upd H s.heap.objs.size (.dK (mergeK [] kvs)), I.laid (t' := tk) (fun b o e => k b o (by simp) e) (Nat.le_refl _) (show ObjOk X.prog X.w _ _ _ (.dK (mergeK [] kvs)) from ⟨hlen, hm, merged [] prs, KV.merge rel .nil, hd'⟩), rfl, q _ (I.hok.fresh (Nat.le_refl _))⟩
end
end Ms02

namespace Ms02
open PySem PySem.Spec PyProof.Rows L2
/-! ### heaps: all stays but what stands in S; tuples stay -/
def Tp (H H' : Hp) : Prop := ∀ b o, H b = some o → ((∃ xs, o = .tup xs) ∨ ∃ ob u, o = .frz ob u) → H' b = some o
theorem Tp.refl (H : Hp) : Tp H H := fun _ _ h _ => h
theorem Tp.trans {H H1 H2 : Hp} (a : Tp H H1) (b : Tp H1 H2) : Tp H H2 := fun c o h k => b c o (a c o h k) k
theorem Tp.same {H H' : Hp} (h : Same H H') : Tp H H' := fun b o q _ => h b o q
theorem Tp.lst {H : Hp} {p : Addr} {xs : List V} (h : H p = some (.lst xs)) (o : HO) : Tp H (upd H p o) := fun b u q k => by
  by_cases e : b = p
  · subst e
    rw [h] at q
    cases q
    rcases k with ⟨_, e⟩ | ⟨_, _, e⟩ <;> cases e
  · rw [upd_ne e]
    exact q
theorem Tp.tup {K : PySem.W.Frag} {H H' : Hp} {a : Addr} {xs : List V} (e : Tp H H') (h : SqT K H a xs) : SqT K H' a xs := by
  rcases h with (h | ⟨o, h⟩) | h
  · exact .inl (.inl (e _ _ h (.inl ⟨_, rfl⟩)))
  · exact .inl (.inr ⟨o, e _ _ h (.inr ⟨_, _, rfl⟩)⟩)
  · exact .inr h
theorem same_new {H : Hp} {q : Addr} (hq : H q = none) (o : HO) : Same H (upd H q o) := fun b u e => by rw [upd_ne (ne_of_none e hq)]; exact e
structure Go (S : List Addr) (H H' : Hp) : Prop where
  ex : ∀ b o, H b = some o → b ∉ S → H' b = some o
  tp : Tp H H'
section
variable {S : List Addr} {H H' H'' : Hp} {p : Addr}
theorem Go.same (h : Same H H') : Go S H H' := ⟨fun b o q _ => h b o q, .same h⟩
theorem Go.refl : Go S H H := .same (Same.refl H)
theorem Go.trans (a : Go S H H') (b : Go S H' H'') : Go S H H'' := ⟨fun c o h n => b.ex c o (a.ex c o h n) n, a.tp.trans b.tp⟩
theorem Go.new (h : H p = none) (o : HO) : Go S H (upd H p o) := .same (same_new h o)
theorem Go.mono {T : List Addr} (a : Go S H H') (h : ∀ b ∈ S, b ∈ T) : Go T H H' := ⟨fun c o q n => a.ex c o q fun z => n (h c z), a.tp⟩
theorem Go.put {xs : List V} (hp : p ∈ S) (h : H p = some (.lst xs)) (o : HO) : Go S H (upd H p o) := ⟨fun b u q n => by
  rw [upd_ne fun z => n (by rw [z]; exact hp)]
  exact q, .lst h o⟩
/-- a thing that wasn't there at first is written -/
theorem Go.at {H0 : Hp} (hD : H0 p = none) (s : Go S H0 H) (o : HO) : Go S H0 (upd H p o) := ⟨fun b u e n => by
  rw [upd_ne (ne_of_none e hD)]
  exact s.ex b u e n, fun b u e k => by
  rw [upd_ne (ne_of_none e hD)]
  exact s.tp b u e k⟩
end
/-! ### data of tuples alone -/
mutual
def tupD : PyData → Bool
  | .list _ | .dict _ => false
  | .tuple ds => tupDs ds
  | _ => true
def tupDs : List PyData → Bool
  | [] => true
  | d :: ds => tupD d && tupDs ds
end
mutual
theorem dp_tp {K : PySem.W.Frag} {H H' : Hp} (e : Tp H H') : ∀ (d : PyData) (v : V), tupD d = true → Dp K H v d → Dp K H' v d
  | .none, _, _, h => by cases h; exact .non
  | .bool b, _, _, h => by cases h; exact .bl b
  | .int i, _, _, h => by cases h; exact .int i
  | .str x, _, _, h => by cases h; exact .str x
  | .list ds, _, t, _ => by simp [tupD] at t
  | .tuple ds, _, t, h => by
    cases h with
    | tup hs ha => exact .tup (e.tup hs) (dpAll_tp e ds _ (by simpa [tupD] using t) ha)
  | .dict _, _, _, h => by cases h
theorem dpAll_tp {K : PySem.W.Frag} {H H' : Hp} (e : Tp H H') : ∀ (ds : List PyData) (vs : List V), tupDs ds = true → DpAll K H vs ds → DpAll K H' vs ds
  | [], _, _, h => by cases h; exact .nil
  | d :: ds, _, t, h => by
    simp only [tupDs, Bool.and_eq_true] at t
    cases h with
    | cons h1 h2 => exact .cons (dp_tp e d _ t.1 h1) (dpAll_tp e ds _ t.2 h2)
end
section
variable {K : PySem.W.Frag} {H : Hp} {p : Addr}
theorem same_seq {H' : Hp} {a : Addr} {xs : List V} (e : Same H H') (h : SqL K H a xs) : SqL K H' a xs := e.seq h
mutual
theorem dp_same {H' : Hp} (e : Same H H') : ∀ (d : PyData) (v : V), Dp K H v d → Dp K H' v d
  | .none, _, h => by cases h; exact .non
  | .bool b, _, h => by cases h; exact .bl b
  | .int i, _, h => by cases h; exact .int i
  | .str x, _, h => by cases h; exact .str x
  | .list ds, _, h => by
    cases h with
    | lst hs ha => exact .lst (e.seq hs) (dpAll_same e ds _ ha)
  | .tuple ds, _, h => by
    cases h with
    | tup hs ha => exact .tup ((Tp.same e).tup hs) (dpAll_same e ds _ ha)
  | .dict _, _, h => by cases h
theorem dpAll_same {H' : Hp} (e : Same H H') : ∀ (ds : List PyData) (vs : List V), DpAll K H vs ds → DpAll K H' vs ds
  | [], _, h => by cases h; exact .nil
  | d :: ds, _, h => by
    cases h with
    | cons h1 h2 => exact .cons (dp_same e d _ h1) (dpAll_same e ds _ h2)
end
theorem up {o : HO} {v : V} {d : PyData} (n : H p = none) (h : Dp K H v d) : Dp K (upd H p o) v d := dp_same (same_new n o) _ _ h
theorem new0 (n : H p = none) : Dp K (upd H p (.tup [])) (.ref p) (.tuple []) := .tup (.inl (.inl upd_same)) .nil
theorem new1 {x : V} {a : PyData} (n : H p = none) (hx : Dp K H x a) : Dp K (upd H p (.tup [x])) (.ref p) (.tuple [a]) := .tup (.inl (.inl upd_same)) (.cons (up n hx) .nil)
theorem new2 {x y : V} {a b : PyData} (n : H p = none) (hx : Dp K H x a) (hy : Dp K H y b) : Dp K (upd H p (.tup [x, y])) (.ref p) (.tuple [a, b]) := .tup (.inl (.inl upd_same)) (.cons (up n hx) (.cons (up n hy) .nil))
theorem new3 {x y z : V} {a b c : PyData} (n : H p = none) (hx : Dp K H x a) (hy : Dp K H y b) (hz : Dp K H z c) : Dp K (upd H p (.tup [x, y, z])) (.ref p) (.tuple [a, b, c]) := .tup (.inl (.inl upd_same)) (.cons (up n hx) (.cons (up n hy) (.cons (up n hz) .nil)))
end
theorem zz0 : (0 : Nat) ≤ sizeLine := Nat.zero_le _
theorem zz1 : (1 : Nat) ≤ sizeLine := by decide
theorem zz2 : (2 : Nat) ≤ sizeLine := by decide
theorem zz3 : (3 : Nat) ≤ sizeLine := by decide
theorem zz4 : (4 : Nat) ≤ sizeLine := by decide
theorem zz5 : (5 : Nat) ≤ sizeLine := by decide
/-! ### lists of ints -/
theorem canInts : ∀ ns : List Int, PyData.canLayAll0 (ns.map .int) = true
  | [] => by simp [PyData.canLayAll0]
  | n :: ns => by simp [PyData.canLayAll0, PyData.canLay0, canInts ns]
theorem shInts (ns : List Int) : SeqAt.shaped (.list (ns.map .int)) = true := by
  have h := PySem.W.depth_ints ns
  simp [SeqAt.shaped, PyData.canLay0, canInts ns, PyData.depth, h]
theorem dpInts {K : PySem.W.Frag} {H : Hp} : ∀ ns : List Int, DpAll K H (ns.map V.int) (ns.map .int)
  | [] => .nil
  | n :: ns => .cons (.int n) (dpInts ns)
theorem eqvE : ∀ ds : List PyData, PyData.eqv (.list ds) (.list []) = ds.isEmpty
  | [] => by simp [PyData.eqv, PyData.eqvAll]
  | d :: ds => by simp [PyData.eqv, PyData.eqvAll]
theorem cut_ints (ns : List Int) (lo hi : Option Int) : ∃ ms : List Int, cutV (ns.map V.int) lo hi = ms.map V.int ∧ ms.length ≤ ns.length :=
  ⟨(ns.drop (HT.sIx (ns.map V.int).length 0 lo)).take (HT.sIx (ns.map V.int).length (ns.map V.int).length hi - HT.sIx (ns.map V.int).length 0 lo), by simp only [cutV, List.map_take, List.map_drop], by
    rw [List.length_take, List.length_drop]
    omega⟩
/-! ### picks -/
theorem pick {xs : List V} {i : Int} (h0 : 0 ≤ i) (h1 : i < xs.length) : ∃ z, atI xs i = some z ∧ z ∈ xs := by
  have hj : i.toNat < xs.length := by omega
  exact ⟨xs[i.toNat], at_of (j := i.toNat) (by omega) (List.getElem?_eq_getElem hj), List.getElem_mem hj⟩
theorem set_at {k : Int} {n : Nat} (h0 : 0 ≤ k) (h1 : k < n) : ixN n k = some k.toNat := by unfold ixN; rw [if_pos h0, if_pos h1]
/-! ### a reading cut in two -/
def tCe (t : TE) : TE := fun σ H Q => ∃ M : VK, t σ H M ∧ ∀ v H', M v H' → Q v H'
theorem pe_cut {X : Cx} {e : Expr} {t : TE} (h : PE X e t) : PE X e (tCe t) := ⟨fun pins s σ H Q I ⟨M, m, k⟩ => thn (h.run pins s σ H M I m) fun _ _ ⟨x, H1, I1, r1, q1⟩ => ⟨x, H1, I1, r1, k x H1 q1⟩⟩
/-! ### the feed: a list of the cells, the next one, what is left, how many draws -/
def fdL (c : Addr) (nx lf dr : Int) : List V := [.ref c, .int nx, .int lf, .int dr]
/-- the feed stands at p, its cells at c (another list), no more than n draws were made -/
def Fd (K : PySem.W.Frag) (H : Hp) (p c : Addr) (cells : List Int) (n : Int) : Prop := ∃ nx lf dr : Int, H p = some (.lst (fdL c nx lf dr)) ∧ H c = some (.lst (cells.map V.int)) ∧ c ≠ p ∧ cells.length ≤ 63 ∧ 0 ≤ nx ∧ nx ≤ n ∧ 0 ≤ lf ∧ 0 ≤ dr ∧ dr ≤ n
section
variable {K : PySem.W.Frag} {H H' : Hp} {p c : Addr} {cells : List Int} {n m : Int}
theorem Fd.mono (h : Fd K H p c cells n) (e : n ≤ m) : Fd K H p c cells m := by
  obtain ⟨nx, lf, dr, h1, h2, h0, h3, h4, h4', h5, h6, h7⟩ := h
  exact ⟨nx, lf, dr, h1, h2, h0, h3, h4, by omega, h5, h6, by omega⟩
theorem Fd.same (h : Fd K H p c cells n) (e : Same H H') : Fd K H' p c cells n := by
  obtain ⟨nx, lf, dr, h1, h2, h3⟩ := h
  exact ⟨nx, lf, dr, e _ _ h1, e _ _ h2, h3⟩
theorem Fd.new {q : Addr} (h : Fd K H p c cells n) (hq : H q = none) (o : HO) : Fd K (upd H q o) p c cells n := h.same (same_new hq o)
/-- another thing is written -/
theorem Fd.off {D : Addr} (h : Fd K H p c cells n) (hp : D ≠ p) (hc : D ≠ c) (o : HO) : Fd K (upd H D o) p c cells n := by
  obtain ⟨nx, lf, dr, h1, h2, h3⟩ := h
  exact ⟨nx, lf, dr, by rw [upd_ne hp.symm]; exact h1, by rw [upd_ne hc.symm]; exact h2, h3⟩
/-- a thing that wasn't there at first is written -/
theorem Fd.put {H0 : Hp} {D : Addr} {n0 : Int} (h0 : Fd K H0 p c cells n0) (hD : H0 D = none) (h : Fd K H p c cells n) (o : HO) : Fd K (upd H D o) p c cells n := by
  obtain ⟨_, _, _, g1, g2, _⟩ := h0
  have hp : D ≠ p := (ne_of_none g1 hD).symm
  exact h.off hp (ne_of_none g2 hD).symm o
end
/-- what a draw promises -/
def spDraw (K : PySem.W.Frag) : Sp := fun vs H Q _ => ∃ (p c : Addr) (cells : List Int) (sz n : Int), vs = [.ref p, .int sz] ∧ Fd K H p c cells n ∧ 0 < sz ∧ sz ≤ 1000 ∧ n ≤ 1000000000 ∧ ∀ H' i, Go [p] H H' → Fd K H' p c cells (n + 1) → 0 ≤ i → i < sz → Q (.int i) H'
def spFeed (K : PySem.W.Frag) : Sp := fun vs H Q _ => ∃ (a : Addr) (ns : List Int), vs = [.ref a] ∧ SqL K H a (ns.map V.int) ∧ ns.length ≤ 63 ∧ ∀ H' p c cells, Same H H' → H p = none → Fd K H' p c cells 0 → Q (.ref p) H'
end Ms02

namespace Ms02
open PySem PySem.Spec PyProof.Rows L2
def topS (i : Nat) : Stmt := PySem.Challenge.pw_mustmays_k02_parts_told.main.body.getD i (.Pass ⟨0, 0, 0, 0⟩)
abbrev sFeed : Stmt := topS 9
abbrev sDraw : Stmt := topS 10
abbrev sSaying : Stmt := topS 11
theorem scFeed : FnScope ["_law_script"] ["_law_script"] (defScope sFeed) := ⟨rfl, rfl, rfl, by decide +kernel, rfl, by decide +kernel, by decide +kernel⟩
theorem scDraw : FnScope ["_law_feed_here", "_law_many", "_law_found", "_law_cell", "_law_mixed"] ["_law_feed_here", "_law_many"] (defScope sDraw) := ⟨rfl, rfl, rfl, by decide +kernel, rfl, by decide +kernel, by decide +kernel⟩
section
variable {P : Program} {w : World} {K : PySem.W.Frag} {mg : Str → Option Value} {base : Heap}
theorem ok_feed {f : Addr} {fd : FuncData} {k : Nat} (F : Fun K "_law_feed" "_law_feed" sFeed f fd) : FnOk P w K mg base CX0 (k + 1) f fd ["_law_script"] (spFeed K) := by
  refine F.ok scFeed (fun vs H Q E h => ?_) (fun cdv A outer s H vs Q E hr h => ?_)
  · obtain ⟨a, ns, rfl, _⟩ := h
    rfl
  obtain ⟨a, ns, rfl, hS, h63, q⟩ := h
  refine ⟨_, pss_one (ps_ret (pe_lst (pa_cons (pe_slice sl_list (pv 0) po_none (po_some pe_int)) (pa_cons pe_int (pa_cons pe_int (pa_cons pe_int pa_nil)))))), ?_⟩
  refine ⟨_, rfl, 63, rfl, a, _, rfl, hS, fun l hl => ⟨zz4, fun p hp => ?_⟩⟩
  obtain ⟨ms, em, hm⟩ := cut_ints ns none (some 63)
  rw [em] at hp ⊢
  have s2 := same_new hl (.lst (ms.map V.int))
  have np : H p = none := s2.free hp
  have lp : l ≠ p := ne_of_none upd_same hp
  refine q _ p l ms (s2.trans (same_new hp _)) np ⟨0, 0, 0, upd_same, (by rw [upd_ne lp]; exact upd_same), lp, by omega, by omega, by omega, by omega, by omega, by omega⟩
theorem ok_draw {f : Addr} {fd : FuncData} {k : Nat} (F : Fun K "_law_draw" "_law_draw" sDraw f fd) (ml : mg "len" = none) : FnOk P w K mg base CX0 (k + 1) f fd ["_law_feed_here", "_law_many"] (spDraw K) := by
  refine F.ok scDraw (fun vs H Q E h => ?_) (fun cdv A outer s H vs Q E hr h => ?_)
  · obtain ⟨p, c, cells, sz, n, rfl, _⟩ := h
    rfl
  obtain ⟨p, c, cells, sz, n, rfl, hF, hs0, hs1, hn, q⟩ := h
  have nd := scDraw.nd
  refine ⟨_, pss_cons (ps_asg (pe_op op_add (pe_ix ix_list (pv 0) pe_int (fun _ _ => rfl)) pe_int) (pg_sub (pv 0) pe_int set_list))
    (pss_cons (ps_if (pt_cmpR op_gt (pe_ix ix_list (pv 0) pe_int (fun _ _ => rfl)) pe_int (nomark _))
      (pss_cons (ps_set (i := 2) nd rfl (.inl rfl) (pe_op op_mod (pe_ix ix_list (pv 0) pe_int (fun _ _ => rfl)) (pv 1)))
      (pss_cons (ps_asg (pe_op op_fdivW (pe_ix ix_list (pv 0) pe_int (fun _ _ => rfl)) (pv 1)) (pg_sub (pv 0) pe_int set_list))
      (pss_one (ps_ret (pv 2))))) pss_nil)
    (pss_cons (ps_set (i := 3) nd rfl (.inl rfl) pe_int)
    (C8.pss_cut (ps_if (pt_cmpR (op_neD hr.units) (pe_ix ix_list (pv 0) pe_int (fun _ _ => rfl)) (pe_lst pa_nil) (nomark _))
      (pss_one (ps_set (i := 3) nd rfl (.inl rfl) (pe_ix ix_list (pe_ix ix_list (pv 0) pe_int (fun _ _ => rfl)) (pe_op op_mod (pe_ix ix_list (pv 0) pe_int (fun _ _ => rfl)) (pe_callB call_len_seq (by rfl) ml PySem.boot_len (pa_cons (pe_ix ix_list (pv 0) pe_int (fun _ _ => rfl)) pa_nil))) (fun _ _ => rfl)))) pss_nil)
    (pss_cons (ps_asg (pe_op op_add (pe_ix ix_list (pv 0) pe_int (fun _ _ => rfl)) pe_int) (pg_sub (pv 0) pe_int set_list))
    (C8.pss_cut (ps_if (PW.pt (pw_and (pt_cmpR op_ge (pv 3) (pe_op op_pow pe_int pe_int) (nomark _)) (pw_and1 (pt_cmpR op_le (pe_ix ix_list (pv 0) pe_int (fun _ _ => rfl)) (pe_callB call_len_seq (by rfl) ml PySem.boot_len (pa_cons (pe_ix ix_list (pv 0) pe_int (fun _ _ => rfl)) pa_nil)) (nomark _)))))
      (pss_cons (ps_asg (pe_op op_fdivW (pv 3) (pv 1)) (pg_sub (pv 0) pe_int set_list))
      (pss_one (ps_ret (pe_op op_mod (pv 3) (pv 1))))) pss_nil)
    (pss_cons (ps_set (i := 4) nd rfl (.inl rfl) (pe_op op_mod (pe_op op_pow (pe_op op_add (pe_op op_add (pe_op op_mod (pv 3) pe_int) (pe_op op_mul pe_int (pe_ix ix_list (pv 0) pe_int (fun _ _ => rfl)))) pe_int) pe_int) pe_int))
    (pss_one (ps_ret (pe_op op_mod (pe_op op_fdiv (pe_op op_mod (pe_op op_pow (pe_op op_add (pv 4) (pe_op op_mul pe_int (pe_ix ix_list (pv 0) pe_int (fun _ _ => rfl)))) pe_int) pe_int) pe_int) (pv 1)))))))))), ?_⟩
  obtain ⟨nx, lf, dr, h1, h2, h0, h3, h4, h4', h5, h6, h7⟩ := hF
  have wd : ∀ i : Int, CDivW i sz := fun i => wide_div (b := 10) hs0 (by omega) (by decide) (by decide)
  -- feed[3] = feed[3] + 1
  refine ⟨_, rfl, p, _, 3, _, rfl, rfl, .inl (.inl h1), rfl, dr, 1, rfl, rfl, _, rfl, p, _, 3, 3, rfl, rfl, h1, rfl, ?_⟩
  have ch : ∀ {H' : Hp}, Go [p] H H' → H' c = some (.lst (cells.map V.int)) := fun {H'} g => g.ex _ _ h2 (by simpa using h0)
  have cc : ∀ {H' : Hp}, Go [p] H H' → SqL K H' c (cells.map V.int) := fun {H'} g => SqL.of (ch g)
  have g1 : Go [p] H (upd H p (.lst ((fdL c nx lf dr).set 3 (.int (dr + 1))))) := Go.put List.mem_cons_self h1 _
  have e1 : (upd H p (.lst ((fdL c nx lf dr).set 3 (.int (dr + 1))))) p = some (.lst (fdL c nx lf (dr + 1))) := upd_same
  generalize upd H p (.lst ((fdL c nx lf dr).set 3 (.int (dr + 1)))) = H1 at g1 e1
  -- if feed[2] > 0
  refine ⟨_, rfl, p, _, 2, _, rfl, rfl, .inl (.inl e1), rfl, lf, 0, rfl, rfl, _, rfl, ite2 (fun c0 => ?_) (fun c0 => ?_)⟩
  · refine ⟨_, rfl, p, _, 2, _, rfl, rfl, .inl (.inl e1), rfl, _, rfl, lf, sz, rfl, rfl, hs0, ?_⟩
    refine ⟨_, rfl, p, _, 2, _, rfl, rfl, .inl (.inl e1), rfl, _, rfl, lf, sz, rfl, rfl, wd lf, _, rfl, p, _, 2, 2, rfl, rfl, e1, rfl, ?_⟩
    have g2 := g1.trans (Go.put List.mem_cons_self e1 (.lst ((fdL c nx lf (dr + 1)).set 2 (.int (lf / sz)))))
    exact ⟨_, rfl, q _ _ g2 ⟨nx, lf / sz, dr + 1, upd_same, ch g2, h0, h3, h4, by omega, Int.ediv_nonneg h5 (by omega), by omega, by omega⟩ (Int.emod_nonneg _ (by omega)) (Int.emod_lt_of_pos _ hs0)⟩
  -- cell = 5; if feed[0] != []
  refine ⟨fun σ' H' => ∃ g : Int, σ' = [some (.ref p), some (.int sz), none, some (.int g), none] ∧ Same H1 H', ?_, ?_⟩
  · refine ⟨_, rfl, p, _, 0, _, rfl, rfl, .inl (.inl e1), rfl, zz0, fun r hr' => ?_⟩
    have sm := same_new hr' (.lst [])
    refine ⟨.list (cells.map .int), .list [], .lst (sm.seq (cc g1)) (dpInts cells), .lst (.inl (.inl upd_same)) .nil, shInts cells, by decide, _, rfl, ?_⟩
    rw [eqvE]
    cases cells with
    | nil => exact iteF ⟨5, rfl, sm⟩
    | cons x r =>
      have e3 := sm _ _ e1
      refine iteT ⟨_, rfl, p, _, 0, _, rfl, rfl, .inl (.inl e3), rfl, _, rfl, p, _, 1, _, rfl, rfl, .inl (.inl e3), rfl, _, rfl, p, _, 0, _, rfl, rfl, .inl (.inl e3), rfl, c, _, rfl, .inl (sm.seq (cc g1)), nx, _, rfl, rfl, ?_, ?_⟩
      · rw [List.length_map, List.length_cons]
        omega
      · have hpos : (0 : Int) < (((x :: r).map V.int).length : Nat) := by
          rw [List.length_map, List.length_cons]
          omega
        have a0 := Int.emod_nonneg nx (Int.ne_of_gt hpos)
        have a1 := Int.emod_lt_of_pos nx hpos
        obtain ⟨z, hz, mz⟩ := pick a0 a1
        obtain ⟨g, _, rfl⟩ := List.mem_map.mp mz
        exact ⟨c, _, _, _, rfl, rfl, sm.seq (cc g1), hz, _, rfl, sm⟩
  rintro σ' H2 ⟨g, rfl, sm⟩
  have e2 := sm _ _ e1
  have s2 : Go [p] H H2 := g1.trans (.same sm)
  -- feed[1] = feed[1] + 1
  refine ⟨_, rfl, p, _, 1, _, rfl, rfl, .inl (.inl e2), rfl, nx, 1, rfl, rfl, _, rfl, p, _, 1, 1, rfl, rfl, e2, rfl, ?_⟩
  have s3 := s2.trans (Go.put List.mem_cons_self e2 (.lst ((fdL c nx lf (dr + 1)).set 1 (.int (nx + 1)))))
  have e3 : (upd H2 p (.lst ((fdL c nx lf (dr + 1)).set 1 (.int (nx + 1))))) p = some (.lst (fdL c (nx + 1) lf (dr + 1))) := upd_same
  generalize upd H2 p (.lst ((fdL c nx lf (dr + 1)).set 1 (.int (nx + 1)))) = H3 at s3 e3
  have f3 : Fd K H3 p c cells (n + 1) := ⟨nx + 1, lf, dr + 1, e3, ch s3, h0, h3, by omega, by omega, h5, by omega, by omega⟩
  -- if cell >= 10 ** 18 and ..
  refine ⟨fun σ' H' => σ' = [some (.ref p), some (.int sz), none, some (.int g), none] ∧ H' = H3, ?_, ?_⟩
  · refine ⟨_, rfl, 10, 18, rfl, rfl, ⟨by decide, by decide, by decide⟩, g, _, rfl, rfl, _, rfl, ite2 (fun ca => ?_) (fun ca => iteF ⟨rfl, rfl⟩)⟩
    have hg : (10 : Int) ^ 18 ≤ g := of_decide_eq_true ca
    refine ⟨_, rfl, p, _, 1, _, rfl, rfl, .inl (.inl e3), rfl, _, rfl, p, _, 0, _, rfl, rfl, .inl (.inl e3), rfl, c, _, rfl, .inl (cc s3), _, _, rfl, rfl, _, rfl, ite2 (fun cb => ?_) (fun cb => ⟨rfl, rfl⟩)⟩
    refine ⟨_, rfl, _, rfl, g, sz, rfl, rfl, wd g, _, rfl, p, _, 2, 2, rfl, rfl, e3, rfl, ?_⟩
    have s4 := s3.trans (Go.put List.mem_cons_self e3 (.lst ((fdL c (nx + 1) lf (dr + 1)).set 2 (.int (g / sz)))))
    refine ⟨_, rfl, _, rfl, g, sz, rfl, rfl, hs0, ?_⟩
    exact q _ _ s4 ⟨nx + 1, g / sz, dr + 1, upd_same, ch s4, h0, h3, by omega, by omega, Int.ediv_nonneg (by omega) (by omega), by omega, by omega⟩ (Int.emod_nonneg _ (by omega)) (Int.emod_lt_of_pos _ hs0)
  rintro σ' H4 ⟨rfl, rfl⟩
  have b0 := Int.emod_nonneg g (show (2147483629 : Int) ≠ 0 by decide)
  have b1 := Int.emod_lt_of_pos g (show (0 : Int) < 2147483629 by decide)
  refine ⟨_, rfl, g, 2147483629, rfl, rfl, (show (0 : Int) < 2147483629 by decide), _, rfl, p, _, 3, _, rfl, rfl, .inl (.inl e3), rfl, 7919, dr + 1, rfl, rfl, .inl ⟨by decide, by decide⟩, _, _, rfl, rfl, _, _, rfl, rfl, _, _, rfl, rfl, ⟨by decide, by decide, ?_⟩, _, _, rfl, rfl, (show (0 : Int) < 2147483647 by decide), ?_⟩
  · omega
  generalize (g % 2147483629 + 7919 * (dr + 1) + 1) ^ (5 : Int).toNat = y
  have d0 := Int.emod_nonneg y (show (2147483647 : Int) ≠ 0 by decide)
  have d1 := Int.emod_lt_of_pos y (show (0 : Int) < 2147483647 by decide)
  refine ⟨_, rfl, _, rfl, p, _, 3, _, rfl, rfl, .inl (.inl e3), rfl, 104729, dr + 1, rfl, rfl, .inl ⟨by decide, by decide⟩, _, _, rfl, rfl, _, _, rfl, rfl, ⟨by decide, by decide, ?_⟩, _, _, rfl, rfl, (show (0 : Int) < 2147483587 by decide), _, _, rfl, rfl, ⟨by decide, by decide⟩, _, rfl, _, sz, rfl, rfl, hs0, ?_⟩
  · omega
  exact q _ _ s3 f3 (Int.emod_nonneg _ (by omega)) (Int.emod_lt_of_pos _ hs0)
end
end Ms02

namespace Ms02
open PySem PySem.Spec PyProof.Rows L2
/-! ### sayings as data -/
/-- all words that stand in the law's sayings -/
def poolW : List Str := ["a", "b", "p", "h", "k", "zz", "z", "zy", "zyx", "zyxw", "zyxwv", "zyxwvu", "zyxwvut", "zyxwvuts"]
structure Wd (x : Str) : Prop where
  ok : PyData.strOk x = true
  sh : (PyData.str x).shown.length ≤ 20
  mem : x ∈ poolW
def letD (x : Str) : PyData := .tuple [.str "letter", .str x]
def notD (a : PyData) : PyData := .tuple [.str "not", a]
def manyD (w : Str) (ds : List PyData) : PyData := .tuple [.str w, .tuple ds]
def twoD (w : Str) (a b : PyData) : PyData := .tuple [.str w, a, b]
def modD (w h : Str) (a : PyData) : PyData := .tuple [.str w, .str h, a]
/-- a saying, no more than so many levels deep; with "told" or without -/
def Say (tl : Bool) : Nat → PyData → Prop
  | 0, _ => False
  | n + 1, d => (∃ x, Wd x ∧ d = letD x) ∨ (∃ a, Say tl n a ∧ d = notD a) ∨ (∃ (w : Str) (ds : List PyData), (w = "and" ∨ w = "or") ∧ (∀ a ∈ ds, Say tl n a) ∧ d = manyD w ds) ∨
      (∃ (w : Str) (a b : PyData), (w = "so" ∨ (w = "told" ∧ tl = true)) ∧ Say tl n a ∧ Say tl n b ∧ d = twoD w a b) ∨ (∃ (w h : Str) (a : PyData), (w = "must" ∨ w = "may") ∧ Wd h ∧ Say tl n a ∧ d = modD w h a)
theorem Say.mono {tl : Bool} : ∀ {n m : Nat} {d : PyData}, Say tl n d → n ≤ m → Say tl m d
  | 0, _, _, h, _ => h.elim
  | n + 1, 0, _, _, e => absurd e (by omega)
  | n + 1, m + 1, d, h, e => by
    have e' : n ≤ m := by omega
    rcases h with h | ⟨a, h, q⟩ | ⟨w, ds, hw, h, q⟩ | ⟨w, a, b, hw, h, g, q⟩ | ⟨w, x, a, hw, hx, h, q⟩
    · exact .inl h
    · exact .inr (.inl ⟨a, h.mono e', q⟩)
    · exact .inr (.inr (.inl ⟨w, ds, hw, fun a ha => (h a ha).mono e', q⟩))
    · exact .inr (.inr (.inr (.inl ⟨w, a, b, hw, h.mono e', g.mono e', q⟩)))
    · exact .inr (.inr (.inr (.inr ⟨w, x, a, hw, hx, h.mono e', q⟩)))
/-- what stands straight in a saying -/
def inn : PyData → List PyData
  | .tuple (.str w :: r) => if w = "letter" then [] else if w = "and" ∨ w = "or" then (match r with | [.tuple ds] => ds | _ => []) else if w = "must" ∨ w = "may" then r.drop 1 else r
  | _ => []
theorem inn_let (x : Str) : inn (letD x) = [] := by simp [inn, letD]
theorem inn_not (a : PyData) : inn (notD a) = [a] := by
  simp only [inn, notD]
  rw [if_neg (by decide), if_neg (by decide), if_neg (by decide)]
theorem inn_many {w : Str} (ds : List PyData) (h : w = "and" ∨ w = "or") : inn (manyD w ds) = ds := by
  simp only [inn, manyD]
  rw [if_neg (by rcases h with rfl | rfl <;> decide), if_pos h]
theorem inn_two {w : Str} (a b : PyData) (h : w = "so" ∨ w = "told") : inn (twoD w a b) = [a, b] := by
  simp only [inn, twoD]
  rw [if_neg (by rcases h with rfl | rfl <;> decide), if_neg (by rcases h with rfl | rfl <;> decide), if_neg (by rcases h with rfl | rfl <;> decide)]
theorem inn_mod {w : Str} (x : Str) (a : PyData) (h : w = "must" ∨ w = "may") : inn (modD w x a) = [a] := by
  simp only [inn, modD]
  rw [if_neg (by rcases h with rfl | rfl <;> decide), if_neg (by rcases h with rfl | rfl <;> decide), if_pos h]
  rfl
/-- how many parts, gone through so deep -/
def psz : Nat → PyData → Nat
  | 0, _ => 0
  | n + 1, d => 1 + ((inn d).map (psz n)).sum
theorem tupD_say {tl : Bool} : ∀ {n : Nat} {d : PyData}, Say tl n d → tupD d = true
  | 0, _, h => h.elim
  | n + 1, d, h => by
    rcases h with ⟨x, _, rfl⟩ | ⟨a, h, rfl⟩ | ⟨w, ds, hw, h, rfl⟩ | ⟨w, a, b, hw, h, g, rfl⟩ | ⟨w, x, a, hw, hx, h, rfl⟩
    · simp [letD, tupD, tupDs]
    · simp [notD, tupD, tupDs, tupD_say h]
    · have all : ∀ es : List PyData, (∀ a ∈ es, Say tl n a) → tupDs es = true := fun es => by
        induction es with
        | nil => intro _; simp [tupDs]
        | cons e es ih =>
          intro k
          simp [tupDs, tupD_say (k e List.mem_cons_self), ih fun a ha => k a (List.mem_cons_of_mem _ ha)]
      simp [manyD, tupD, tupDs, all ds h]
    · simp [twoD, tupD, tupDs, tupD_say h, tupD_say g]
    · simp [modD, tupD, tupDs, tupD_say h]
def fL (L : Int) : Nat := (L - 1).toNat
/-- what the making of a saying promises -/
def spSaying (K : PySem.W.Frag) (m : Nat) : Sp := fun vs H Q _ => ∃ (p c : Addr) (cells : List Int) (n : Int) (q : Addr) (L : Int) (tl : Bool), vs = [.ref p, .ref q, .bl tl] ∧ Fd K H p c cells n ∧ H q = some (.lst [.int L]) ∧ q ≠ p ∧ q ≠ c ∧ 0 < m ∧ L ≤ m ∧
  n + 2 * (1 + 3 * (fL L : Int)) ≤ 1000000000 ∧ ∀ (H' : Hp) (a : Addr) (d : PyData) (L' : Int) (k : Nat), Go [p, q] H H' → Fd K H' p c cells (n + 2 * (1 + 3 * (k : Int))) → H' q = some (.lst [.int L']) → L' ≤ L → k + fL L' ≤ fL L → Say tl (k + 1) d → (∀ j, psz j d ≤ 1 + 3 * k) → Dp K H' (.ref a) d → Q (.ref a) H'
abbrev NS' : List Str := ["_law_feed_here", "_law_left", "_law_told", "_law_way", "_law_many", "_law_some", "_law_hand", "_law_k"]
theorem scSaying : FnScope NS' ["_law_feed_here", "_law_left", "_law_told"] (defScope sSaying) := ⟨rfl, rfl, rfl, by decide +kernel, rfl, by decide +kernel, by decide +kernel⟩
theorem fL_succ {L : Int} (h : 2 ≤ L) : fL L = fL (L - 1) + 1 := by unfold fL; omega
theorem fL_le {L M : Int} (h : L ≤ M) : fL L ≤ fL M := by unfold fL; omega
theorem psz_let (x : Str) (j : Nat) : psz j (letD x) ≤ 1 := by cases j <;> simp [psz, inn_let]
theorem psz_1 {d e : PyData} {k : Nat} (i : inn d = [e]) (h : ∀ j, psz j e ≤ 1 + 3 * k) (j : Nat) : psz j d ≤ 1 + 3 * (k + 1) := by
  cases j with
  | zero => simp [psz]
  | succ j =>
    have := h j
    simp only [psz, i, List.map_cons, List.map_nil, List.sum_cons, List.sum_nil]
    omega
theorem psz_2 {d e f : PyData} {k l : Nat} (i : inn d = [e, f]) (h : ∀ j, psz j e ≤ 1 + 3 * k) (g : ∀ j, psz j f ≤ 1 + 3 * l) (j : Nat) : psz j d ≤ 1 + 3 * (k + l + 1) := by
  cases j with
  | zero => simp [psz]
  | succ j =>
    have := h j
    have := g j
    simp only [psz, i, List.map_cons, List.map_nil, List.sum_cons, List.sum_nil]
    omega
theorem psz_m {d : PyData} {ds : List PyData} {k : Nat} (i : inn d = ds) (hl : ds.length ≤ 3) (h : ∀ j, (ds.map (psz j)).sum ≤ ds.length + 3 * k) (j : Nat) : psz j d ≤ 1 + 3 * (k + 1) := by
  cases j with
  | zero => simp [psz]
  | succ j =>
    have := h j
    simp only [psz, i]
    omega
theorem dpAll_snoc {K : PySem.W.Frag} {H : Hp} {v : V} {d : PyData} (h : Dp K H v d) : ∀ {ds : List PyData} {vs : List V}, DpAll K H vs ds → DpAll K H (vs ++ [v]) (ds ++ [d])
  | [], _, .nil => .cons h .nil
  | _ :: _, _, .cons a b => .cons a (dpAll_snoc h b)
theorem dpAll_len {K : PySem.W.Frag} {H : Hp} : ∀ {ds : List PyData} {vs : List V}, DpAll K H vs ds → vs.length = ds.length
  | [], _, .nil => rfl
  | _ :: _, _, .cons a b => congrArg (· + 1) (dpAll_len b)
theorem tupDs_say {tl : Bool} {n : Nat} : ∀ {ds : List PyData}, (∀ a ∈ ds, Say tl n a) → tupDs ds = true
  | [], _ => by simp [tupDs]
  | d :: ds, h => by simp [tupDs, tupD_say (h d List.mem_cons_self), tupDs_say fun a ha => h a (List.mem_cons_of_mem _ ha)]
theorem wd_by {x : Str} (h : PyData.strOk x = true) (g : (PyData.str x).shown.length ≤ 20) (m : x ∈ poolW := by decide +kernel) : Wd x := ⟨h, g, m⟩
section
variable {P : Program} {w : World} {K : PySem.W.Frag} {mg : Str → Option Value} {base : Heap}
theorem ok_saying {f g : Addr} {fd gd : FuncData} {m : Nat} (F : Fun K "_law_saying" "_law_saying" sSaying f fd) (D : FnOk P w K mg base CX0 1 g gd ["_law_feed_here", "_law_many"] (spDraw K)) (bD : Binds K gd ["_law_feed_here", "_law_many"] []) (kD : PySem.W.keepIn K (.ref g) = true)
    (mD : mg "_law_draw" = some (.ref g)) (G : FnOk P w K mg base CX0 (m + 1) f fd ["_law_feed_here", "_law_left", "_law_told"] (spSaying K m)) (bG : Binds K fd ["_law_feed_here", "_law_left", "_law_told"] []) (mG : mg "_law_saying" = some (.ref f))
    (mr : mg "range" = none) (mt : mg "tuple" = none) : FnOk P w K mg base CX0 (m + 1 + 1) f fd ["_law_feed_here", "_law_left", "_law_told"] (spSaying K (m + 1)) := by
  refine F.ok scSaying (fun vs H Q E h => ?_) (fun cdv A outer s H vs Q E hr h => ?_)
  · obtain ⟨p, c, cells, n, q, L, tl, rfl, _⟩ := h
    rfl
  obtain ⟨p, c, cells, n, q, L, tl, rfl, hF, hq, hqp, hqc, _, hLm, hn, fin⟩ := h
  have hr1 := hr.mono (show 1 ≤ m + 1 by omega)
  have kG := F.kp
  have nd := scSaying.nd
  refine ⟨_, pss_cons (ps_asg (pe_op op_sub (pe_ix ix_list (pv 1) pe_int (fun _ _ => rfl)) pe_int) (pg_sub (pv 1) pe_int set_list))
    (pss_cons (ps_set (i := 3) nd rfl (.inl rfl) (pe_call D hr1 (by rfl) mD kD bD .nil pass0 (pa_cons (pv 0) (pa_cons pe_int pa_nil))))
    (pss_cons (ps_if (PW.pt (pw_or (pt_cmpR op_lt (pv 3) pe_int (nomark _)) (pw_or1 (pt_cmpR op_lt (pe_ix ix_list (pv 1) pe_int (fun _ _ => rfl)) pe_int (nomark _)))))
      (pss_one (ps_ret (pe_tup (pa_cons pe_str (pa_cons (pe_ix ix_list (pe_lst (pa_cons pe_str (pa_cons pe_str (pa_cons pe_str pa_nil)))) (pe_call D hr1 (by rfl) mD kD bD .nil pass0 (pa_cons (pv 0) (pa_cons pe_int pa_nil))) (fun _ _ => rfl)) pa_nil))))) pss_nil)
    (pss_cons (ps_if (pt_cmpR op_in_seq (pv 3) (pe_tup (pa_cons pe_int (pa_cons pe_int pa_nil))) (by rfl))
      (pss_one (ps_ret (pe_tup (pa_cons pe_str (pa_cons (pe_call G hr (by rfl) mG kG bG .nil pass0 (pa_cons (pv 0) (pa_cons (pv 1) (pa_cons (pv 2) pa_nil)))) pa_nil))))) pss_nil)
    (pss_cons (ps_if (pt_cmpR op_lt (pv 3) pe_int (nomark _))
      (pss_cons (ps_set (i := 4) nd rfl (.inl rfl) (pe_ix ix_list (pe_lst (pa_cons pe_int (pa_cons pe_int (pa_cons pe_int (pa_cons pe_int (pa_cons pe_int pa_nil)))))) (pe_call D hr1 (by rfl) mD kD bD .nil pass0 (pa_cons (pv 0) (pa_cons pe_int pa_nil))) (fun _ _ => rfl)))
      (pss_cons (ps_setLc (i := 5) (own := [("_law_k", 7)]) (g := gName 7) rfl nd rfl rfl (sw_true rfl rfl rfl (by decide +kernel)) (pi_range1 (by rfl) mr (pa_cons (pv 4) pa_nil)) (blkOk_by (N := NS') (sc := defScope sSaying) (by decide +kernel)) (fun _ _ _ _ _ => pg_name (i := 7) nd rfl (Or.inl rfl))
        (fun _ _ _ _ _ => pts_one (pt_cmpR op_gt (pe_ix (r := rIxL K) ix_list (pv 1) pe_int (fun _ _ => rfl)) pe_int (nomark _))) (fun _ _ _ _ _ => pe_call G hr (by rfl) mG kG bG .nil pass0 (pa_cons (pv 0) (pa_cons (pv 1) (pa_cons (pv 2) pa_nil)))))
      (pss_one (ps_ret (pe_tup (pa_cons (pe_ix ix_list (pe_lst (pa_cons pe_str (pa_cons pe_str pa_nil))) (pe_op op_mod (pv 3) pe_int) (fun _ _ => rfl)) (pa_cons (pe_callTy call_tuple_of (by rfl) mt (by decide +kernel) (pa_cons (pv 5) pa_nil)) pa_nil))))))) pss_nil)
    (pss_cons (ps_if (PW.pt (pw_or (pt_cmpR op_in_seq (pv 3) (pe_tup (pa_cons pe_int (pa_cons pe_int pa_nil))) (by rfl)) (pw_or1 (PW.pt (pw_and (pt_cmpR op_eq (pv 3) pe_int (nomark _)) (pw_and1 (pt_not (pt_val (pv 2)))))))))
      (pss_one (ps_ret (pe_tup (pa_cons pe_str (pa_cons (pe_call G hr (by rfl) mG kG bG .nil pass0 (pa_cons (pv 0) (pa_cons (pv 1) (pa_cons (pv 2) pa_nil)))) (pa_cons (pe_call G hr (by rfl) mG kG bG .nil pass0 (pa_cons (pv 0) (pa_cons (pv 1) (pa_cons (pv 2) pa_nil)))) pa_nil)))))) pss_nil)
    (pss_cons (ps_if (pt_cmpR op_eq (pv 3) pe_int (nomark _))
      (pss_one (ps_ret (pe_tup (pa_cons pe_str (pa_cons (pe_call G hr (by rfl) mG kG bG .nil pass0 (pa_cons (pv 0) (pa_cons (pv 1) (pa_cons (pv 2) pa_nil)))) (pa_cons (pe_call G hr (by rfl) mG kG bG .nil pass0 (pa_cons (pv 0) (pa_cons (pv 1) (pa_cons (pv 2) pa_nil)))) pa_nil)))))) pss_nil)
    (pss_cons (ps_set (i := 6) nd rfl (.inl rfl) (pe_ix ix_list (pe_lst (pa_cons pe_str (pa_cons pe_str pa_nil))) (pe_call D hr1 (by rfl) mD kD bD .nil pass0 (pa_cons (pv 0) (pa_cons pe_int pa_nil))) (fun _ _ => rfl)))
    (pss_one (ps_ret (pe_tup (pa_cons (pe_ix ix_list (pe_lst (pa_cons pe_str (pa_cons pe_str pa_nil))) (pe_op op_mod (pv 3) pe_int) (fun _ _ => rfl)) (pa_cons (pv 6) (pa_cons (pe_call G hr (by rfl) mG kG bG .nil pass0 (pa_cons (pv 0) (pa_cons (pv 1) (pa_cons (pv 2) pa_nil)))) pa_nil))))))))))))), ?_⟩
  -- left[0] = left[0] - 1
  refine ⟨_, rfl, q, _, 0, _, rfl, rfl, .inl (.inl hq), rfl, L, 1, rfl, rfl, _, rfl, q, _, 0, 0, rfl, rfl, hq, rfl, ?_⟩
  have g1 : Go [p, q] H (upd H q (.lst ([V.int L].set 0 (.int (L - 1))))) := Go.put (by simp) hq _
  have e1 : (upd H q (.lst ([V.int L].set 0 (.int (L - 1))))) q = some (.lst [.int (L - 1)]) := upd_same
  have f1 : Fd K (upd H q (.lst ([V.int L].set 0 (.int (L - 1))))) p c cells n := hF.off hqp hqc _
  generalize upd H q (.lst ([V.int L].set 0 (.int (L - 1)))) = H1 at g1 e1 f1
  have qp : q ∉ [p] := by simpa using hqp
  have sub : ∀ b ∈ [p], b ∈ [p, q] := fun b hb => List.mem_cons.mpr (Or.inl (List.mem_singleton.mp hb))
  have fL0 := Nat.zero_le (fL L)
  -- way
  refine ⟨_, rfl, p, c, cells, 14, n, rfl, f1, by decide, by decide, by omega, fun H2 way g2 f2 w0 w14 => ?_⟩
  have e2 := g2.ex _ _ e1 qp
  have g2' := g1.trans (g2.mono sub)
  refine ⟨_, rfl, _, _, rfl, rfl, _, rfl, ite2 (fun c1 => iteT ?_) (fun c1 => ⟨_, rfl, q, _, 0, _, rfl, rfl, .inl (.inl e2), rfl, _, _, rfl, rfl, _, rfl, ite2 (fun c2 => ?_) (fun c2 => ?_)⟩)⟩
  · refine ⟨zz3, fun l hl => ⟨_, rfl, p, c, cells, 3, n + 1, rfl, f2.new hl _, by decide, by decide, by omega, fun H3 j g3 f3 j0 j3 => ?_⟩⟩
    have lp : l ∉ [p] := by
      obtain ⟨_, _, _, hp', _⟩ := f2
      simpa using (ne_of_none hp' hl).symm
    obtain ⟨z, hz, mz⟩ := pick (xs := [.str "a", .str "b", .str "p"]) j0 j3
    obtain ⟨x, rfl, hx⟩ : ∃ x, z = .str x ∧ Wd x := by
      simp only [List.mem_cons, List.not_mem_nil, or_false] at mz
      rcases mz with rfl | rfl | rfl <;> exact ⟨_, rfl, wd_by (by decide +kernel) (by decide +kernel)⟩
    refine ⟨l, _, j, _, rfl, rfl, .inl (.inl (g3.ex _ _ upd_same lp)), hz, zz2, fun t nt => ?_⟩
    have gA := g2'.trans ((Go.new hl (.lst [.str "a", .str "b", .str "p"])).trans ((g3.mono sub).trans (Go.new nt (.tup [.str "letter", .str x]))))
    exact fin _ t (letD x) (L - 1) 0 gA ((f3.new nt _).mono (by omega)) (same_new nt _ _ _ (g3.ex _ _ (same_new hl _ _ _ e2) qp)) (by omega) (by rw [Nat.zero_add]; exact fL_le (by omega)) (.inl ⟨x, hx, rfl⟩) (psz_let x) (new2 nt (.str _) (.str _))
  · refine ⟨zz3, fun l hl => ⟨_, rfl, p, c, cells, 3, n + 1, rfl, f2.new hl _, by decide, by decide, by omega, fun H3 j g3 f3 j0 j3 => ?_⟩⟩
    have lp : l ∉ [p] := by
      obtain ⟨_, _, _, hp', _⟩ := f2
      simpa using (ne_of_none hp' hl).symm
    obtain ⟨z, hz, mz⟩ := pick (xs := [.str "a", .str "b", .str "p"]) j0 j3
    obtain ⟨x, rfl, hx⟩ : ∃ x, z = .str x ∧ Wd x := by
      simp only [List.mem_cons, List.not_mem_nil, or_false] at mz
      rcases mz with rfl | rfl | rfl <;> exact ⟨_, rfl, wd_by (by decide +kernel) (by decide +kernel)⟩
    refine ⟨l, _, j, _, rfl, rfl, .inl (.inl (g3.ex _ _ upd_same lp)), hz, zz2, fun t nt => ?_⟩
    have gA := g2'.trans ((Go.new hl (.lst [.str "a", .str "b", .str "p"])).trans ((g3.mono sub).trans (Go.new nt (.tup [.str "letter", .str x]))))
    exact fin _ t (letD x) (L - 1) 0 gA ((f3.new nt _).mono (by omega)) (same_new nt _ _ _ (g3.ex _ _ (same_new hl _ _ _ e2) qp)) (by omega) (by rw [Nat.zero_add]; exact fL_le (by omega)) (.inl ⟨x, hx, rfl⟩) (psz_let x) (new2 nt (.str _) (.str _))
  have hL2 : 2 ≤ L := by
    have := of_decide_eq_false (Bool.eq_false_iff.mpr c2)
    omega
  have fs := fL_succ hL2
  have m0 : 0 < m := by omega
  have hLm' : L - 1 ≤ m := by omega
  have w3 : 3 ≤ way := by
    have := of_decide_eq_false (Bool.eq_false_iff.mpr c1)
    omega
  -- way in (3, 4)
  refine ⟨_, rfl, zz2, fun u1 nu1 => ⟨u1, _, rfl, .inr (.inl (.inl upd_same)), rfl, rfl, _, rfl, ?_⟩⟩
  have s3 := same_new nu1 (.tup [.int 3, .int 4])
  have e3 := s3 _ _ e2
  have f3 := f2.same s3
  have g3 := g2'.trans (Go.same s3)
  generalize upd H2 u1 (.tup [.int 3, .int 4]) = H3 at s3 e3 f3 g3
  refine ite2 (fun c3 => ?_) (fun c3 => ?_)
  · refine ⟨_, rfl, _, rfl, _, rfl, p, c, cells, n + 1, q, L - 1, tl, rfl, f3, e3, hqp, hqc, m0, hLm', by omega, fun H4 a d L' k g4 f4 e4 hL' hk hs hz hd => ⟨zz2, fun t nt => ?_⟩⟩
    exact fin _ t (notD d) L' (k + 1) (g3.trans (g4.trans (Go.new nt _))) ((f4.new nt _).mono (by omega)) (same_new nt _ _ _ e4) (by omega) (by omega) (.inr (.inl ⟨d, hs, rfl⟩)) (psz_1 (inn_not d) hz) (new2 nt (.str _) hd)
  -- way < 8
  refine ⟨_, rfl, _, _, rfl, rfl, _, rfl, ite2 (fun c4 => ?_) (fun c4 => ?_)⟩
  · refine ⟨zz5, fun l hl => ⟨_, rfl, p, c, cells, 5, n + 1, rfl, f3.new hl _, by decide, by decide, by omega, fun H4 j g4 f4 j0 j5 => ?_⟩⟩
    have lp : l ∉ [p] := by
      obtain ⟨_, _, _, hp', _⟩ := f3
      simpa using (ne_of_none hp' hl).symm
    obtain ⟨z, hz, mz⟩ := pick (xs := [.int 2, .int 1, .int 3, .int 2, .int 0]) j0 j5
    obtain ⟨mv, rfl, mv0, mv3⟩ : ∃ mv : Int, z = .int mv ∧ 0 ≤ mv ∧ mv ≤ 3 := by
      simp only [List.mem_cons, List.not_mem_nil, or_false] at mz
      rcases mz with rfl | rfl | rfl | rfl | rfl <;> exact ⟨_, rfl, by decide, by decide⟩
    have e4 := g4.ex _ _ (same_new hl (.lst [.int 2, .int 1, .int 3, .int 2, .int 0]) _ _ e3) qp
    have gA : Go [p, q] H H4 := g3.trans ((Go.new hl (.lst [.int 2, .int 1, .int 3, .int 2, .int 0])).trans (g4.mono sub))
    refine ⟨l, _, j, _, rfl, rfl, .inl (.inl (g4.ex _ _ upd_same lp)), hz, ?_⟩
    -- some = [..]
    refine ⟨_, rfl, mv, rfl, by omega, by omega, fun D hD => ?_⟩
    have Dp_ : D ∉ [p, q] := by
      obtain ⟨_, _, _, hp', _⟩ := f4
      intro hm
      rcases List.mem_cons.mp hm with z | z
      · exact ne_of_none hp' hD z.symm
      · exact ne_of_none e4 hD (List.mem_singleton.mp z).symm
    refine lc_range (lo := 0) (n := mv.toNat) (fun i H' => ∃ (vs : List V) (ds : List PyData) (k : Nat) (Lc : Int), H' D = some (.lst vs) ∧ DpAll K H' vs ds ∧ ds.length ≤ i ∧ (∀ a ∈ ds, Say tl (k + 1) a) ∧ (∀ j, (ds.map (psz j)).sum ≤ ds.length + 3 * k) ∧ H' q = some (.lst [.int Lc]) ∧
        k + fL Lc ≤ fL (L - 1) ∧ Lc ≤ L - 1 ∧ Go [p, q] H4 H' ∧ Fd K H' p c cells (n + 2 + 2 * (ds.length : Int) + 6 * (k : Int)))
      ⟨[], [], 0, L - 1, upd_same, .nil, Nat.le_refl _, by simp, by simp, same_new hD _ _ _ e4, by omega, by omega, Go.new hD _, (f4.new hD _).mono (by simp only [List.length_nil]; omega)⟩ (fun i H' hi hp => ?_) (fun H' hp => ?_)
    · obtain ⟨vs, ds, k, Lc, hl', hd, hdl, hds, hdz, eq', hk, hLc, g', f'⟩ := hp
      have hvl := dpAll_len hd
      refine ⟨rfl, _, rfl, q, _, 0, _, rfl, rfl, .inl (.inl eq'), rfl, _, _, rfl, rfl, _, rfl, ite2 (fun c5 => ?_) (fun c5 => ?_)⟩
      · refine ⟨_, rfl, _, rfl, _, rfl, p, c, cells, _, q, Lc, tl, rfl, f', eq', hqp, hqc, m0, by omega, by omega, fun H5 a d L' k' g5 f5 e5 hL' hk' hs' hz' hd' => ?_⟩
        have hl5 := g5.ex _ _ hl' Dp_
        have hdT := dpAll_tp g5.tp ds vs (tupDs_say hds) hd
        have sT := Tp.lst hl5 (.lst (vs ++ [.ref a]))
        refine ⟨vs, hl5, small1000 (by omega), vs ++ [.ref a], ds ++ [d], k + k', L', upd_same, ?_, by rw [List.length_append]; exact Nat.succ_le_succ hdl, ?_, ?_, ?_, by omega, by omega, (g'.trans g5).at hD _, ?_⟩
        · exact dpAll_tp sT _ _ (tupDs_say (tl := tl) (n := k + k' + 1) fun b hb => by
            rcases List.mem_append.mp hb with z | z
            · exact (hds b z).mono (by omega)
            · rw [List.mem_singleton.mp z]
              exact hs'.mono (by omega)) (dpAll_snoc hd' hdT)
        · intro b hb
          rcases List.mem_append.mp hb with z | z
          · exact (hds b z).mono (by omega)
          · rw [List.mem_singleton.mp z]
            exact hs'.mono (by omega)
        · intro j
          have h1 := hdz j
          have h2 := hz' j
          simp only [List.map_append, List.sum_append, List.map_cons, List.map_nil, List.sum_cons, List.sum_nil, List.length_append, List.length_cons, List.length_nil]
          omega
        · rw [upd_ne fun z => Dp_ (by simp [z])]
          exact e5
        · exact (f4.put hD f5 _).mono (by
            simp only [List.length_append, List.length_cons, List.length_nil]
            omega)
      · exact ⟨vs, ds, k, Lc, hl', hd, by omega, hds, hdz, eq', hk, hLc, g', f'⟩
    · obtain ⟨vs, ds, k, Lc, hl', hd, hdl, hds, hdz, eq', hk, hLc, g', f'⟩ := hp
      have hd3 : ds.length ≤ 3 := by omega
      have hp0 := Int.emod_nonneg way (show (2 : Int) ≠ 0 by decide)
      have hp1 := Int.emod_lt_of_pos way (show (0 : Int) < 2 by decide)
      obtain ⟨z, hz, mz⟩ := pick (xs := [.str "and", .str "or"]) hp0 hp1
      obtain ⟨x, rfl, hx⟩ : ∃ x : Str, z = .str x ∧ (x = "and" ∨ x = "or") := by
        simp only [List.mem_cons, List.not_mem_nil, or_false] at mz
        rcases mz with rfl | rfl
        · exact ⟨_, rfl, .inl rfl⟩
        · exact ⟨_, rfl, .inr rfl⟩
      refine ⟨zz2, fun l2 hl2 => ⟨_, rfl, way, 2, rfl, rfl, (show (0 : Int) < 2 by decide), l2, _, _, _, rfl, rfl, .inl (.inl upd_same), hz, _, rfl, D, vs, rfl, .inl ⟨.inl (.inl (same_new hl2 _ _ _ hl')), fun tt ntt => ⟨zz2, fun t nt => ?_⟩⟩⟩⟩
      have sA := (same_new hl2 (.lst [.str "and", .str "or"])).trans ((same_new ntt (.tup vs)).trans (same_new nt (.tup [.str x, .ref tt])))
      refine fin _ t (manyD x ds) Lc (k + 1) (gA.trans (g'.trans (Go.same sA))) ((f'.same sA).mono (by omega)) (sA _ _ eq') (by omega) (by omega) (.inr (.inr (.inl ⟨x, ds, hx, fun a ha => hds a ha, rfl⟩))) (psz_m (inn_many ds hx) hd3 hdz) ?_
      exact new2 nt (.str _) (.tup (.inl (.inl upd_same)) (dpAll_same ((same_new hl2 _).trans (same_new ntt _)) ds vs hd))
  have w8 : 8 ≤ way := by
    have := of_decide_eq_false (Bool.eq_false_iff.mpr c4)
    omega
  have two : ∀ (x : Str), (x = "so" ∨ (x = "told" ∧ tl = true)) → ∀ (Hs : Hp), Go [p, q] H Hs → ∀ (H4 : Hp) (a : Addr) (d : PyData) (L' : Int) (k : Nat), Go [p, q] Hs H4 → L' ≤ L - 1 → k + fL L' ≤ fL (L - 1) → Say tl (k + 1) d → (∀ j, psz j d ≤ 1 + 3 * k) → Dp K H4 (.ref a) d →
      ∀ (H5 : Hp) (a2 : Addr) (d2 : PyData) (L2 : Int) (k2 : Nat), Go [p, q] H4 H5 → Fd K H5 p c cells (n + 1 + 2 * (1 + 3 * (k : Int)) + 2 * (1 + 3 * (k2 : Int))) → H5 q = some (.lst [.int L2]) → L2 ≤ L' → k2 + fL L2 ≤ fL L' → Say tl (k2 + 1) d2 → (∀ j, psz j d2 ≤ 1 + 3 * k2) → Dp K H5 (.ref a2) d2 →
      ∀ t, H5 t = none → Q (.ref t) (upd H5 t (.tup [.str x, .ref a, .ref a2])) := by
    intro x hx Hs gs H4 a d L' k g4 hL' hk hs hz hd H5 a2 d2 L2 k2 g5 f5 e5 hL2' hk2 hs2 hz2 hd2 t nt
    have hx' : x = "so" ∨ x = "told" := hx.elim .inl fun h => .inr h.1
    refine fin _ t (twoD x d d2) L2 (k + k2 + 1) (gs.trans (g4.trans (g5.trans (Go.new nt _)))) ((f5.new nt _).mono (by omega)) (same_new nt _ _ _ e5) (by omega) (by omega) (.inr (.inr (.inr (.inl ⟨x, d, d2, hx, hs.mono (by omega), hs2.mono (by omega), rfl⟩)))) (psz_2 (inn_two d d2 hx') hz hz2) ?_
    exact new3 nt (.str _) (dp_tp g5.tp d _ (tupD_say hs) hd) hd2
  -- way in (8, 9) or way == 13 and not told
  refine ⟨_, rfl, zz2, fun u2 nu2 => ⟨u2, _, rfl, .inr (.inl (.inl upd_same)), rfl, rfl, _, rfl, ?_⟩⟩
  have s4 := same_new nu2 (.tup [.int 8, .int 9])
  have e4 := s4 _ _ e3
  have f4 := f3.same s4
  have g4 := g3.trans (Go.same s4)
  generalize upd H3 u2 (.tup [.int 8, .int 9]) = H4 at s4 e4 f4 g4
  refine ite2 (fun c5 => iteT ?_) (fun c5 => ?_)
  · exact ⟨_, rfl, _, rfl, _, rfl, p, c, cells, n + 1, q, L - 1, tl, rfl, f4, e4, hqp, hqc, m0, hLm', by omega, fun Ha a d L1 k ga fa ea hL1 hk hs hz hd => ⟨_, rfl, _, rfl, _, rfl, p, c, cells, _, q, L1, tl, rfl, fa, ea, hqp, hqc, m0, by omega, by omega,
      fun Hb a2 d2 L2 k2 gb fb eb hL2 hk2 hs2 hz2 hd2 => ⟨zz3, fun t nt => two "so" (.inl rfl) _ g4 _ a d L1 k ga hL1 hk hs hz hd _ a2 d2 L2 k2 gb fb eb hL2 hk2 hs2 hz2 hd2 t nt⟩⟩⟩
  refine ⟨_, rfl, rfl, _, rfl, ?_⟩
  refine ite2 (fun c6 => ⟨_, rfl, _, rfl, ite2 (fun c7 => ?_) (fun c7 => ?_)⟩) (fun c6 => iteF ?_)
  · exact ⟨_, rfl, _, rfl, _, rfl, p, c, cells, n + 1, q, L - 1, tl, rfl, f4, e4, hqp, hqc, m0, hLm', by omega, fun Ha a d L1 k ga fa ea hL1 hk hs hz hd => ⟨_, rfl, _, rfl, _, rfl, p, c, cells, _, q, L1, tl, rfl, fa, ea, hqp, hqc, m0, by omega, by omega,
      fun Hb a2 d2 L2 k2 gb fb eb hL2 hk2 hs2 hz2 hd2 => ⟨zz3, fun t nt => two "so" (.inl rfl) _ g4 _ a d L1 k ga hL1 hk hs hz hd _ a2 d2 L2 k2 gb fb eb hL2 hk2 hs2 hz2 hd2 t nt⟩⟩⟩
  · have ht : tl = true := by cases tl <;> simp_all
    refine ⟨_, rfl, rfl, _, rfl, ite2 (fun c8 => ?_) (fun c8 => absurd c6 c8)⟩
    exact ⟨_, rfl, _, rfl, _, rfl, p, c, cells, n + 1, q, L - 1, tl, rfl, f4, e4, hqp, hqc, m0, hLm', by omega, fun Ha a d L1 k ga fa ea hL1 hk hs hz hd => ⟨_, rfl, _, rfl, _, rfl, p, c, cells, _, q, L1, tl, rfl, fa, ea, hqp, hqc, m0, by omega, by omega,
      fun Hb a2 d2 L2 k2 gb fb eb hL2 hk2 hs2 hz2 hd2 => ⟨zz3, fun t nt => two "told" (.inr ⟨rfl, ht⟩) _ g4 _ a d L1 k ga hL1 hk hs hz hd _ a2 d2 L2 k2 gb fb eb hL2 hk2 hs2 hz2 hd2 t nt⟩⟩⟩
  refine ⟨_, rfl, rfl, _, rfl, ite2 (fun c8 => absurd c8 c6) (fun c8 => ?_)⟩
  refine ⟨zz2, fun l hl => ⟨_, rfl, p, c, cells, 2, n + 1, rfl, f4.new hl _, by decide, by decide, by omega, fun H5 j g5 f5 j0 j2 => ?_⟩⟩
  have lp : l ∉ [p] := by
    obtain ⟨_, _, _, hp', _⟩ := f4
    simpa using (ne_of_none hp' hl).symm
  obtain ⟨z, hz, mz⟩ := pick (xs := [.str "h", .str "k"]) j0 j2
  obtain ⟨x, rfl, hx⟩ : ∃ x, z = .str x ∧ Wd x := by
    simp only [List.mem_cons, List.not_mem_nil, or_false] at mz
    rcases mz with rfl | rfl <;> exact ⟨_, rfl, wd_by (by decide +kernel) (by decide +kernel)⟩
  have e5 := g5.ex _ _ (same_new hl (.lst [.str "h", .str "k"]) _ _ e4) qp
  have gA : Go [p, q] H H5 := g4.trans ((Go.new hl (.lst [.str "h", .str "k"])).trans (g5.mono sub))
  refine ⟨l, _, j, _, rfl, rfl, .inl (.inl (g5.ex _ _ upd_same lp)), hz, ?_⟩
  have hp0 := Int.emod_nonneg way (show (2 : Int) ≠ 0 by decide)
  have hp1 := Int.emod_lt_of_pos way (show (0 : Int) < 2 by decide)
  obtain ⟨z, hz, mz⟩ := pick (xs := [.str "must", .str "may"]) hp0 hp1
  obtain ⟨y, rfl, hy⟩ : ∃ y : Str, z = .str y ∧ (y = "must" ∨ y = "may") := by
    simp only [List.mem_cons, List.not_mem_nil, or_false] at mz
    rcases mz with rfl | rfl
    · exact ⟨_, rfl, .inl rfl⟩
    · exact ⟨_, rfl, .inr rfl⟩
  refine ⟨zz2, fun l2 hl2 => ⟨_, rfl, way, 2, rfl, rfl, (show (0 : Int) < 2 by decide), l2, _, _, _, rfl, rfl, .inl (.inl upd_same), hz, _, rfl, _, rfl, _, rfl, _, rfl,
    p, c, cells, n + 2, q, L - 1, tl, rfl, (f5.new hl2 _).mono (by omega), same_new hl2 _ _ _ e5, hqp, hqc, m0, hLm', by omega, fun Ha a d L1 k ga fa ea hL1 hk hs hz hd => ⟨zz3, fun t nt => ?_⟩⟩⟩
  refine fin _ t (modD y x d) L1 (k + 1) (gA.trans ((Go.new hl2 _).trans (ga.trans (Go.new nt _)))) ((fa.new nt _).mono (by omega)) (same_new nt _ _ _ ea) (by omega) (by omega) (.inr (.inr (.inr (.inr ⟨y, x, d, hy, hx, hs, rfl⟩)))) (psz_1 (inn_mod x d hy) hz) ?_
  exact new3 nt (.str _) (.str _) hd
end
end Ms02

namespace Ms02
open PySem PySem.Spec PyProof.Rows L2
open PySem.AutoSeq1 in
theorem list_extend_tupleW (l : Addr) (items : Array Value) (n : Nat) (b : Addr) (items2 : Array Value) (n2 : Nat) (dd sl) (hs0 : ¬(!items.isEmpty && Builtin.List.listTooLong (items.size + items2.size)) = true) (hs1 : items.size ≤ sizeLine) (hs2 : items.size + items2.size ≤ sizeLine + 1) :
    Meets (Builtin.«list.extend» ⟨[.ref l, .ref b], []⟩) (fun _ R s => s.heap.get? l = some { cls := .type "list", dict := none, data := .seq items n, slots := #[] } ∧ s.heap.get? b = some { cls := .type "tuple", dict := dd, data := .seq items2 n2, slots := sl } ∧ R (.ok (.ret Value.none)) { s with heap := s.heap.update l (Obj.mapSeq fun x => x ++ items2), toks := s.toks }) :=
  .of_wp fun prog w A R s h => by
    obtain ⟨hp, g, d, tk, os⟩ := s; obtain ⟨hl, hb, h⟩ := h; have f1 := idx_int; have f2 := PySem.AutoSeq1.sub_tuple_tuple; have f3 := PySem.AutoSeq1.sub_list_list; have f4 := PySem.AutoSeq1.sub_tuple_list; have f5 := PySem.AutoSeq1.sub_list_tuple;
    have hz' : (items ++ items2).size ≤ sizeLine + 1 := by rw [Array.size_append]; exact hs2
    wp_walk using (wpAny_updateSeq hl rfl (hz := hs1) (_hz' := hz')), wpAny_loadPart' hl, wpAny_loadPart' hb; exact ⟨_, rfl, h⟩
section
variable {X : Cx}
def rExtendT (K : PySem.W.Frag) : V → List V → Hp → VK → Prop := fun x vs H Q => ∃ l b xs zs, x = .ref l ∧ vs = [.ref b] ∧ H l = some (.lst xs) ∧ SqT K H b zs ∧ xs.length + zs.length ≤ sizeLine ∧ Q .non (upd H l (.lst (xs ++ zs)))
/-- xs.extend(t) of a tuple -/
theorem mt_extendT : MtM X "list.extend" (rExtendT X.K) := by
  intro pins s σ H x vs v us Q I rx rv h
  obtain ⟨l, b, xs, zs, rfl, rfl, hH, hB, hz, q⟩ := h
  cases rx
  obtain ⟨u, rfl, ru⟩ := rv.one
  cases ru
  obtain ⟨z, its, n, r, hl, e⟩ := I.lstM hH
  obtain ⟨its2, r2, ⟨⟨cls2, dd2, data2, sl2⟩, ho2, hc2, n2, hd2⟩, hl2⟩ := I.tuple hB
  simp only at hc2 hd2
  subst hc2 hd2
  have e2 := r2.length
  have hsz : its.toArray.size + its2.toArray.size ≤ sizeLine := by rw [List.size_toArray, List.size_toArray]; omega
  have hlong : ¬ (!its.toArray.isEmpty && Builtin.List.listTooLong (its.toArray.size + its2.toArray.size)) = true := by
    rw [notLongL hsz, Bool.and_false]
    exact Bool.false_ne_true
  refine call_meets F.slot_list_extend ⟨_, e, rfl⟩ F.entry_list_extend (F.args_list_extend_2 _ _)
    (list_extend_tupleW l its.toArray n b its2.toArray n2 dd2 sl2 hlong (by rw [List.size_toArray]; omega) (by omega)) ⟨e, ho2, ?_⟩
  refine ⟨.non, _, I.lset (its' := its ++ its2) hH e (by simp) (r.append r2) ?_, rfl, q⟩
  rw [List.length_append]
  omega
end
end Ms02

namespace Ms02
open PySem PySem.Spec PyProof.Rows L2
section
variable {K : PySem.W.Frag} {H : Hp}
/-- what a saying is, where it stands -/
theorem say_at {tl : Bool} {n : Nat} {d : PyData} {v : V} (hs : Say tl n d) (hd : Dp K H v d) : ∃ (a : Addr) (m : Nat), v = .ref a ∧ n = m + 1 ∧
    ((∃ x, Wd x ∧ d = letD x ∧ SqT K H a [.str "letter", .str x]) ∨ (∃ e y, Say tl m e ∧ d = notD e ∧ Dp K H y e ∧ SqT K H a [.str "not", y]) ∨
      (∃ (w : Str) (ds : List PyData) (b : Addr), (w = "and" ∨ w = "or") ∧ (∀ e ∈ ds, Say tl m e) ∧ d = manyD w ds ∧ Dp K H (.ref b) (.tuple ds) ∧ SqT K H a [.str w, .ref b]) ∨
      (∃ (w : Str) (e f : PyData) (y z : V), (w = "so" ∨ w = "told") ∧ Say tl m e ∧ Say tl m f ∧ d = twoD w e f ∧ Dp K H y e ∧ Dp K H z f ∧ SqT K H a [.str w, y, z]) ∨
      (∃ (w h : Str) (e : PyData) (y : V), (w = "must" ∨ w = "may") ∧ Wd h ∧ Say tl m e ∧ d = modD w h e ∧ Dp K H y e ∧ SqT K H a [.str w, .str h, y])) := by
  cases n with
  | zero => exact hs.elim
  | succ m =>
    rcases hs with ⟨x, hx, rfl⟩ | ⟨e, h, rfl⟩ | ⟨w, ds, hw, h, rfl⟩ | ⟨w, e, f, hw, h, g, rfl⟩ | ⟨w, x, e, hw, hx, h, rfl⟩
    · cases hd with
      | tup hq ha =>
        cases ha with
        | cons h1 h2 =>
          cases h2 with
          | cons h3 h4 =>
            cases h4
            cases h1
            cases h3
            exact ⟨_, m, rfl, rfl, .inl ⟨x, hx, rfl, hq⟩⟩
    · cases hd with
      | tup hq ha =>
        cases ha with
        | cons h1 h2 =>
          cases h2 with
          | cons h3 h4 =>
            cases h4
            cases h1
            exact ⟨_, m, rfl, rfl, .inr (.inl ⟨e, _, h, rfl, h3, hq⟩)⟩
    · cases hd with
      | tup hq ha =>
        cases ha with
        | cons h1 h2 =>
          cases h2 with
          | cons h3 h4 =>
            cases h4
            cases h1
            have h3' := h3
            cases h3 with
            | tup hq2 ha2 => exact ⟨_, m, rfl, rfl, .inr (.inr (.inl ⟨w, ds, _, hw, h, rfl, h3', hq⟩))⟩
    · cases hd with
      | tup hq ha =>
        cases ha with
        | cons h1 h2 =>
          cases h2 with
          | cons h3 h4 =>
            cases h4 with
            | cons h5 h6 =>
              cases h6
              cases h1
              exact ⟨_, m, rfl, rfl, .inr (.inr (.inr (.inl ⟨w, e, f, _, _, hw.imp id (·.1), h, g, rfl, h3, h5, hq⟩)))⟩
    · cases hd with
      | tup hq ha =>
        cases ha with
        | cons h1 h2 =>
          cases h2 with
          | cons h3 h4 =>
            cases h4 with
            | cons h5 h6 =>
              cases h6
              cases h1
              cases h3
              exact ⟨_, m, rfl, rfl, .inr (.inr (.inr (.inr ⟨w, x, e, _, hw, hx, h, rfl, h5, hq⟩)))⟩
end
abbrev sInner : Stmt := topS 5
theorem scInner : FnScope ["saying", "word"] ["saying"] (defScope sInner) := ⟨rfl, rfl, rfl, by decide +kernel, rfl, by decide +kernel, by decide +kernel⟩
/-- what stands in a saying -/
def spInner (K : PySem.W.Frag) : Sp := fun vs H Q _ => ∃ (v : V) (tl : Bool) (n : Nat) (d : PyData), vs = [v] ∧ Say tl n d ∧ Dp K H v d ∧ ∀ H' b, Same H H' → Dp K H' (.ref b) (.tuple (inn d)) → Q (.ref b) H'
section
variable {P : Program} {w : World} {K : PySem.W.Frag} {mg : Str → Option Value} {base : Heap}
theorem nw (n k : Nat) (h : ¬ (HT.sIx n 0 (some (k : Int)) = 0)) {p : Prop} (c : HT.sIx n 0 (some (k : Int)) = 0 ∧ HT.sIx n n none = n) : p := absurd c.1 h
theorem ok_inner {f : Addr} {fd : FuncData} {k : Nat} (F : Fun K "inner_sayings" "inner_sayings" sInner f fd) : FnOk P w K mg base CX0 (k + 1) f fd ["saying"] (spInner K) := by
  refine F.ok scInner (fun vs H Q E h => ?_) (fun cdv A outer s H vs Q E hr h => ?_)
  · obtain ⟨v, tl, n, d, rfl, _⟩ := h
    rfl
  obtain ⟨v, tl, n, d, rfl, hs, hd, q⟩ := h
  have nd := scInner.nd
  refine ⟨_, pss_cons (ps_set (i := 1) nd rfl (.inl rfl) (pe_ix ix_tup (pv 0) pe_int (fun _ _ => rfl)))
    (pss_cons (ps_if (pt_cmpR op_eq (pv 1) pe_str (nomark _)) (pss_one (ps_ret (pe_tup pa_nil))) pss_nil)
    (pss_cons (ps_if (pt_cmpR op_in_seq (pv 1) (pe_tup (pa_cons pe_str (pa_cons pe_str pa_nil))) (by rfl)) (pss_one (ps_ret (pe_ix ix_tup (pv 0) pe_int (fun _ _ => rfl)))) pss_nil)
    (pss_cons (ps_if (pt_cmpR op_in_seq (pv 1) (pe_tup (pa_cons pe_str (pa_cons pe_str pa_nil))) (by rfl)) (pss_one (ps_ret (pe_slice sl_tupA (pv 0) (po_some pe_int) po_none))) pss_nil)
    (pss_one (ps_ret (pe_slice sl_tupA (pv 0) (po_some pe_int) po_none)))))), ?_⟩
  obtain ⟨a, m, rfl, rfl, hc⟩ := say_at hs hd
  rcases hc with ⟨x, hx, rfl, hq⟩ | ⟨e, y, he, rfl, hy, hq⟩ | ⟨w, ds, b, hw, he, rfl, hy, hq⟩ | ⟨w, e, f, y, z, hw, he, hf, rfl, hy, hz, hq⟩ | ⟨w, h, e, y, hw, hh, he, rfl, hy, hq⟩
  · refine ⟨_, rfl, a, _, 0, _, rfl, rfl, hq, rfl, _, rfl, rfl, _, rfl, ite2 (fun c => ⟨zz0, fun t nt => ?_⟩) (fun c => absurd (by decide) c)⟩
    refine q _ t (same_new nt _) ?_
    rw [inn_let]
    exact new0 nt
  · refine ⟨_, rfl, a, _, 0, _, rfl, rfl, hq, rfl, _, rfl, rfl, _, rfl, ite2 (fun c => absurd c (by decide)) (fun c => ?_)⟩
    refine ⟨_, rfl, zz2, fun u1 nu1 => ⟨u1, _, rfl, .inr (.inl (.inl upd_same)), rfl, rfl, _, rfl, ite2 (fun c => absurd c (by decide)) (fun c => ?_)⟩⟩
    refine ⟨_, rfl, zz2, fun u2 nu2 => ⟨u2, _, rfl, .inr (.inl (.inl upd_same)), rfl, rfl, _, rfl, ite2 (fun c => absurd c (by decide)) (fun c => ?_)⟩⟩
    have s2 : Same H _ := (same_new nu1 (.tup [.str "and", .str "or"])).trans (same_new nu2 (.tup [.str "must", .str "may"]))
    refine ⟨_, rfl, 1, rfl, a, _, rfl, (Tp.same s2).tup hq, nw 2 1 (by decide), fun _ t nt => ?_⟩
    refine q _ t (s2.trans (same_new nt _)) ?_
    rw [inn_not]
    exact new1 nt (dp_same s2 _ _ hy)
  · rcases hw with rfl | rfl
    · refine ⟨_, rfl, a, _, 0, _, rfl, rfl, hq, rfl, _, rfl, rfl, _, rfl, ite2 (fun c => absurd c (by decide)) (fun c => ?_)⟩
      refine ⟨_, rfl, zz2, fun u1 nu1 => ⟨u1, _, rfl, .inr (.inl (.inl upd_same)), rfl, rfl, _, rfl, ite2 (fun c => ?_) (fun c => absurd (by decide) c)⟩⟩
      have s1 := same_new nu1 (.tup [.str "and", .str "or"])
      refine ⟨_, rfl, a, _, 1, _, rfl, rfl, (Tp.same s1).tup hq, rfl, q _ b s1 ?_⟩
      rw [inn_many ds (by decide)]
      exact dp_same s1 _ _ hy
    · refine ⟨_, rfl, a, _, 0, _, rfl, rfl, hq, rfl, _, rfl, rfl, _, rfl, ite2 (fun c => absurd c (by decide)) (fun c => ?_)⟩
      refine ⟨_, rfl, zz2, fun u1 nu1 => ⟨u1, _, rfl, .inr (.inl (.inl upd_same)), rfl, rfl, _, rfl, ite2 (fun c => ?_) (fun c => absurd (by decide) c)⟩⟩
      have s1 := same_new nu1 (.tup [.str "and", .str "or"])
      refine ⟨_, rfl, a, _, 1, _, rfl, rfl, (Tp.same s1).tup hq, rfl, q _ b s1 ?_⟩
      rw [inn_many ds (by decide)]
      exact dp_same s1 _ _ hy
  · rcases hw with rfl | rfl
    · refine ⟨_, rfl, a, _, 0, _, rfl, rfl, hq, rfl, _, rfl, rfl, _, rfl, ite2 (fun c => absurd c (by decide)) (fun c => ?_)⟩
      refine ⟨_, rfl, zz2, fun u1 nu1 => ⟨u1, _, rfl, .inr (.inl (.inl upd_same)), rfl, rfl, _, rfl, ite2 (fun c => absurd c (by decide)) (fun c => ?_)⟩⟩
      refine ⟨_, rfl, zz2, fun u2 nu2 => ⟨u2, _, rfl, .inr (.inl (.inl upd_same)), rfl, rfl, _, rfl, ite2 (fun c => absurd c (by decide)) (fun c => ?_)⟩⟩
      have s2 : Same H _ := (same_new nu1 (.tup [.str "and", .str "or"])).trans (same_new nu2 (.tup [.str "must", .str "may"]))
      refine ⟨_, rfl, 1, rfl, a, _, rfl, (Tp.same s2).tup hq, nw 3 1 (by decide), fun _ t nt => ?_⟩
      refine q _ t (s2.trans (same_new nt _)) ?_
      rw [inn_two e f (by decide)]
      exact new2 nt (dp_same s2 _ _ hy) (dp_same s2 _ _ hz)
    · refine ⟨_, rfl, a, _, 0, _, rfl, rfl, hq, rfl, _, rfl, rfl, _, rfl, ite2 (fun c => absurd c (by decide)) (fun c => ?_)⟩
      refine ⟨_, rfl, zz2, fun u1 nu1 => ⟨u1, _, rfl, .inr (.inl (.inl upd_same)), rfl, rfl, _, rfl, ite2 (fun c => absurd c (by decide)) (fun c => ?_)⟩⟩
      refine ⟨_, rfl, zz2, fun u2 nu2 => ⟨u2, _, rfl, .inr (.inl (.inl upd_same)), rfl, rfl, _, rfl, ite2 (fun c => absurd c (by decide)) (fun c => ?_)⟩⟩
      have s2 : Same H _ := (same_new nu1 (.tup [.str "and", .str "or"])).trans (same_new nu2 (.tup [.str "must", .str "may"]))
      refine ⟨_, rfl, 1, rfl, a, _, rfl, (Tp.same s2).tup hq, nw 3 1 (by decide), fun _ t nt => ?_⟩
      refine q _ t (s2.trans (same_new nt _)) ?_
      rw [inn_two e f (by decide)]
      exact new2 nt (dp_same s2 _ _ hy) (dp_same s2 _ _ hz)
  · rcases hw with rfl | rfl
    · refine ⟨_, rfl, a, _, 0, _, rfl, rfl, hq, rfl, _, rfl, rfl, _, rfl, ite2 (fun c => absurd c (by decide)) (fun c => ?_)⟩
      refine ⟨_, rfl, zz2, fun u1 nu1 => ⟨u1, _, rfl, .inr (.inl (.inl upd_same)), rfl, rfl, _, rfl, ite2 (fun c => absurd c (by decide)) (fun c => ?_)⟩⟩
      refine ⟨_, rfl, zz2, fun u2 nu2 => ⟨u2, _, rfl, .inr (.inl (.inl upd_same)), rfl, rfl, _, rfl, ite2 (fun c => ?_) (fun c => absurd (by decide) c)⟩⟩
      have s2 : Same H _ := (same_new nu1 (.tup [.str "and", .str "or"])).trans (same_new nu2 (.tup [.str "must", .str "may"]))
      refine ⟨_, rfl, 2, rfl, a, _, rfl, (Tp.same s2).tup hq, nw 3 2 (by decide), fun _ t nt => ?_⟩
      refine q _ t (s2.trans (same_new nt _)) ?_
      rw [inn_mod h e (by decide)]
      exact new1 nt (dp_same s2 _ _ hy)
    · refine ⟨_, rfl, a, _, 0, _, rfl, rfl, hq, rfl, _, rfl, rfl, _, rfl, ite2 (fun c => absurd c (by decide)) (fun c => ?_)⟩
      refine ⟨_, rfl, zz2, fun u1 nu1 => ⟨u1, _, rfl, .inr (.inl (.inl upd_same)), rfl, rfl, _, rfl, ite2 (fun c => absurd c (by decide)) (fun c => ?_)⟩⟩
      refine ⟨_, rfl, zz2, fun u2 nu2 => ⟨u2, _, rfl, .inr (.inl (.inl upd_same)), rfl, rfl, _, rfl, ite2 (fun c => ?_) (fun c => absurd (by decide) c)⟩⟩
      have s2 : Same H _ := (same_new nu1 (.tup [.str "and", .str "or"])).trans (same_new nu2 (.tup [.str "must", .str "may"]))
      refine ⟨_, rfl, 2, rfl, a, _, rfl, (Tp.same s2).tup hq, nw 3 2 (by decide), fun _ t nt => ?_⟩
      refine q _ t (s2.trans (same_new nt _)) ?_
      rw [inn_mod h e (by decide)]
      exact new1 nt (dp_same s2 _ _ hy)
end
end Ms02

namespace Ms02
open PySem PySem.Spec PyProof.Rows L2
/-- a saying and all in it, however often -/
def allP : Nat → PyData → List PyData
  | 0, _ => []
  | n + 1, d => d :: (inn d).flatMap (allP n)
theorem say_inn {tl : Bool} {n : Nat} {d : PyData} (h : Say tl (n + 1) d) : ∀ e ∈ inn d, Say tl n e := by
  intro e he
  rcases h with ⟨x, hx, rfl⟩ | ⟨a, h, rfl⟩ | ⟨w, ds, hw, h, rfl⟩ | ⟨w, a, b, hw, h, g, rfl⟩ | ⟨w, x, a, hw, hx, h, rfl⟩
  · rw [inn_let] at he
    cases he
  · rw [inn_not] at he
    rw [List.mem_singleton.mp he]
    exact h
  · rw [inn_many ds hw] at he
    exact h e he
  · rw [inn_two a b (hw.imp id (·.1))] at he
    simp only [List.mem_cons, List.not_mem_nil, or_false] at he
    rcases he with rfl | rfl
    · exact h
    · exact g
  · rw [inn_mod x a hw] at he
    rw [List.mem_singleton.mp he]
    exact h
theorem allP_same {tl : Bool} : ∀ {n k : Nat} {d : PyData}, Say tl n d → n ≤ k → allP k d = allP n d
  | 0, _, _, h, _ => h.elim
  | n + 1, 0, _, _, e => absurd e (by omega)
  | n + 1, k + 1, d, h, e => by
    have hi := say_inn h
    simp only [allP]
    congr 1
    have : ∀ ds : List PyData, (∀ e ∈ ds, Say tl n e) → ds.flatMap (allP k) = ds.flatMap (allP n) := fun ds => by
      induction ds with
      | nil => intro _; rfl
      | cons f fs ih =>
        intro hf
        rw [List.flatMap_cons, List.flatMap_cons, allP_same (hf f List.mem_cons_self) (by omega), ih fun e he => hf e (List.mem_cons_of_mem _ he)]
    exact this _ hi
theorem flat_same {tl : Bool} {n k : Nat} (e : n ≤ k) : ∀ {ds : List PyData}, (∀ e ∈ ds, Say tl n e) → ds.flatMap (allP k) = ds.flatMap (allP n)
  | [], _ => rfl
  | f :: fs, h => by rw [List.flatMap_cons, List.flatMap_cons, allP_same (h f List.mem_cons_self) e, flat_same e fun e he => h e (List.mem_cons_of_mem _ he)]
/-- one step of the going -/
theorem allP_step {tl : Bool} {n : Nat} {d : PyData} (h : Say tl n d) : allP n d = d :: (inn d).flatMap (allP n) := by
  cases n with
  | zero => exact h.elim
  | succ n => rw [flat_same (by omega) (say_inn h)]; rfl
theorem inn_say {tl : Bool} {n : Nat} {d : PyData} (h : Say tl n d) : ∀ e ∈ inn d, Say tl n e := by
  cases n with
  | zero => exact h.elim
  | succ n => exact fun e he => (say_inn h e he).mono (by omega)
theorem allP_say {tl : Bool} : ∀ {n : Nat} {d : PyData}, Say tl n d → ∀ e ∈ allP n d, Say tl n e
  | 0, _, h, _, _ => h.elim
  | n + 1, d, h, e, he => by
    rcases List.mem_cons.mp he with rfl | he
    · exact h
    · obtain ⟨f, hf, he⟩ := List.mem_flatMap.mp he
      exact (allP_say (say_inn h f hf) e he).mono (by omega)
theorem allP_len : ∀ (n : Nat) (d : PyData), (allP n d).length = psz n d
  | 0, _ => rfl
  | n + 1, d => by
    simp only [allP, psz, List.length_cons, List.length_flatMap]
    rw [show (fun a => (allP n a).length) = psz n from funext (allP_len n)]
    omega
theorem flat_len {tl : Bool} {n : Nat} : ∀ {es : List PyData}, (∀ e ∈ es, Say tl n e) → es.length ≤ (es.flatMap (allP n)).length
  | [], _ => Nat.le_refl _
  | e :: es, h => by
    have h1 := flat_len fun f hf => h f (List.mem_cons_of_mem _ hf)
    rw [List.flatMap_cons, List.length_append, allP_step (h e List.mem_cons_self), List.length_cons, List.length_cons]
    omega
abbrev sEvery : Stmt := topS 6
theorem scEvery : FnScope ["saying", "found", "waiting", "part"] ["saying"] (defScope sEvery) := ⟨rfl, rfl, rfl, by decide +kernel, rfl, by decide +kernel, by decide +kernel⟩
def spEvery (K : PySem.W.Frag) : Sp := fun vs H Q _ => ∃ (v : V) (tl : Bool) (n : Nat) (d : PyData), vs = [v] ∧ Say tl n d ∧ Dp K H v d ∧ psz n d ≤ 900 ∧ ∀ H' l us ds, Same H H' → H l = none → H' l = some (.lst us) → DpAll K H' us ds → ds.Perm (allP n d) → Q (.ref l) H'
theorem sq_len {vs : List V} (h : vs.length ≤ 1000) : vs.length < sizeLine := by rw [sizeLine_eq]; omega
theorem dpAll_app {K : PySem.W.Frag} {H : Hp} : ∀ {ds es : List PyData} {us vs : List V}, DpAll K H us ds → DpAll K H vs es → DpAll K H (us ++ vs) (ds ++ es)
  | [], _, _, _, .nil, h => h
  | _ :: _, _, _, _, .cons a b, h => .cons a (dpAll_app b h)
theorem dpAll_last {K : PySem.W.Frag} {H : Hp} : ∀ {ds : List PyData} {us : List V}, DpAll K H us ds → us ≠ [] → ∃ (us' : List V) (u : V) (ds' : List PyData) (d : PyData), us = us' ++ [u] ∧ ds = ds' ++ [d] ∧ DpAll K H us' ds' ∧ Dp K H u d
  | [], _, .nil, h => absurd rfl h
  | [d], _, .cons a .nil, _ => ⟨[], _, [], d, rfl, rfl, .nil, a⟩
  | d :: e :: ds, _, .cons a (.cons b c), _ => by
    obtain ⟨us', u, ds', f, h1, h2, h3, h4⟩ := dpAll_last (K := K) (H := H) (.cons b c) (by simp)
    rw [h1, h2]
    exact ⟨_ :: us', u, d :: ds', f, rfl, rfl, .cons a h3, h4⟩
section
variable {P : Program} {w : World} {K : PySem.W.Frag} {mg : Str → Option Value} {base : Heap}
theorem ok_every {f g : Addr} {fd gd : FuncData} {k : Nat} (F : Fun K "every_part" "every_part" sEvery f fd) (D : FnOk P w K mg base CX0 k g gd ["saying"] (spInner K)) (bD : Binds K gd ["saying"] []) (kD : PySem.W.keepIn K (.ref g) = true)
    (mD : mg "inner_sayings" = some (.ref g)) : FnOk P w K mg base CX0 (k + 1) f fd ["saying"] (spEvery K) := by
  refine F.ok scEvery (fun vs H Q E h => ?_) (fun cdv A outer s H vs Q E hr h => ?_)
  · obtain ⟨v, tl, n, d, rfl, _⟩ := h
    rfl
  obtain ⟨v, tl, n, d, rfl, hs, hd, hz, q⟩ := h
  have nd := scEvery.nd
  refine ⟨_, pss_cons (ps_set (i := 1) nd rfl (.inl rfl) (pe_lst pa_nil))
    (pss_cons (ps_set (i := 2) nd rfl (.inl rfl) (pe_lst (pa_cons (pv 0) pa_nil)))
    (pss_cons (ps_while PassesOwn.never (pt_truth (pv 2) (fun _ => rfl))
      (pss_cons (ps_set (i := 3) nd rfl (.inl rfl) (pe_bm0 PySem.F.plainAttrs_list PySem.F.slot_list_pop PySem.F.type_list_pop mt_pop (pv 2)))
      (pss_cons (ps_expr (pe_bm PySem.F.plainAttrs_list PySem.F.slot_list_append PySem.F.type_list_append mt_append (pv 1) (pa_cons (pv 3) pa_nil)))
      (pss_one (ps_expr (pe_bm PySem.F.plainAttrs_list PySem.F.slot_list_extend PySem.F.type_list_extend mt_extendT (pv 2) (pa_cons (pe_call D hr (by rfl) mD kD bD .nil pass0 (pa_cons (pv 3) pa_nil)) pa_nil)))))))
    (pss_one (ps_ret (pv 1))))), ?_⟩
  refine ⟨zz0, fun fl nfl => ⟨_, rfl, zz1, fun wl nwl => ?_⟩⟩
  have fw : fl ≠ wl := ne_of_none upd_same nwl
  have s2 := (same_new nfl (.lst [])).trans (same_new nwl (.lst [v]))
  have nfl' : H wl = none := (same_new nfl (.lst [])).free nwl
  dsimp only [gName, tSeq, L2.start]
  refine while_by (fun σ H' => ∃ (y3 : Option V) (us ws : List V) (ds es : List PyData), σ = [some v, some (.ref fl), some (.ref wl), y3] ∧ H' fl = some (.lst us) ∧ H' wl = some (.lst ws) ∧ DpAll K H' us ds ∧ DpAll K H' ws es ∧ (∀ e ∈ ds, Say tl n e) ∧ (∀ e ∈ es, Say tl n e) ∧
      (ds ++ es.flatMap (allP n)).Perm (allP n d) ∧ Go [] H H')
    (fun _ H' => 901 - (match H' fl with | some (.lst us) => us.length | _ => 0))
    ⟨none, [], [v], [], [d], rfl, by rw [upd_ne fw]; exact upd_same, upd_same, .nil, .cons (dp_same s2 _ _ hd) .nil, by simp, by simpa using hs, by simp, Go.same s2⟩ (fun σ' H' hp => ?_) ?_
  · obtain ⟨y3, us, ws, ds, es, rfl, hf, hw, hdu, hdw, hsu, hsw, pm, g1⟩ := hp
    have hlen := pm.length_eq
    rw [List.length_append, allP_len] at hlen
    have lu := dpAll_len hdu
    by_cases hne : ws = []
    · subst hne
      cases hdw
      refine ⟨_, rfl, false, .inl ⟨[], SqL.of hw, rfl⟩, iteF ?_⟩
      refine ⟨_, rfl, q H' fl us ds ?_ nfl hf hdu ?_⟩
      · exact fun b o e => g1.ex b o e (by simp)
      · simpa using pm
    · obtain ⟨ws', u, es', e, rfl, rfl, hdw', hdu'⟩ := dpAll_last hdw hne
      have he := hsw e (by simp)
      refine ⟨_, rfl, true, .inl ⟨_, SqL.of hw, by simp⟩, iteT ?_⟩
      refine ⟨_, rfl, .inl ⟨rfl, _, SqL.of hw⟩, wl, _, u, rfl, rfl, hw, by simp, ?_⟩
      have h9 : ∀ x ∈ es' ++ inn e, Say tl n x := fun f hf => by
        rcases List.mem_append.mp hf with hf | hf
        · exact hsw f (List.mem_append_left _ hf)
        · exact inn_say he f hf
      have pm' : ((ds ++ [e]) ++ (es' ++ inn e).flatMap (allP n)).Perm (allP n d) := by
        refine List.Perm.trans ?_ pm
        rw [List.flatMap_append, List.flatMap_append, List.flatMap_cons, List.flatMap_nil, List.append_nil, allP_step he, List.append_assoc]
        exact List.Perm.append_left ds (List.perm_middle (l₁ := es'.flatMap (allP n))).symm
      have hl' := pm'.length_eq
      rw [List.length_append, List.length_append, allP_len] at hl'
      have fln := flat_len h9
      rw [List.length_append] at fln
      have l1 : ([e] : List PyData).length = 1 := rfl
      have lw := dpAll_len hdw'
      simp only [List.dropLast_concat]
      have t1 := Tp.lst hw (.lst ws')
      have hf1 : (upd H' wl (.lst ws')) fl = some (.lst us) := by rw [upd_ne fw]; exact hf
      have hw1 : (upd H' wl (.lst ws')) wl = some (.lst ws') := upd_same
      have gx : Go [] H (upd H' wl (.lst ws')) := g1.at nfl' _
      refine ⟨_, rfl, .inl ⟨rfl, _, SqL.of hf1⟩, _, rfl, fl, us, u, rfl, rfl, hf1, sq_len (by omega), ?_⟩
      have t2 := t1.trans (Tp.lst hf1 (.lst (us ++ [u])))
      have gy := gx.at nfl (.lst (us ++ [u]))
      have hf2 : (upd (upd H' wl (.lst ws')) fl (.lst (us ++ [u]))) fl = some (.lst (us ++ [u])) := upd_same
      have hw2 : (upd (upd H' wl (.lst ws')) fl (.lst (us ++ [u]))) wl = some (.lst ws') := by rw [upd_ne fw.symm]; exact hw1
      generalize upd (upd H' wl (.lst ws')) fl (.lst (us ++ [u])) = H2 at t2 gy hf2 hw2
      refine ⟨_, rfl, .inl ⟨rfl, _, SqL.of hw2⟩, _, rfl, u, tl, n, e, rfl, he, dp_tp t2 e u (tupD_say he) hdu', fun H3 b s3 hb => ?_⟩
      cases hb with
      | tup hq ha =>
        rename_i zs
        have lz := dpAll_len ha
        have hw3 := s3 _ _ hw2
        have hf3 := s3 _ _ hf2
        refine ⟨wl, b, ws', zs, rfl, rfl, hw3, hq, (by rw [sizeLine_eq]; omega), ?_⟩
        have t3 := t2.trans (Tp.same s3)
        have t4 := Tp.lst hw3 (.lst (ws' ++ zs))
        refine ⟨⟨_, us ++ [u], ws' ++ zs, ds ++ [e], es' ++ inn e, rfl, by rw [upd_ne fw]; exact hf3, upd_same, ?_, ?_, ?_, h9, pm', (gy.trans (Go.same s3)).at nfl' _⟩, ?_⟩
        · exact dpAll_snoc (dp_tp (t3.trans t4) e u (tupD_say he) hdu') (dpAll_tp (t3.trans t4) ds us (tupDs_say hsu) hdu)
        · refine dpAll_app (dpAll_tp (t3.trans t4) es' ws' (tupDs_say fun f hf => hsw f (List.mem_append_left _ hf)) hdw') ?_
          exact dpAll_tp t4 (inn e) zs (tupDs_say (inn_say he)) ha
        · intro f hf
          rcases List.mem_append.mp hf with hf | hf
          · exact hsu f hf
          · rw [List.mem_singleton.mp hf]
            exact he
        · rw [upd_ne fw, hf3, hf]
          simp only [List.length_append, List.length_cons, List.length_nil]
          omega
  · intro σ1 H1 Q1 Q2 hq ⟨x, hx, k, hk, h⟩
    exact ⟨x, hx, k, hk, hq _ _ h⟩
end
end Ms02

namespace Ms02
open PySem PySem.Spec PyProof.Rows L2
theorem maxOf_ge : ∀ (ys : List Int) (y : Int), y ≤ PySem.W.maxOf y ys ∧ (∀ z ∈ ys, z ≤ PySem.W.maxOf y ys)
  | [], y => ⟨Int.le_refl _, by simp⟩
  | z :: zs, y => by
    have e : PySem.W.maxOf y (z :: zs) = PySem.W.maxOf (if (decide (y < z)) = true then z else y) zs := rfl
    rw [e]
    by_cases h : y < z
    · rw [if_pos (decide_eq_true h)]
      obtain ⟨h1, h2⟩ := maxOf_ge zs z
      exact ⟨by omega, fun x hx => (List.mem_cons.mp hx).elim (fun e => by rw [e]; exact h1) (h2 x)⟩
    · rw [if_neg (by simp [h])]
      obtain ⟨h1, h2⟩ := maxOf_ge zs y
      exact ⟨h1, fun x hx => (List.mem_cons.mp hx).elim (fun e => by rw [e]; omega) (h2 x)⟩
theorem holds_num {h : Heap} {n m : Int} {t : Tok} (e : PySem.W.Holds h (.int n t) m) : n = m := by
  obtain ⟨as, r⟩ := e
  cases r
  rfl
theorem room2 {u : Nat} (h : u + 2 < cLine) : u + 1 + PySem.W.Datum.depth Int < cLine := by
  have e : PySem.W.Datum.depth Int ≤ 1 := by decide
  omega
section
variable {X : Cx}
def rMaxD0 (K : PySem.W.Frag) : List V → List V → Hp → VK → Prop := fun vs zs H Q => ∃ (a : Addr) (ns : List Int) (z : Int), vs = [.ref a] ∧ zs = [.int z] ∧ SqL K H a (ns.map V.int) ∧ ∀ m, (ns = [] → m = z) → (ns ≠ [] → m ∈ ns) → (∀ y ∈ ns, y ≤ m) → Q (.int m) H
/-- max(xs, default=z) of a list of ints -/
theorem call_maxD (hc : X.calm = true) (hu : X.A.units + 2 < cLine) : CallRK X (.builtin "max") ["default"] (rMaxD0 X.K) := by
  intro pins s σ H vs zs us ws Q I r rz h
  obtain ⟨a, ns, z, rfl, rfl, hs, q⟩ := h
  obtain ⟨its, rv, hl, _⟩ := I.list hs
  rw [Vals.ref1 r]
  obtain ⟨u, rfl, ru⟩ := vals1 rz
  obtain ⟨t, rfl⟩ := ru
  refine PySem.W.max_list_datum_default (α := Int) (xs := ns) (I.ok.hd hc) hl.isList (by simpa using PySem.W.HoldAll.of_ints rv.ints) (room2 hu) (fun e h' tk hk => ?_) fun y ys i v h' tk e hi hv hk => ?_
  · exact ⟨.int z, H, I.kept hk, ⟨_, rfl⟩, q z (fun _ => rfl) (fun h => absurd e h) (by simp [e])⟩
  · have hi' : its[i]? = some v := by rw [List.getElem?_toArray] at hi; exact hi
    have hn := rv.ints
    obtain ⟨n, tk2, rfl, hm⟩ : ∃ n tk2, v = .int n tk2 ∧ n ∈ ns := by
      have : ∀ {vs : List Value} {ns : List Int} {i : Nat} {v : Value}, IntsAre vs ns → vs[i]? = some v → ∃ n tk2, v = .int n tk2 ∧ n ∈ ns := by
        intro vs ns i v ha
        induction ha generalizing i with
        | nil => intro h; simp at h
        | cons n t _ ih =>
          intro h
          cases i with
          | zero =>
            simp at h
            exact ⟨n, t, h.symm, List.mem_cons_self⟩
          | succ i =>
            obtain ⟨m, t2, h1, h2⟩ := ih (i := i) (by simpa using h)
            exact ⟨m, t2, h1, List.mem_cons_of_mem _ h2⟩
      exact this hn hi'
    have en := holds_num hv
    refine ⟨.int n, H, I.kept hk, ⟨_, rfl⟩, q n (fun h => by rw [h] at e; cases e) (fun _ => hm) fun x hx => ?_⟩
    rw [en]
    rw [e] at hx
    obtain ⟨h1, h2⟩ := maxOf_ge ys y
    exact (List.mem_cons.mp hx).elim (fun e => by rw [e]; exact h1) (h2 x)
end
/-- how deep a saying is, gone through so deep -/
def deep : Nat → PyData → Int
  | 0, _ => 0
  | n + 1, d => 1 + ((inn d).map (deep n)).foldr max 0
theorem deep_pos : ∀ (n : Nat) (d : PyData), 0 ≤ deep n d
  | 0, _ => Int.le_refl _
  | n + 1, d => by
    have : ∀ l : List Int, 0 ≤ l.foldr max 0 := fun l => by
      induction l with
      | nil => exact Int.le_refl _
      | cons x xs ih => exact Int.le_trans ih (Int.le_max_right _ _)
    have := this ((inn d).map (deep n))
    simp only [deep]
    omega
/-- the greatest of some, 0 ahead -/
theorem max_is {l : List Int} {m : Int} (hp : ∀ x ∈ l, 0 ≤ x) (h0 : l = [] → m = 0) (h1 : l ≠ [] → m ∈ l) (h2 : ∀ x ∈ l, x ≤ m) : m = l.foldr max 0 := by
  have ge : ∀ l : List Int, (∀ x ∈ l, x ≤ l.foldr max 0) ∧ (0 ≤ l.foldr max 0) ∧ (l.foldr max 0 = 0 ∨ l.foldr max 0 ∈ l) := fun l => by
    induction l with
    | nil => exact ⟨by simp, Int.le_refl _, .inl rfl⟩
    | cons x xs ih =>
      obtain ⟨a, b, c⟩ := ih
      refine ⟨fun y hy => ?_, Int.le_trans b (Int.le_max_right _ _), ?_⟩
      · rcases List.mem_cons.mp hy with rfl | hy
        · exact Int.le_max_left _ _
        · exact Int.le_trans (a y hy) (Int.le_max_right _ _)
      · simp only [List.foldr_cons]
        rcases Int.le_total x (xs.foldr max 0) with h | h
        · rw [Int.max_eq_right h]
          exact c.imp id (List.mem_cons_of_mem _)
        · rw [Int.max_eq_left h]
          exact .inr List.mem_cons_self
  obtain ⟨a, b, c⟩ := ge l
  by_cases e : l = []
  · rw [h0 e, e]
    rfl
  · have := a m (h1 e)
    rcases c with c | c
    · have := hp m (h1 e)
      omega
    · have := h2 _ c
      omega
theorem deep_same {tl : Bool} : ∀ {n k : Nat} {d : PyData}, Say tl n d → n ≤ k → deep k d = deep n d
  | 0, _, _, h, _ => h.elim
  | n + 1, 0, _, _, e => absurd e (by omega)
  | n + 1, k + 1, d, h, e => by
    simp only [deep]
    rw [List.map_congr_left fun f hf => deep_same (say_inn h f hf) (Nat.le_of_succ_le_succ e)]
theorem same_at {H0 H : Hp} {p : Addr} (hD : H0 p = none) (s : Same H0 H) (o : HO) : Same H0 (upd H p o) := fun b u e => by
  rw [upd_ne (ne_of_none e hD)]
  exact s b u e
theorem dpAll_get {K : PySem.W.Frag} {H : Hp} : ∀ {ds : List PyData} {vs : List V} {i : Nat} {v : V}, DpAll K H vs ds → vs[i]? = some v → ∃ d, ds[i]? = some d ∧ Dp K H v d
  | [], _, _, _, .nil, h => by simp at h
  | d :: _, _, 0, _, .cons a _, h => by
    simp at h
    subst h
    exact ⟨d, rfl, a⟩
  | _ :: _, _, i + 1, _, .cons _ b, h => by
    obtain ⟨e, h1, h2⟩ := dpAll_get (i := i) b (by simpa using h)
    exact ⟨e, by simpa using h1, h2⟩
theorem sum_ge {f : PyData → Nat} : ∀ {ds : List PyData} {e : PyData}, e ∈ ds → f e ≤ (ds.map f).sum
  | d :: ds, e, h => by
    rw [List.map_cons, List.sum_cons]
    rcases List.mem_cons.mp h with rfl | h
    · omega
    · have := sum_ge (f := f) h
      omega
theorem psz_pos {tl : Bool} {n : Nat} {d : PyData} (h : Say tl n d) : 1 ≤ psz n d := by
  cases n with
  | zero => exact h.elim
  | succ n =>
    simp only [psz]
    omega
theorem sum_len {f : PyData → Nat} : ∀ {ds : List PyData}, (∀ e ∈ ds, 1 ≤ f e) → ds.length ≤ (ds.map f).sum
  | [], _ => Nat.le_refl _
  | d :: ds, h => by
    have h1 := sum_len fun e he => h e (List.mem_cons_of_mem _ he)
    have h2 := h d List.mem_cons_self
    rw [List.map_cons, List.sum_cons, List.length_cons]
    omega
abbrev sDepth : Stmt := topS 4
theorem scDepth : FnScope ["saying", "part"] ["saying"] (defScope sDepth) := ⟨rfl, rfl, rfl, by decide +kernel, rfl, by decide +kernel, by decide +kernel⟩
def spDepth (K : PySem.W.Frag) (m : Nat) : Sp := fun vs H Q _ => ∃ (v : V) (tl : Bool) (n : Nat) (d : PyData), vs = [v] ∧ Say tl n d ∧ n ≤ m ∧ Dp K H v d ∧ psz n d ≤ 900 ∧ ∀ H', Same H H' → Q (.int (deep n d)) H'
section
variable {P : Program} {w : World} {K : PySem.W.Frag} {mg : Str → Option Value} {base : Heap}
theorem ok_depth {f g : Addr} {fd gd : FuncData} {m : Nat} (F : Fun K "depth_of" "depth_of" sDepth f fd) (D : FnOk P w K mg base CX0 1 g gd ["saying"] (spInner K)) (bD : Binds K gd ["saying"] []) (kD : PySem.W.keepIn K (.ref g) = true) (mD : mg "inner_sayings" = some (.ref g))
    (G : FnOk P w K mg base CX0 (m + 1) f fd ["saying"] (spDepth K m)) (bG : Binds K fd ["saying"] []) (mG : mg "depth_of" = some (.ref f)) (mx : mg "max" = none) : FnOk P w K mg base CX0 (m + 1 + 1) f fd ["saying"] (spDepth K (m + 1)) := by
  refine F.ok scDepth (fun vs H Q E h => ?_) (fun cdv A outer s H vs Q E hr h => ?_)
  · obtain ⟨v, tl, n, d, rfl, _⟩ := h
    rfl
  obtain ⟨v, tl, n, d, rfl, hs, hm, hd, hz, q⟩ := h
  have hr1 := hr.mono (show 1 ≤ m + 1 by omega)
  have kG := F.kp
  have nd := scDepth.nd
  have hu2 : (A.deeper (envOfC "depth_of" (defScope sDepth) s.heap.objs.size f cdv)).units + 2 < cLine := by
    have := hr.units
    omega
  refine ⟨_, pss_one (ps_ret (pe_op op_add pe_int (pe_callBK (call_maxD rfl hu2) (by rfl) mx (by decide +kernel) (pa_cons (pe_lc (own := [("part", 1)]) (g := gName 1) (tt := tYes) rfl nd (pi_tup (pe_call D hr1 (by rfl) mD kD bD .nil pass0 (pa_cons (pv 0) pa_nil)))
    (blkOk_by (N := ["saying", "part"]) (sc := defScope sDepth) (by decide +kernel)) (fun _ _ _ _ _ => pg_name (i := 1) nd rfl (Or.inl rfl)) (fun _ _ _ _ _ => pts_nil) (fun _ _ _ _ _ => pe_call G hr (by rfl) mG kG bG .nil pass0 (pa_cons (pv 1) pa_nil))) pa_nil) (pk_cons pe_int pk_nil)))), ?_⟩
  refine ⟨_, rfl, v, tl, n, d, rfl, hs, hd, fun H1 b s1 hb => ?_⟩
  cases hb with
  | tup hq ha =>
    rename_i zs
    have lz := dpAll_len ha
    cases n with
    | zero => exact hs.elim
    | succ n =>
    have hi := say_inn hs
    simp only [psz] at hz
    have hle := sum_len (f := psz n) fun e he => psz_pos (hi e he)
    refine ⟨b, rfl, ⟨_, hq⟩, fun D hD => ?_⟩
    refine lc_tup (K := K) (a := b) (xs := zs) (fun j H' => H' D = some (.lst (((inn d).take j).map fun e => V.int (deep n e))) ∧ Same H1 H') ⟨upd_same, same_new hD _⟩ (fun j H' _ ⟨_, sm⟩ => (Tp.same sm).tup hq)
      (fun j x H' hx ⟨hl, sm⟩ => ?_) (fun H' ⟨hl, sm⟩ => ?_)
    · obtain ⟨e, he, hde⟩ := dpAll_get ha hx
      have me := List.mem_of_getElem? he
      refine ⟨rfl, ?_⟩
      dsimp only [tYes]
      rw [if_pos rfl]
      refine ⟨_, rfl, x, tl, n, e, rfl, hi e me, by omega, dp_same sm _ _ hde, ?_, fun H2 s2 => ⟨_, s2 _ _ hl, ?_, ?_, ?_⟩⟩
      · have := sum_ge (f := psz n) me
        omega
      · rw [List.length_map, List.length_take]
        exact small1000 (by omega)
      · rw [upd_same, List.take_add_one, he, List.map_append]
        rfl
      · exact same_at hD (sm.trans s2) _
    · rw [lz, List.take_length] at hl
      refine ⟨D, (inn d).map (deep n), 0, rfl, rfl, ?_, fun mx h0 h1 h2 => ?_⟩
      · rw [List.map_map]
        exact SqL.of hl
      · have e : mx = ((inn d).map (deep n)).foldr max 0 := by
          refine max_is (fun x hx => ?_) h0 h1 h2
          obtain ⟨y, _, rfl⟩ := List.mem_map.mp hx
          exact deep_pos n y
        refine ⟨1, mx, rfl, rfl, ?_⟩
        rw [e]
        exact q H' (s1.trans sm)
end
end Ms02

namespace Ms02
open PySem PySem.Spec PyProof.Rows L2
open PySem.SeqAt (EqAt RcLt)
/-- two rows of things, gone through up to where they differ first -/
inductive Fst (A : Around) (s : Shared) (fin : Bool) : List (Value × Value) → Bool → Prop
  | nil : Fst A s fin [] fin
  | same {p q : Value} {r : List (Value × Value)} {k : Bool} : EqAt A s p q true → Fst A s fin r k → Fst A s fin ((p, q) :: r) k
  | diff {p q : Value} {r : List (Value × Value)} {k : Bool} : EqAt A s p q false → RcLt A s p q k → Fst A s fin ((p, q) :: r) k
section
open PySem.AutoSeq1 in
theorem tup_ltF (l b : Addr) (items items2 : Array Value) (n n2 : Nat) (dd dd2 : Option Addr) (sl sl2 : Array (Option Value)) (k : Bool) :
    Meets (Builtin.«tuple.__lt__» ⟨[.ref l, .ref b], []⟩)
      (fun A R s => s.heap.get? l = some { cls := .type "tuple", dict := dd, data := .seq items n, slots := sl } ∧ s.heap.get? b = some { cls := .type "tuple", dict := dd2, data := .seq items2 n2, slots := sl2 } ∧
        Fst A.in1 s (decide (items.size < items2.size)) (items.toList.zip items2.toList) k ∧ R (.ok (.ret (.bool k))) s) :=
  .of_wp fun prog w A R s h => by
    obtain ⟨hp, g, d, tk, os⟩ := s
    obtain ⟨hl, hb, hf, h⟩ := h
    have f2 := PySem.AutoSeq1.sub_tuple_tuple
    wp_walk using wpAny_loadPart' hl, wpAny_loadPart' hb, wpAny_forIn_list _ (fun rest c s' => c.1 = none ∧ s' = ⟨hp, g, d, tk, os⟩ ∧ Fst A.in1 ⟨hp, g, d, tk, os⟩ (decide (items.size < items2.size)) rest k) _
    case turn =>
      rintro ⟨y, x⟩ rest c s' ⟨hc, rfl, hF⟩
      cases hF with
      | same he hr =>
        refine wpAny_bind (he prog w _ _ ?_)
        wp_walk
        exact ⟨rfl, rfl, hr⟩
      | diff he hr =>
        refine wpAny_bind (he prog w _ _ ?_)
        have hr' := fun E Q => hr prog w E Q
        wp_walk using hr'
        exact ⟨_, rfl, h⟩
    case fin =>
      rintro ⟨c1, c2⟩ s' ⟨hc, rfl, hF⟩
      simp only at hc
      subst hc
      cases hF
      wp_walk
      exact ⟨_, rfl, by simpa [Builtin.Tuple.tupleCompareSizes] using h⟩
    case h =>
      exact ⟨rfl, rfl, hf⟩
end
end Ms02

namespace Ms02
open PySem PySem.Spec PyProof.Rows L2
open PySem.SeqAt (EqAt RcLt)
open PySem.W (keyToks keyToksAll dataLt)
/-! ### trees of texts: their order -/
mutual
def stD : PyData → Bool
  | .str _ => true
  | .tuple ds => stDs ds
  | _ => false
def stDs : List PyData → Bool
  | [] => true
  | d :: ds => stD d && stDs ds
end
theorem stDs_cons {d : PyData} {ds : List PyData} : stDs (d :: ds) = true ↔ stD d = true ∧ stDs ds = true := by simp [stDs]
theorem toks_head (ds : List PyData) : ∃ (i : Int) (r : List (Int ⊕ List Nat)), keyToksAll ds = .inl i :: r := by
  cases ds with
  | nil => exact ⟨0, [], by simp [keyToksAll]⟩
  | cons d ds => exact ⟨1, _, by simp [keyToksAll]; rfl⟩
theorem str_ne {x y : Str} (h : x ≠ y) : x.cps.toList ≠ y.cps.toList := fun e => h (by
  cases x
  cases y
  exact congrArg _ (Array.toList_inj.mp e))
mutual
theorem tok_split : ∀ (d e : PyData), stD d = true → stD e = true → d ≠ e → ∀ r t, lexLt itemOrd (keyToks d ++ r) (keyToks e ++ t) = lexLt itemOrd (keyToks d) (keyToks e)
  | .str x, .str y, _, _, h, r, t => by
    have ne : (Sum.inr x.cps.toList : Int ⊕ List Nat) ≠ .inr y.cps.toList := fun e => str_ne (fun e => h (by rw [e])) (Sum.inr.inj e)
    simp only [keyToks, List.cons_append, List.nil_append]
    rw [PyProof.Rows.lex_diff (O := itemOrd) ne, PyProof.Rows.lex_diff (O := itemOrd) ne]
  | .str x, .tuple ys, _, _, _, r, t => by
    obtain ⟨i, l, e⟩ := toks_head ys
    simp only [keyToks, e, List.cons_append, List.nil_append]
    rw [PyProof.Rows.lex_diff (O := itemOrd) (by simp), PyProof.Rows.lex_diff (O := itemOrd) (by simp)]
  | .tuple xs, .str y, _, _, _, r, t => by
    obtain ⟨i, l, e⟩ := toks_head xs
    simp only [keyToks, e, List.cons_append, List.nil_append]
    rw [PyProof.Rows.lex_diff (O := itemOrd) (by simp), PyProof.Rows.lex_diff (O := itemOrd) (by simp)]
  | .tuple xs, .tuple ys, h1, h2, h, r, t => by
    simp only [keyToks]
    exact toks_split xs ys (by simpa [stD] using h1) (by simpa [stD] using h2) (fun e => h (by rw [e])) r t
  | .none, _, h, _, _, _, _ | .bool _, _, h, _, _, _, _ | .int _, _, h, _, _, _, _ | .list _, _, h, _, _, _, _ | .dict _, _, h, _, _, _, _ => by simp [stD] at h
  | .str _, .none, _, h, _, _, _ | .str _, .bool _, _, h, _, _, _ | .str _, .int _, _, h, _, _, _ | .str _, .list _, _, h, _, _, _ | .str _, .dict _, _, h, _, _, _ => by simp [stD] at h
  | .tuple _, .none, _, h, _, _, _ | .tuple _, .bool _, _, h, _, _, _ | .tuple _, .int _, _, h, _, _, _ | .tuple _, .list _, _, h, _, _, _ | .tuple _, .dict _, _, h, _, _, _ => by simp [stD] at h
theorem toks_split : ∀ (xs ys : List PyData), stDs xs = true → stDs ys = true → xs ≠ ys → ∀ r t, lexLt itemOrd (keyToksAll xs ++ r) (keyToksAll ys ++ t) = lexLt itemOrd (keyToksAll xs) (keyToksAll ys)
  | [], [], _, _, h, _, _ => absurd rfl h
  | [], y :: ys, _, _, _, r, t => by
    simp only [keyToksAll, List.cons_append, List.nil_append]
    rw [PyProof.Rows.lex_diff (O := itemOrd) (by simp), PyProof.Rows.lex_diff (O := itemOrd) (by simp)]
  | x :: xs, [], _, _, _, r, t => by
    simp only [keyToksAll, List.cons_append, List.nil_append]
    rw [PyProof.Rows.lex_diff (O := itemOrd) (by simp), PyProof.Rows.lex_diff (O := itemOrd) (by simp)]
  | x :: xs, y :: ys, h1, h2, h, r, t => by
    obtain ⟨a1, a2⟩ := stDs_cons.mp h1
    obtain ⟨b1, b2⟩ := stDs_cons.mp h2
    simp only [keyToksAll, List.cons_append, List.append_assoc]
    rw [PyProof.Rows.lex_self (O := itemOrd), PyProof.Rows.lex_self (O := itemOrd)]
    by_cases e : x = y
    · subst e
      rw [PySem.W.lex_pre, PySem.W.lex_pre]
      exact toks_split xs ys a2 b2 (fun e => h (by rw [e])) r t
    · rw [tok_split x y a1 b1 e, tok_split x y a1 b1 e]
end
theorem st_inj {d e : PyData} (h1 : stD d = true) (h2 : stD e = true) (h : keyToks d = keyToks e) : d = e := by
  by_cases q : d = e
  · exact q
  · have z := tok_split d e h1 h2 q [.inl 5] [.inl 7]
    rw [h, PySem.W.lex_pre, PyProof.Rows.lex_irrefl] at z
    exact absurd z (by decide)
/-- the first difference of two rows -/
theorem lt_same {x : PyData} {xs ys : List PyData} : lexLt itemOrd (keyToksAll (x :: xs)) (keyToksAll (x :: ys)) = lexLt itemOrd (keyToksAll xs) (keyToksAll ys) := by
  simp only [keyToksAll]
  rw [PyProof.Rows.lex_self (O := itemOrd), PySem.W.lex_pre]
theorem lt_diff {x y : PyData} {xs ys : List PyData} (h1 : stD x = true) (h2 : stD y = true) (e : x ≠ y) : lexLt itemOrd (keyToksAll (x :: xs)) (keyToksAll (y :: ys)) = dataLt x y := by
  simp only [keyToksAll]
  rw [PyProof.Rows.lex_self (O := itemOrd)]
  exact tok_split x y h1 h2 e _ _
theorem st_asym (a b : PyData) (h : dataLt a b = true) : dataLt b a = false := by
  rcases SrtO.bcase (dataLt b a) with q | q
  · have := PyProof.Rows.lex_trans (O := itemOrd) _ _ _ h q
    rw [PyProof.Rows.lex_irrefl] at this
    cases this
  · exact q
theorem st_tr (a b c : PyData) (h1 : dataLt b a = false) (h2 : dataLt c b = false) : dataLt c a = false := by
  rcases SrtO.bcase (dataLt c a) with q | q
  · rcases PyProof.Rows.lex_negTrans (O := itemOrd) _ (keyToks b) _ q with z | z
    · exact absurd (h2.symm.trans z) (by decide)
    · exact absurd (h1.symm.trans z) (by decide)
  · exact q
theorem st_total {a b : PyData} (s1 : stD a = true) (s2 : stD b = true) (h1 : dataLt a b = false) (h2 : dataLt b a = false) : a = b := st_inj s1 s2 (PyProof.Rows.lex_total (O := itemOrd) _ _ h1 h2)
mutual
theorem st_eqv : ∀ (d e : PyData), stD d = true → PyData.eqv d e = true → d = e
  | .str x, e, _, h => by
    cases e <;> simp [PyData.eqv] at h
    rw [h]
  | .tuple xs, e, s, h => by
    cases e <;> simp [PyData.eqv] at h
    rw [st_eqvs xs _ (by simpa [stD] using s) h]
  | .none, _, h, _ | .bool _, _, h, _ | .int _, _, h, _ | .list _, _, h, _ | .dict _, _, h, _ => by simp [stD] at h
theorem st_eqvs : ∀ (xs ys : List PyData), stDs xs = true → PyData.eqvAll xs ys = true → xs = ys
  | [], [], _, _ => rfl
  | [], _ :: _, _, h => by simp [PyData.eqvAll] at h
  | _ :: _, [], _, h => by simp [PyData.eqvAll] at h
  | x :: xs, y :: ys, s, h => by
    obtain ⟨a, b⟩ := stDs_cons.mp s
    simp only [PyData.eqvAll, Bool.and_eq_true] at h
    rw [st_eqv x y a h.1, st_eqvs xs ys b h.2]
end
mutual
theorem st_refl : ∀ (d : PyData), stD d = true → PyData.eqv d d = true
  | .str x, _ => by simp [PyData.eqv]
  | .tuple xs, s => by
    simp only [PyData.eqv]
    exact st_refls xs (by simpa [stD] using s)
  | .none, h | .bool _, h | .int _, h | .list _, h | .dict _, h => by simp [stD] at h
theorem st_refls : ∀ (xs : List PyData), stDs xs = true → PyData.eqvAll xs xs = true
  | [], _ => by simp [PyData.eqvAll]
  | x :: xs, s => by
    obtain ⟨a, b⟩ := stDs_cons.mp s
    simp only [PyData.eqvAll, st_refl x a, st_refls xs b, Bool.and_self]
end
/-! ### two that can be compared, up to where they differ first -/
mutual
def cpb : PyData → PyData → Prop
  | .str _, .str _ => True
  | .tuple xs, .tuple ys => cpbs xs ys
  | _, _ => False
def cpbs : List PyData → List PyData → Prop
  | x :: xs, y :: ys => (x = y → cpbs xs ys) ∧ (x ≠ y → cpb x y)
  | [], _ => True
  | _ :: _, [] => True
end
theorem rc_tupF {A : Around} {s : Shared} {l b : Addr} {items items2 : Array Value} {k : Bool} (hl : s.heap.IsTuple l items) (hb : s.heap.IsTuple b items2) (hu : A.units < cLine)
    (hF : Fst A.in1 s (decide (items.size < items2.size)) (items.toList.zip items2.toList) k) : RcLt A s (.ref l) (.ref b) k := fun prog w E Q h => by
  obtain ⟨⟨cls, dd, data, sl⟩, ho, hc, n, hd⟩ := id hl
  obtain ⟨⟨cls2, dd2, data2, sl2⟩, ho2, hc2, n2, hd2⟩ := id hb
  simp only at hc hd hc2 hd2
  subst hc hd hc2 hd2
  exact PySem.richCompare_meets_room (op := .Lt) ⟨_, ho, rfl⟩ ⟨_, ho2, rfl⟩ F.slot_tuple_lt F.entry_tuple_lt (F.args_tuple_lt_2 _ _) (tup_ltF l b items items2 n n2 dd dd2 sl sl2 k)
    ⟨ho, ho2, hF, show Value.bool k ≠ Value.notImplemented ∧ Q (.bool k) s from ⟨(fun x => nomatch x), h⟩⟩ hu
theorem lt0 (y : PyData) (ys : List PyData) : lexLt itemOrd (keyToksAll []) (keyToksAll (y :: ys)) = true := by
  simp only [keyToksAll]
  rw [PyProof.Rows.lex_diff (O := itemOrd) (by simp)]
  decide
theorem lt1 (y : PyData) (ys : List PyData) : lexLt itemOrd (keyToksAll (y :: ys)) (keyToksAll []) = false := by
  simp only [keyToksAll]
  rw [PyProof.Rows.lex_diff (O := itemOrd) (by simp)]
  decide
mutual
theorem rc_st : ∀ (d e : PyData) (A : Around) (s : Shared) (a b : Value) (as bs : List Addr), Reads s.heap a d as → Reads s.heap b e bs → stD d = true → stD e = true → cpb d e → d.canLay0 = true → e.canLay0 = true → A.units + min d.depth e.depth < cLine → RcLt A s a b (dataLt d e)
  | .str x, .str y, A, s, a, b, as, bs, ra, rb, _, _, _, _, _, _ => by
    cases ra
    cases rb
    intro prog w E Q hq
    rw [PySem.W.dataLt_str] at hq
    exact P.lt_str hq
  | .tuple xs, .tuple ys, A, s, a, b, as, bs, ra, rb, s1, s2, hc, l1, l2, hu => by
    cases ra with
    | @tuple l o vs n _ as₁ h1 h2 h3 h4 =>
      cases rb with
      | @tuple l' o' vs' n' _ bs₁ k1 k2 k3 k4 =>
        rw [PySem.W.dataLt_tuple]
        refine rc_tupF ⟨_, h1, h2, _, h3⟩ ⟨_, k1, k2, _, k3⟩ (PySem.SeqAt.room_here hu) ?_
        have := rc_sts xs ys A.in1 s vs.toList vs'.toList _ _ h4 k4 (by simpa [stD] using s1) (by simpa [stD] using s2) (by simpa [cpb] using hc) (by simpa [PyData.canLay0] using l1) (by simpa [PyData.canLay0] using l2) (PySem.SeqAt.room_in hu)
        simpa using this
  | .none, _, _, _, _, _, _, _, _, _, h, _, _, _, _, _ | .bool _, _, _, _, _, _, _, _, _, _, h, _, _, _, _, _ | .int _, _, _, _, _, _, _, _, _, _, h, _, _, _, _, _ | .list _, _, _, _, _, _, _, _, _, _, h, _, _, _, _, _ | .dict _, _, _, _, _, _, _, _, _, _, h, _, _, _, _, _ => by simp [stD] at h
  | .str _, .none, _, _, _, _, _, _, _, _, _, h, _, _, _, _ | .str _, .bool _, _, _, _, _, _, _, _, _, _, h, _, _, _, _ | .str _, .int _, _, _, _, _, _, _, _, _, _, h, _, _, _, _ | .str _, .list _, _, _, _, _, _, _, _, _, _, h, _, _, _, _ | .str _, .dict _, _, _, _, _, _, _, _, _, _, h, _, _, _, _ => by simp [stD] at h
  | .tuple _, .none, _, _, _, _, _, _, _, _, _, h, _, _, _, _ | .tuple _, .bool _, _, _, _, _, _, _, _, _, _, h, _, _, _, _ | .tuple _, .int _, _, _, _, _, _, _, _, _, _, h, _, _, _, _ | .tuple _, .list _, _, _, _, _, _, _, _, _, _, h, _, _, _, _ | .tuple _, .dict _, _, _, _, _, _, _, _, _, _, h, _, _, _, _ => by simp [stD] at h
  | .str _, .tuple _, _, _, _, _, _, _, _, _, _, _, h, _, _, _ => by simp [cpb] at h
  | .tuple _, .str _, _, _, _, _, _, _, _, _, _, _, h, _, _, _ => by simp [cpb] at h
theorem rc_sts : ∀ (xs ys : List PyData) (A : Around) (s : Shared) (vs ws : List Value) (as bs : List Addr), ReadsAll s.heap vs xs as → ReadsAll s.heap ws ys bs → stDs xs = true → stDs ys = true → cpbs xs ys → PyData.canLayAll0 xs = true → PyData.canLayAll0 ys = true →
    A.units + min (PyData.depthAll xs) (PyData.depthAll ys) < cLine → Fst A s (decide (vs.length < ws.length)) (vs.zip ws) (lexLt itemOrd (keyToksAll xs) (keyToksAll ys))
  | [], [], A, s, _, _, _, _, ra, rb, _, _, _, _, _, _ => by
    cases ra
    cases rb
    rw [PyProof.Rows.lex_irrefl]
    exact .nil
  | [], y :: ys, A, s, _, _, _, _, ra, rb, _, _, _, _, _, _ => by
    cases ra
    cases rb
    rw [lt0]
    simpa using Fst.nil (A := A) (s := s) (fin := true)
  | x :: xs, [], A, s, _, _, _, _, ra, rb, _, _, _, _, _, _ => by
    cases ra
    cases rb
    rw [lt1]
    exact .nil
  | x :: xs, y :: ys, A, s, _, _, _, _, ra, rb, s1, s2, hc, l1, l2, hu => by
    obtain ⟨a1, a2⟩ := stDs_cons.mp s1
    obtain ⟨b1, b2⟩ := stDs_cons.mp s2
    simp only [PyData.canLayAll0, Bool.and_eq_true] at l1 l2
    simp only [cpbs] at hc
    cases ra with
    | cons r rs =>
      cases rb with
      | cons r' rs' =>
        have he := PySem.SeqAt.eqAt_reads x y A s _ _ _ _ r r' l1.1 l2.1 (PySem.SeqAt.room_head hu)
        by_cases e : x = y
        · subst e
          rw [st_refl x a1] at he
          rw [lt_same]
          have := rc_sts xs ys A s _ _ _ _ rs rs' a2 b2 (hc.1 rfl) l1.2 l2.2 (PySem.SeqAt.room_tail hu)
          refine .same he ?_
          have hd : ∀ {v w' : Value} {vs ws : List Value}, decide ((v :: vs).length < (w' :: ws).length) = decide (vs.length < ws.length) := fun {v w' vs ws} => by simp
          rw [hd]
          exact this
        · have hf : PyData.eqv x y = false := by
            rcases SrtO.bcase (PyData.eqv x y) with q | q
            · exact absurd (st_eqv x y a1 q) e
            · exact q
          rw [hf] at he
          rw [lt_diff a1 b1 e]
          exact .diff he (rc_st x y A s _ _ _ _ r r' a1 b1 (hc.2 e) l1.1 l2.1 (PySem.SeqAt.room_head hu))
end
end Ms02

namespace Ms02
open PySem PySem.Spec PyProof.Rows L2
open PySem.SeqAt (EqAt RcLt)
open PySem.W (keyToks keyToksAll dataLt)
/-! ### sayings are such trees -/
theorem stDs_all {p : PyData → Prop} (h : ∀ d, p d → stD d = true) : ∀ {ds : List PyData}, (∀ d ∈ ds, p d) → stDs ds = true
  | [], _ => by simp [stDs]
  | d :: ds, g => stDs_cons.mpr ⟨h d (g d List.mem_cons_self), stDs_all h fun e he => g e (List.mem_cons_of_mem _ he)⟩
theorem st_say {tl : Bool} : ∀ {n : Nat} {d : PyData}, Say tl n d → stD d = true
  | 0, _, h => h.elim
  | n + 1, d, h => by
    rcases h with ⟨x, _, rfl⟩ | ⟨a, h, rfl⟩ | ⟨w, ds, hw, h, rfl⟩ | ⟨w, a, b, hw, h, g, rfl⟩ | ⟨w, x, a, hw, hx, h, rfl⟩
    · simp [letD, stD, stDs]
    · simp [notD, stD, stDs, st_say h]
    · simp [manyD, stD, stDs, stDs_all (fun d => st_say (tl := tl) (n := n)) h]
    · simp [twoD, stD, stDs, st_say h, st_say g]
    · simp [modD, stD, stDs, st_say h]
theorem lays_all {p : PyData → Prop} (h : ∀ d, p d → d.canLay0 = true) : ∀ {ds : List PyData}, (∀ d ∈ ds, p d) → PyData.canLayAll0 ds = true
  | [], _ => by simp [PyData.canLayAll0]
  | d :: ds, g => by simp [PyData.canLayAll0, h d (g d List.mem_cons_self), lays_all h fun e he => g e (List.mem_cons_of_mem _ he)]
theorem lay_say {tl : Bool} : ∀ {n : Nat} {d : PyData}, Say tl n d → d.canLay0 = true
  | 0, _, h => h.elim
  | n + 1, d, h => by
    rcases h with ⟨x, hx, rfl⟩ | ⟨a, h, rfl⟩ | ⟨w, ds, hw, h, rfl⟩ | ⟨w, a, b, hw, h, g, rfl⟩ | ⟨w, x, a, hw, hx, h, rfl⟩
    · have e : PyData.strOk "letter" = true := by decide +kernel
      simp [letD, PyData.canLay0, PyData.canLayAll0, hx.ok, e]
    · have e : PyData.strOk "not" = true := by decide +kernel
      simp [notD, PyData.canLay0, PyData.canLayAll0, lay_say h, e]
    · have e : PyData.strOk w = true := by rcases hw with rfl | rfl <;> decide +kernel
      simp [manyD, PyData.canLay0, PyData.canLayAll0, lays_all (fun d => lay_say (tl := tl) (n := n)) h, e]
    · have e : PyData.strOk w = true := by rcases hw with rfl | ⟨rfl, _⟩ <;> decide +kernel
      simp [twoD, PyData.canLay0, PyData.canLayAll0, lay_say h, lay_say g, e]
    · have e : PyData.strOk w = true := by rcases hw with rfl | rfl <;> decide +kernel
      simp [modD, PyData.canLay0, PyData.canLayAll0, lay_say h, hx.ok, e]
theorem deps_all {k : Nat} : ∀ {ds : List PyData}, (∀ d ∈ ds, d.depth ≤ k) → PyData.depthAll ds ≤ k
  | [], _ => by simp [PyData.depthAll]
  | d :: ds, g => by
    simp only [PyData.depthAll]
    exact Nat.max_le.mpr ⟨g d List.mem_cons_self, deps_all fun e he => g e (List.mem_cons_of_mem _ he)⟩
theorem dep_say {tl : Bool} : ∀ {n : Nat} {d : PyData}, Say tl n d → d.depth ≤ 2 * n
  | 0, _, h => h.elim
  | n + 1, d, h => by
    rcases h with ⟨x, hx, rfl⟩ | ⟨a, h, rfl⟩ | ⟨w, ds, hw, h, rfl⟩ | ⟨w, a, b, hw, h, g, rfl⟩ | ⟨w, x, a, hw, hx, h, rfl⟩
    · simp only [letD, PyData.depth, PyData.depthAll]
      omega
    · have := dep_say h
      simp only [notD, PyData.depth, PyData.depthAll]
      omega
    · have := deps_all fun d hd => dep_say (h d hd)
      simp only [manyD, PyData.depth, PyData.depthAll]
      omega
    · have := dep_say h
      have := dep_say g
      simp only [twoD, PyData.depth, PyData.depthAll]
      omega
    · have := dep_say h
      simp only [modD, PyData.depth, PyData.depthAll]
      omega
theorem cpb_words {w v : Str} {r t : List PyData} (h : w = v → cpbs r t) : cpb (.tuple (.str w :: r)) (.tuple (.str v :: t)) := by
  simp only [cpb, cpbs]
  exact ⟨fun q => h (by injection q), fun _ => trivial⟩
theorem cpb_a {a b : PyData} (h : cpb a b) : cpbs [a] [b] := by
  simp only [cpbs]
  exact ⟨fun _ => trivial, fun _ => h⟩
theorem cpb_b {a b : PyData} {r t : List PyData} (h : cpb a b) (g : cpbs r t) : cpbs (a :: r) (b :: t) := by
  simp only [cpbs]
  exact ⟨fun _ => g, fun _ => h⟩
theorem cpb_s (x y : Str) : cpb (.str x) (.str y) := by simp [cpb]
/-- two sayings can be compared -/
theorem cpb_say {tl tm : Bool} : ∀ {n m : Nat} {d e : PyData}, Say tl n d → Say tm m e → cpb d e
  | 0, _, _, _, h, _ => h.elim
  | _ + 1, 0, _, _, _, h => h.elim
  | n + 1, m + 1, d, e, h, k => by
    have all : ∀ ds es : List PyData, (∀ a ∈ ds, Say tl n a) → (∀ a ∈ es, Say tm m a) → cpbs ds es := fun ds => by
      induction ds with
      | nil => intro es _ _; cases es <;> simp [cpbs]
      | cons a as ih =>
        intro es ha he
        cases es with
        | nil => simp [cpbs]
        | cons b bs =>
          simp only [cpbs]
          exact ⟨fun _ => ih bs (fun x hx => ha x (List.mem_cons_of_mem _ hx)) fun x hx => he x (List.mem_cons_of_mem _ hx), fun _ => cpb_say (ha a List.mem_cons_self) (he b List.mem_cons_self)⟩
    rcases h with ⟨x, hx, rfl⟩ | ⟨a, ha, rfl⟩ | ⟨w, ds, hw, ha, rfl⟩ | ⟨w, a, b, hw0, ha, hb, rfl⟩ | ⟨w, x, a, hw, hx, ha, rfl⟩
    · rcases k with ⟨y, hy, rfl⟩ | ⟨c, hc, rfl⟩ | ⟨v, es, hv, hc, rfl⟩ | ⟨v, c, e, hv0, hc, he, rfl⟩ | ⟨v, y, c, hv, hy, hc, rfl⟩
      · exact cpb_words fun _ => cpb_a (cpb_s x y)
      · refine cpb_words fun q => ?_
        first | exact absurd q (by decide) | (rcases hw with rfl | rfl <;> exact absurd q (by decide)) | (rcases hv with rfl | rfl <;> exact absurd q (by decide)) | (rcases hw with rfl | rfl <;> rcases hv with rfl | rfl <;> exact absurd q (by decide))
      · refine cpb_words fun q => ?_
        first | exact absurd q (by decide) | (rcases hw with rfl | rfl <;> exact absurd q (by decide)) | (rcases hv with rfl | rfl <;> exact absurd q (by decide)) | (rcases hw with rfl | rfl <;> rcases hv with rfl | rfl <;> exact absurd q (by decide))
      · have hv := hv0.imp id (·.1)
        refine cpb_words fun q => ?_
        first | exact absurd q (by decide) | (rcases hw with rfl | rfl <;> exact absurd q (by decide)) | (rcases hv with rfl | rfl <;> exact absurd q (by decide)) | (rcases hw with rfl | rfl <;> rcases hv with rfl | rfl <;> exact absurd q (by decide))
      · refine cpb_words fun q => ?_
        first | exact absurd q (by decide) | (rcases hw with rfl | rfl <;> exact absurd q (by decide)) | (rcases hv with rfl | rfl <;> exact absurd q (by decide)) | (rcases hw with rfl | rfl <;> rcases hv with rfl | rfl <;> exact absurd q (by decide))
    · rcases k with ⟨y, hy, rfl⟩ | ⟨c, hc, rfl⟩ | ⟨v, es, hv, hc, rfl⟩ | ⟨v, c, e, hv0, hc, he, rfl⟩ | ⟨v, y, c, hv, hy, hc, rfl⟩
      · refine cpb_words fun q => ?_
        first | exact absurd q (by decide) | (rcases hw with rfl | rfl <;> exact absurd q (by decide)) | (rcases hv with rfl | rfl <;> exact absurd q (by decide)) | (rcases hw with rfl | rfl <;> rcases hv with rfl | rfl <;> exact absurd q (by decide))
      · exact cpb_words fun _ => cpb_a (cpb_say ha hc)
      · refine cpb_words fun q => ?_
        first | exact absurd q (by decide) | (rcases hw with rfl | rfl <;> exact absurd q (by decide)) | (rcases hv with rfl | rfl <;> exact absurd q (by decide)) | (rcases hw with rfl | rfl <;> rcases hv with rfl | rfl <;> exact absurd q (by decide))
      · have hv := hv0.imp id (·.1)
        refine cpb_words fun q => ?_
        first | exact absurd q (by decide) | (rcases hw with rfl | rfl <;> exact absurd q (by decide)) | (rcases hv with rfl | rfl <;> exact absurd q (by decide)) | (rcases hw with rfl | rfl <;> rcases hv with rfl | rfl <;> exact absurd q (by decide))
      · refine cpb_words fun q => ?_
        first | exact absurd q (by decide) | (rcases hw with rfl | rfl <;> exact absurd q (by decide)) | (rcases hv with rfl | rfl <;> exact absurd q (by decide)) | (rcases hw with rfl | rfl <;> rcases hv with rfl | rfl <;> exact absurd q (by decide))
    · rcases k with ⟨y, hy, rfl⟩ | ⟨c, hc, rfl⟩ | ⟨v, es, hv, hc, rfl⟩ | ⟨v, c, e, hv0, hc, he, rfl⟩ | ⟨v, y, c, hv, hy, hc, rfl⟩
      · refine cpb_words fun q => ?_
        first | exact absurd q (by decide) | (rcases hw with rfl | rfl <;> exact absurd q (by decide)) | (rcases hv with rfl | rfl <;> exact absurd q (by decide)) | (rcases hw with rfl | rfl <;> rcases hv with rfl | rfl <;> exact absurd q (by decide))
      · refine cpb_words fun q => ?_
        first | exact absurd q (by decide) | (rcases hw with rfl | rfl <;> exact absurd q (by decide)) | (rcases hv with rfl | rfl <;> exact absurd q (by decide)) | (rcases hw with rfl | rfl <;> rcases hv with rfl | rfl <;> exact absurd q (by decide))
      · exact cpb_words fun _ => cpb_a (by simpa [cpb] using all ds es ha hc)
      · have hv := hv0.imp id (·.1)
        refine cpb_words fun q => ?_
        first | exact absurd q (by decide) | (rcases hw with rfl | rfl <;> exact absurd q (by decide)) | (rcases hv with rfl | rfl <;> exact absurd q (by decide)) | (rcases hw with rfl | rfl <;> rcases hv with rfl | rfl <;> exact absurd q (by decide))
      · refine cpb_words fun q => ?_
        first | exact absurd q (by decide) | (rcases hw with rfl | rfl <;> exact absurd q (by decide)) | (rcases hv with rfl | rfl <;> exact absurd q (by decide)) | (rcases hw with rfl | rfl <;> rcases hv with rfl | rfl <;> exact absurd q (by decide))
    · have hw := hw0.imp id (·.1)
      rcases k with ⟨y, hy, rfl⟩ | ⟨c, hc, rfl⟩ | ⟨v, es, hv, hc, rfl⟩ | ⟨v, c, e, hv0, hc, he, rfl⟩ | ⟨v, y, c, hv, hy, hc, rfl⟩
      · refine cpb_words fun q => ?_
        first | exact absurd q (by decide) | (rcases hw with rfl | rfl <;> exact absurd q (by decide)) | (rcases hv with rfl | rfl <;> exact absurd q (by decide)) | (rcases hw with rfl | rfl <;> rcases hv with rfl | rfl <;> exact absurd q (by decide))
      · refine cpb_words fun q => ?_
        first | exact absurd q (by decide) | (rcases hw with rfl | rfl <;> exact absurd q (by decide)) | (rcases hv with rfl | rfl <;> exact absurd q (by decide)) | (rcases hw with rfl | rfl <;> rcases hv with rfl | rfl <;> exact absurd q (by decide))
      · refine cpb_words fun q => ?_
        first | exact absurd q (by decide) | (rcases hw with rfl | rfl <;> exact absurd q (by decide)) | (rcases hv with rfl | rfl <;> exact absurd q (by decide)) | (rcases hw with rfl | rfl <;> rcases hv with rfl | rfl <;> exact absurd q (by decide))
      · exact cpb_words fun _ => cpb_b (cpb_say ha hc) (cpb_a (cpb_say hb he))
      · refine cpb_words fun q => ?_
        first | exact absurd q (by decide) | (rcases hw with rfl | rfl <;> exact absurd q (by decide)) | (rcases hv with rfl | rfl <;> exact absurd q (by decide)) | (rcases hw with rfl | rfl <;> rcases hv with rfl | rfl <;> exact absurd q (by decide))
    · rcases k with ⟨y, hy, rfl⟩ | ⟨c, hc, rfl⟩ | ⟨v, es, hv, hc, rfl⟩ | ⟨v, c, e, hv0, hc, he, rfl⟩ | ⟨v, y, c, hv, hy, hc, rfl⟩
      · refine cpb_words fun q => ?_
        first | exact absurd q (by decide) | (rcases hw with rfl | rfl <;> exact absurd q (by decide)) | (rcases hv with rfl | rfl <;> exact absurd q (by decide)) | (rcases hw with rfl | rfl <;> rcases hv with rfl | rfl <;> exact absurd q (by decide))
      · refine cpb_words fun q => ?_
        first | exact absurd q (by decide) | (rcases hw with rfl | rfl <;> exact absurd q (by decide)) | (rcases hv with rfl | rfl <;> exact absurd q (by decide)) | (rcases hw with rfl | rfl <;> rcases hv with rfl | rfl <;> exact absurd q (by decide))
      · refine cpb_words fun q => ?_
        first | exact absurd q (by decide) | (rcases hw with rfl | rfl <;> exact absurd q (by decide)) | (rcases hv with rfl | rfl <;> exact absurd q (by decide)) | (rcases hw with rfl | rfl <;> rcases hv with rfl | rfl <;> exact absurd q (by decide))
      · have hv := hv0.imp id (·.1)
        refine cpb_words fun q => ?_
        first | exact absurd q (by decide) | (rcases hw with rfl | rfl <;> exact absurd q (by decide)) | (rcases hv with rfl | rfl <;> exact absurd q (by decide)) | (rcases hw with rfl | rfl <;> rcases hv with rfl | rfl <;> exact absurd q (by decide))
      · exact cpb_words fun _ => cpb_b (cpb_s x y) (cpb_a (cpb_say ha hc))
end Ms02

namespace Ms02
open PySem PySem.Spec PyProof.Rows L2
open PySem.SeqAt (EqAt RcLt)
open PySem.W (keyToks keyToksAll dataLt)
/-! ### sorted of sayings -/
theorem say_word {tl : Bool} {n : Nat} {d : PyData} (h : Say tl n d) : ∃ (x : Str) (r : List PyData), d = .tuple (.str x :: r) := by
  cases n with
  | zero => exact h.elim
  | succ n =>
    rcases h with ⟨x, hx, rfl⟩ | ⟨a, h, rfl⟩ | ⟨w, ds, hw, h, rfl⟩ | ⟨w, a, b, hw, h, g, rfl⟩ | ⟨w, x, a, hw, hx, h, rfl⟩ <;> exact ⟨_, _, rfl⟩
mutual
theorem reads_uniq {h : Heap} : ∀ (d e : PyData) (v : Value) (as bs : List Addr), stD d = true → Reads h v d as → Reads h v e bs → d = e
  | .str x, e, v, as, bs, _, r, r' => by
    cases r
    cases r'
    rfl
  | .tuple xs, e, v, as, bs, s, r, r' => by
    cases r with
    | tuple h1 h2 h3 h4 =>
      cases r' with
      | list k1 k2 k3 k4 =>
        rw [h1] at k1
        cases k1
        rw [h2] at k2
        exact absurd (Value.type.inj k2) (by decide)
      | tuple k1 k2 k3 k4 =>
        rw [h1] at k1
        cases k1
        rw [h3] at k3
        cases k3
        rw [reads_uniqs xs _ _ _ _ (by simpa [stD] using s) h4 k4]
      | dict k1 k2 k3 k4 =>
        rw [h1] at k1
        cases k1
        rw [h2] at k2
        exact absurd (Value.type.inj k2) (by decide)
  | .none, _, _, _, _, h, _, _ | .bool _, _, _, _, _, h, _, _ | .int _, _, _, _, _, h, _, _ | .list _, _, _, _, _, h, _, _ | .dict _, _, _, _, _, h, _, _ => by simp [stD] at h
theorem reads_uniqs {h : Heap} : ∀ (xs ys : List PyData) (vs : List Value) (as bs : List Addr), stDs xs = true → ReadsAll h vs xs as → ReadsAll h vs ys bs → xs = ys
  | [], _, _, _, _, _, r, r' => by
    cases r
    cases r'
    rfl
  | x :: xs, _, _, _, _, s, r, r' => by
    obtain ⟨a, b⟩ := stDs_cons.mp s
    cases r with
    | cons r1 r2 =>
      cases r' with
      | cons k1 k2 => rw [reads_uniq x _ _ _ _ a r1 k1, reads_uniqs xs _ _ _ _ b r2 k2]
end
section
variable {prog : Program} {w : World} {A : Around} {E : Value → Shared → Prop} {s : Shared}
theorem kat_fst {fin k : Bool} {Q : Bool → Shared → Prop} (q : Q k s) : ∀ {l : List (Value × Value)} {i : Nat}, 1 ≤ i → Fst A s fin l k → PySem.W.KatLex prog w A true fin Q l i s := by
  intro l i hi hF
  induction hF generalizing i with
  | nil => exact q
  | same he hr ih =>
    refine he prog w _ _ ?_
    rw [if_pos rfl]
    exact ih q (by omega)
  | diff he hr =>
    refine he prog w _ _ ?_
    rw [if_neg (by decide)]
    have e : (true && i == 0) = false := by
      simp
      omega
    rw [e, oneLt'_eq]
    simp only [Bool.false_eq_true, if_false]
    exact wpAny_bind (hr prog w _ _ (wpAny_truthy_bool q))
theorem kat_two {tl tm : Bool} {n m : Nat} {a b : Value} {d e : PyData} {as bs : List Addr} (ra : Reads s.heap a d as) (rb : Reads s.heap b e bs) (h1 : Say tl n d) (h2 : Say tm m e) (hu : A.units + min d.depth e.depth < cLine) :
    wpAny (model prog w) A (keyLt' (tuples' true) a b) (fun r s' => s' = s ∧ r = dataLt d e) (fun _ _ => False) s := by
  have c := cpb_say h1 h2
  have s1 := st_say h1
  have s2 := st_say h2
  have l1 := lay_say h1
  have l2 := lay_say h2
  obtain ⟨x, r, rfl⟩ := say_word h1
  obtain ⟨y, t, rfl⟩ := say_word h2
  simp only [stD, stDs, Bool.and_eq_true, true_and] at s1 s2
  simp only [PyData.canLay0, PyData.canLayAll0, Bool.and_eq_true] at l1 l2
  simp only [cpb, cpbs] at c
  cases ra with
  | @tuple l o vs nn _ as₁ g1 g2 g3 g4 =>
    cases rb with
    | @tuple l' o' ws mm _ bs₁ k1 k2 k3 k4 =>
      obtain ⟨vl⟩ := vs
      obtain ⟨wl⟩ := ws
      refine PySem.W.kat_lt g1 g3 k1 k3 ?_
      simp only [PyData.depth] at hu
      have hu' : A.units + min (PyData.depthAll (.str x :: r)) (PyData.depthAll (.str y :: t)) < cLine := by omega
      cases g4 with
      | cons u1 u2 =>
        cases k4 with
        | cons v1 v2 =>
          have he := PySem.SeqAt.eqAt_reads (.str x) (.str y) A s _ _ _ _ u1 v1 (by simpa [PyData.canLay0] using l1.1) (by simpa [PyData.canLay0] using l2.1) (by simp only [PyData.depth]; omega)
          cases u1
          cases v1
          rw [PySem.W.dataLt_tuple]
          by_cases q : x = y
          · subst q
            rw [lt_same]
            rw [st_refl _ (by simp [stD])] at he
            refine he prog w _ _ ?_
            rw [if_pos rfl]
            refine kat_fst ⟨rfl, rfl⟩ (Nat.le_refl _) ?_
            have hf := rc_sts r t A s _ _ _ _ u2 v2 s1 s2 (c.1 rfl) l1.2 l2.2 (PySem.SeqAt.room_tail hu')
            have hd : ∀ {v w' : Value} {vs ws : List Value}, decide ((v :: vs).toArray.size < (w' :: ws).toArray.size) = decide (vs.length < ws.length) := fun {v w' vs ws} => by simp
            rw [hd]
            exact hf
          · rw [lt_diff (by simp [stD]) (by simp [stD]) (fun z => q (by injection z)), PySem.W.dataLt_str]
            have hf : PyData.eqv (.str x) (.str y) = false := by simp [PyData.eqv, q]
            rw [hf] at he
            refine he prog w _ _ ?_
            rw [if_neg (by decide)]
            exact oneLt_str ⟨rfl, rfl⟩
/-- the words that sayings begin with -/
theorem kat_words {tl : Bool} {n : Nat} {h : Heap} : ∀ {vs : List Value}, (∀ v ∈ vs, ∃ d as, Reads h v d as ∧ Say tl n d) → ∃ fs, PySem.W.KatTups h vs fs ∧ fs.length = vs.length ∧ ∀ f ∈ fs, ∃ x t, f = Value.str x t
  | [], _ => ⟨[], .nil, rfl, by simp⟩
  | v :: vs, g => by
    obtain ⟨fs, h1, h2, h3⟩ := kat_words fun u hu => g u (List.mem_cons_of_mem _ hu)
    obtain ⟨d, as, hr, hs⟩ := g v List.mem_cons_self
    obtain ⟨x, r, rfl⟩ := say_word hs
    cases hr with
    | @tuple l o us nn _ as₁ g1 g2 g3 g4 =>
      obtain ⟨ul⟩ := us
      cases g4 with
      | cons u1 u2 =>
        cases u1
        refine ⟨_ :: fs, .cons g1 g2 g3 rfl h1, by simp [h2], fun f hf => ?_⟩
        rcases List.mem_cons.mp hf with rfl | hf
        · exact ⟨_, _, rfl⟩
        · exact h3 f hf
theorem sortable_say {tl : Bool} {n : Nat} {a : Addr} {h0 : Heap} {vs : List Value} {dec : Value → PyData} (h2 : 2 ≤ vs.length) (hs : ∀ v ∈ vs, Say tl n (dec v) ∧ ∃ as, Reads h0 v (dec v) as) (ha : ∀ b o, h0.get? b = some o → b ≠ a ∧ s.heap.get? b = some o) (hu : A.units + 2 * n < cLine) :
    SrtO.SortableO prog w A s a vs fun v u => dataLt (dec v) (dec u) := by
  intro h' keep
  have kk : ∀ b o, h0.get? b = some o → h'.get? b = some o := fun b o e => keep b o (ha b o e).1 (ha b o e).2
  have hs' : ∀ v ∈ vs, Say tl n (dec v) ∧ ∃ as, Reads h' v (dec v) as := fun v hv => ⟨(hs v hv).1, let ⟨as, r⟩ := (hs v hv).2; ⟨as, PySem.W.reads_keeps kk r⟩⟩
  obtain ⟨fs, g1, g2, g3⟩ := kat_words (h := h') (vs := vs) fun v hv => let ⟨a, as, r⟩ := hs' v hv; ⟨_, as, r, a⟩
  refine ⟨tuples' true, fun Q E hq => ?_, fun p q hp hq => ?_⟩
  · refine PySem.W.kat_kind (T := .type "str") g1 (by omega) (fun f hm => ?_) (by rfl) ?_
    · obtain ⟨x, t, rfl⟩ := g3 f hm
      exact PySem.W.Looks.now
    · have e : (Value.type "str" != Value.type "tuple") = true := by first | decide +kernel | rfl | decide
      rw [e]
      exact hq
  · obtain ⟨s1, as, r1⟩ := hs' _ hp
    obtain ⟨s2, bs, r2⟩ := hs' _ hq
    have := dep_say s1
    exact kat_two (s := { s with heap := h' }) r1 r2 s1 s2 (by omega)
end
end Ms02

namespace Ms02
open PySem PySem.Spec PyProof.Rows L2
open PySem.SeqAt (EqAt RcLt)
open PySem.W (keyToks keyToksAll dataLt)
theorem vals_at {us : List V} {its : List Value} (r : Vals us its) {i : Nat} {v : Value} (h : its[i]? = some v) : ∃ u, us[i]? = some u ∧ RelV u v := by
  have hl := r.length
  cases e : us[i]? with
  | none =>
    have := r.none_of e
    rw [this] at h
    cases h
  | some u =>
    obtain ⟨v', h1, h2⟩ := r.get e
    rw [h] at h1
    cases h1
    exact ⟨u, rfl, h2⟩
theorem dp_ref {tl : Bool} {n : Nat} {K : PySem.W.Frag} {H : Hp} {u : V} {d : PyData} (h : Say tl n d) (g : Dp K H u d) : ∃ a, u = .ref a := by
  obtain ⟨x, r, rfl⟩ := say_word h
  cases g
  exact ⟨_, rfl⟩
theorem dpAll_map {K : PySem.W.Frag} {H : Hp} {dec : Value → PyData} : ∀ {out : List Value}, (∀ v ∈ out, Dp K H (backV v) (dec v)) → DpAll K H (out.map backV) (out.map dec)
  | [], _ => .nil
  | v :: vs, h => .cons (h v List.mem_cons_self) (dpAll_map fun u hu => h u (List.mem_cons_of_mem _ hu))
section
variable {X : Cx}
/-- sorted of sayings -/
def rSortSay (K : PySem.W.Frag) : List V → Hp → VK → Prop := fun xs H Q => ∃ (a : Addr) (us : List V) (ds : List PyData) (tl : Bool) (n : Nat), xs = [.ref a] ∧ SqL K H a us ∧ DpAll K H us ds ∧ (∀ d ∈ ds, Say tl n d) ∧ n ≤ 28 ∧
  ∀ us' ds' p, DpAll K H us' ds' → ds'.Perm ds → ds'.Pairwise (fun x y => dataLt y x = false) → H p = none → Q (.ref p) (upd H p (.lst us'))
theorem call_sortSay (hu : X.A.units + 64 < cLine) : CallR X (.builtin "sorted") (rSortSay X.K) := by
  intro pins s σ H xs us0 Q I r h
  obtain ⟨a, us, ds, tl, n, rfl, hq, hd, hsay, hn, q⟩ := h
  obtain ⟨u, rfl, ru⟩ := vals1 r
  cases ru
  obtain ⟨its, rv, pl, hz⟩ := I.list hq
  have hlen := rv.length
  have hld := dpAll_len hd
  rw [hlen] at hz
  have key : ∀ v ∈ its, ∃ d ∈ ds, (∃ as, Reads s.heap v d as) ∧ Dp X.K H (backV v) d ∧ ∃ t, v = .ref t := fun v hv => by
    obtain ⟨i, hi⟩ := List.getElem?_of_mem hv
    obtain ⟨u, h1, h2⟩ := vals_at rv hi
    obtain ⟨d, h3, h4⟩ := dpAll_get hd h1
    have hm := List.mem_of_getElem? h3
    obtain ⟨t, rfl⟩ := dp_ref (hsay d hm) h4
    cases h2
    exact ⟨d, hm, Dp.reads I _ _ _ h4 rfl, h4, t, rfl⟩
  obtain ⟨dec, hdec⟩ : ∃ dec : Value → PyData, ∀ v ∈ its, dec v ∈ ds ∧ (∃ as, Reads s.heap v (dec v) as) ∧ Dp X.K H (backV v) (dec v) := by
    refine ⟨fun v => @Classical.epsilon PyData ⟨.none⟩ fun d => d ∈ ds ∧ (∃ as, Reads s.heap v d as) ∧ Dp X.K H (backV v) d, fun v hv => ?_⟩
    obtain ⟨d, h1, h2, h3, _⟩ := key v hv
    exact @Classical.epsilon_spec PyData (fun d => d ∈ ds ∧ (∃ as, Reads s.heap v d as) ∧ Dp X.K H (backV v) d) ⟨d, h1, h2, h3⟩
  have same : its.map dec = ds := by
    refine List.ext_getElem? fun i => ?_
    rw [List.getElem?_map]
    cases e : its[i]? with
    | none =>
      have h1 := List.getElem?_eq_none_iff.mp e
      exact (List.getElem?_eq_none_iff.mpr (by omega)).symm
    | some v =>
      obtain ⟨u, h1, h2⟩ := vals_at rv e
      obtain ⟨d, h3, h4⟩ := dpAll_get hd h1
      obtain ⟨as, r1⟩ := Dp.reads I _ _ _ h4 h2
      obtain ⟨h5, ⟨bs, r2⟩, _⟩ := hdec v (List.mem_of_getElem? e)
      rw [h3]
      exact congrArg some (reads_uniq _ _ _ _ _ (st_say (hsay _ h5)) r2 r1)
  have O : SrtO.Swo fun v u : Value => dataLt (dec v) (dec u) := ⟨fun x y h => st_asym _ _ h, fun x y z h1 h2 => st_tr _ _ _ h1 h2⟩
  refine SrtO.sorted_ord O pl.isList hz (fun h2 h₁ b hb kk => ?_) fun out hs hb => ?_
  · refine sortable_say (s := { s with heap := h₁ }) (h0 := s.heap) (tl := tl) (n := n) h2 (fun v hv => ⟨hsay _ (hdec v hv).1, (hdec v hv).2.1⟩) kk ?_
    show X.A.units + 1 + 1 + 2 * n < cLine
    omega
  · have hm : ∀ v ∈ out, v ∈ its := fun v hv => hb.perm.mem_iff.mp hv
    have h3 : ∀ v ∈ out, ∃ t, v = .ref t := fun v hv => let ⟨_, _, _, _, t⟩ := key v (hm v hv); t
    obtain ⟨e, hat⟩ := sortedAll_at s.heap its (List.toArray out)
    refine ⟨.ref (s.heap.objs.size + 1), upd H (s.heap.objs.size + 1) (.lst (out.map backV)), I.laid (t' := s.toks) (fun b o e => sortedAll_old e) (Nat.le_succ _) ?_, rfl, q (out.map backV) (out.map dec) _ ?_ ?_ ?_ (I.hok.fresh (Nat.le_succ _))⟩
    · exact ⟨by rw [List.length_map, hb.perm.length_eq]; exact hz, out, e, vals_back h3, hat⟩
    · exact dpAll_map fun v hv => (hdec v (hm v hv)).2.2
    · rw [← same]
      exact hb.perm.map dec
    · exact List.pairwise_map.mpr hs
end
end Ms02

namespace Ms02
open PySem PySem.Spec PyProof.Rows L2
open PySem.W (keyToks keyToksAll dataLt)
/-! ### each thing once -/
def lastIs (acc : List PyData) (d : PyData) : Bool := match acc.getLast? with | some e => PyData.eqv e d | none => false
theorem lastIs_snoc (acc : List PyData) (e d : PyData) : lastIs (acc ++ [e]) d = PyData.eqv e d := by simp [lastIs]
/-- one more, where it isn't the last one -/
def nubF (acc : List PyData) (d : PyData) : List PyData := if lastIs acc d = true then acc else acc ++ [d]
def nub (ds : List PyData) : List PyData := ds.foldl nubF []
theorem nub_snoc (ds : List PyData) (d : PyData) : nub (ds ++ [d]) = nubF (nub ds) d := by simp [nub, List.foldl_append]
theorem nub_mem : ∀ {ds : List PyData} {x : PyData}, x ∈ nub ds → x ∈ ds := fun {ds x} => by
  have : ∀ (ds acc : List PyData), x ∈ ds.foldl nubF acc → x ∈ acc ∨ x ∈ ds := fun ds => by
    induction ds with
    | nil => exact fun acc h => .inl h
    | cons d ds ih =>
      intro acc h
      rcases ih _ h with h | h
      · unfold nubF at h
        split at h
        · exact .inl h
        · rcases List.mem_append.mp h with h | h
          · exact .inl h
          · exact .inr (by rw [List.mem_singleton.mp h]; exact List.mem_cons_self)
      · exact .inr (List.mem_cons_of_mem _ h)
  intro h
  rcases this ds [] h with h | h
  · cases h
  · exact h
theorem nub_len (ds : List PyData) : (nub ds).length ≤ ds.length := by
  have : ∀ (ds acc : List PyData), (ds.foldl nubF acc).length ≤ acc.length + ds.length := fun ds => by
    induction ds with
    | nil => exact fun acc => Nat.le_refl _
    | cons d ds ih =>
      intro acc
      have h1 := ih (nubF acc d)
      have h2 : (nubF acc d).length ≤ acc.length + 1 := by
        unfold nubF
        split
        · omega
        · simp
      simp only [List.foldl_cons, List.length_cons]
      omega
  simpa [nub] using this ds []
/-- there is just one such row -/
theorem perm_sorted : ∀ {l m : List PyData}, l.Perm m → l.Pairwise (fun x y => dataLt y x = false) → m.Pairwise (fun x y => dataLt y x = false) → (∀ d ∈ l, stD d = true) → l = m
  | [], m, p, _, _, _ => (List.Perm.eq_nil p.symm).symm
  | x :: l, [], p, _, _, _ => absurd p.length_eq (by simp)
  | x :: l, y :: m, p, hl, hm, hs => by
    have e : x = y := by
      rcases List.mem_cons.mp (p.mem_iff.mp (List.mem_cons_self (a := x) (l := l))) with e | hx
      · exact e
      · rcases List.mem_cons.mp (p.mem_iff.mpr (List.mem_cons_self (a := y) (l := m))) with e | hy
        · exact e.symm
        · have h1 := (List.pairwise_cons.mp hm).1 x hx
          have h2 := (List.pairwise_cons.mp hl).1 y hy
          exact st_total (hs x List.mem_cons_self) (hs y (List.mem_cons_of_mem _ hy)) h1 h2
    subst e
    rw [perm_sorted (List.Perm.cons_inv p) (List.pairwise_cons.mp hl).2 (List.pairwise_cons.mp hm).2 fun d hd => hs d (List.mem_cons_of_mem _ hd)]
theorem at_last {α : Type} (xs : List α) (u : α) : atI (xs ++ [u]) (-1) = some u := by
  have h : -(((xs ++ [u]).length : Nat) : Int) ≤ -1 := by
    rw [List.length_append]
    simp
    omega
  have e : (-1 + (((xs ++ [u]).length : Nat) : Int)).toNat = xs.length := by
    rw [List.length_append]
    simp
    omega
  unfold atI ixN
  rw [if_neg (by decide), if_pos h, e]
  simp
theorem shaped_say {tl : Bool} {n : Nat} {d : PyData} (h : Say tl n d) (hn : n ≤ 28) : PySem.SeqAt.shaped d = true := by
  have := dep_say h
  simp only [PySem.SeqAt.shaped, lay_say h, Bool.true_and, decide_eq_true_eq]
  omega
abbrev sRising : Stmt := topS 7
theorem scRising : FnScope ["sayings", "told", "saying"] ["sayings"] (defScope sRising) := ⟨rfl, rfl, rfl, by decide +kernel, rfl, by decide +kernel, by decide +kernel⟩
def spRising (K : PySem.W.Frag) : Sp := fun vs H Q _ => ∃ (a : Addr) (us : List V) (ds : List PyData) (tl : Bool) (n : Nat), vs = [.ref a] ∧ SqL K H a us ∧ DpAll K H us ds ∧ (∀ d ∈ ds, Say tl n d) ∧ n ≤ 28 ∧ ds.length ≤ 900 ∧
  ∀ H' t ds', Same H H' → ds'.Perm ds → ds'.Pairwise (fun x y => dataLt y x = false) → Dp K H' (.ref t) (.tuple (nub ds')) → Q (.ref t) H'
section
variable {P : Program} {w : World} {K : PySem.W.Frag} {mg : Str → Option Value} {base : Heap}
theorem ok_rising {f : Addr} {fd : FuncData} {k : Nat} (F : Fun K "rising" "rising" sRising f fd) (ms : mg "sorted" = none) (mt : mg "tuple" = none) : FnOk P w K mg base CX0 (k + 1) f fd ["sayings"] (spRising K) := by
  refine F.ok scRising (fun vs H Q E h => ?_) (fun cdv A outer s H vs Q E hr h => ?_)
  · obtain ⟨a, us, ds, tl, n, rfl, _⟩ := h
    rfl
  obtain ⟨a, us, ds, tl, n, rfl, hq, hd, hs, hn, hz, q⟩ := h
  have nd := scRising.nd
  refine ⟨_, pss_cons (ps_set (i := 1) nd rfl (.inl rfl) (pe_lst pa_nil))
    (pss_cons (ps_for PassesOwn.never rfl (pi_list (pe_callB (call_sortSay hr.units) (by rfl) ms (by decide +kernel) (pa_cons (pv 0) pa_nil))) (pg_name (i := 2) nd rfl (.inl rfl))
      (pss_one (ps_if (PW.pt (pw_or (pt_not (pt_truth (pv 1) (fun _ => rfl))) (pw_or1 (pt_cmpR (op_neD hr.units) (pe_ix ix_list (pv 1) (pe_un un_neg pe_int) (fun _ _ => rfl)) (pv 2) (nomark _)))))
        (pss_one (ps_expr (pe_bm PySem.F.plainAttrs_list PySem.F.slot_list_append PySem.F.type_list_append mt_append (pv 1) (pa_cons (pv 2) pa_nil)))) pss_nil)))
    (pss_one (ps_ret (pe_callTy call_tuple_of (by rfl) mt (by decide +kernel) (pa_cons (pv 1) pa_nil))))), ?_⟩
  refine ⟨zz0, fun T nT => ?_⟩
  have s1 := same_new nT (.lst [])
  refine ⟨_, rfl, a, us, ds, tl, n, rfl, same_seq s1 hq, dpAll_same s1 _ _ hd, hs, hn, fun us' ds' p dA pm pw np => ?_⟩
  have Tp' : T ≠ p := ne_of_none upd_same np
  have hs' : ∀ d ∈ ds', Say tl n d := fun d hd => hs d (pm.mem_iff.mp hd)
  have l1 := dpAll_len dA
  have l2 := pm.length_eq
  refine ⟨p, rfl, ⟨us', SqL.of upd_same⟩, ?_⟩
  refine for_list (K := K) (a := p) (xs := us') (fun i σ' H' => ∃ (y2 : Option V) (acc : List V), σ' = [some (.ref a), some (.ref T), y2] ∧ H' T = some (.lst acc) ∧ DpAll K H' acc (nub (ds'.take i)) ∧ H' p = some (.lst us') ∧ DpAll K H' us' ds' ∧ Same H H')
    ⟨none, [], rfl, by rw [upd_ne Tp']; exact upd_same, .nil, upd_same, dpAll_same (same_new np _) _ _ dA, s1.trans (same_new np _)⟩ (fun i σ' H' _ hp => ?_) (fun i x σ' H' hx hp => ?_) (fun σ' H' hp => ?_)
  · obtain ⟨y2, acc, rfl, hT, hacc, hP, hD, sm⟩ := hp
    exact SqL.of hP
  · obtain ⟨y2, acc, rfl, hT, hacc, hP, hD, sm⟩ := hp
    obtain ⟨d, hdi, hdx⟩ := dpAll_get hD hx
    have hdi' := List.mem_of_getElem? hdi
    have nx : nub (ds'.take (i + 1)) = nubF (nub (ds'.take i)) d := by rw [List.take_add_one, hdi, Option.toList_some, nub_snoc]
    have ln := nub_len (ds'.take i)
    have lt := List.length_take_le' i ds'
    have la := dpAll_len hacc
    have hsn : ∀ e ∈ nub (ds'.take i), Say tl n e := fun e he => hs' e (List.mem_of_mem_take (nub_mem he))
    have add : lastIs (nub (ds'.take i)) d = false → ∃ (y2 : Option V) (ac : List V), [some (.ref a), some (.ref T), some x] = [some (V.ref a), some (.ref T), y2] ∧ (upd H' T (.lst (acc ++ [x]))) T = some (.lst ac) ∧
        DpAll K (upd H' T (.lst (acc ++ [x]))) ac (nub (ds'.take (i + 1))) ∧ (upd H' T (.lst (acc ++ [x]))) p = some (.lst us') ∧ DpAll K (upd H' T (.lst (acc ++ [x]))) us' ds' ∧ Same H (upd H' T (.lst (acc ++ [x]))) := fun c => by
      have tp := Tp.lst hT (.lst (acc ++ [x]))
      refine ⟨_, _, rfl, upd_same, ?_, by rw [upd_ne Tp'.symm]; exact hP, dpAll_tp tp _ _ (tupDs_say hs') hD, same_at nT sm _⟩
      rw [nx, nubF, if_neg (by rw [c]; decide)]
      exact dpAll_snoc (dp_tp tp _ _ (tupD_say (hs' d hdi')) hdx) (dpAll_tp tp _ _ (tupDs_say hsn) hacc)
    by_cases hne : acc = []
    · subst hne
      generalize hg : nub (ds'.take i) = ns at hacc add
      cases hacc
      refine ⟨_, rfl, false, .inl ⟨[], SqL.of hT, rfl⟩, iteT (iteT ?_)⟩
      exact ⟨_, rfl, .inl ⟨rfl, _, SqL.of hT⟩, _, rfl, T, [], x, rfl, rfl, hT, sq_len (by simp), add (by simp [lastIs])⟩
    · obtain ⟨ac, u, es, e, rfl, hes, hac, hue⟩ := dpAll_last hacc hne
      have he : Say tl n e := hsn e (by rw [hes]; simp)
      refine ⟨_, rfl, true, .inl ⟨_, SqL.of hT, by simp⟩, iteF ?_⟩
      refine ⟨_, rfl, 1, rfl, T, _, -1, u, rfl, rfl, SqL.of hT, at_last ac u, _, rfl, e, d, hue, hdx, shaped_say he hn, shaped_say (hs' d hdi') hn, _, rfl, ite2 (fun c => ?_) (fun c => ?_)⟩
      · refine ⟨_, rfl, .inl ⟨rfl, _, SqL.of hT⟩, _, rfl, T, _, x, rfl, rfl, hT, sq_len (by omega), add ?_⟩
        rw [hes, lastIs_snoc]
        simpa using c
      · refine ⟨_, _, rfl, hT, ?_, hP, hD, sm⟩
        have c' : PyData.eqv e d = true := by simpa using c
        rw [nx, nubF, hes, lastIs_snoc, if_pos c', ← hes]
        exact hacc
  · obtain ⟨y2, acc, rfl, hT, hacc, hP, hD, sm⟩ := hp
    rw [l1, List.take_length] at hacc
    refine ⟨_, rfl, T, acc, rfl, .inl ⟨SqL.of hT, fun t nt => ?_⟩⟩
    refine q _ t ds' (sm.trans (same_new nt _)) pm pw (.tup (.inl (.inl upd_same)) (dpAll_same (same_new nt _) _ _ hacc))
end
end Ms02

namespace Ms02
open PySem PySem.Spec PyProof.Rows L2
open PySem.W (keyToks keyToksAll dataLt)
abbrev sParts : Stmt := topS 1
theorem scParts : FnScope ["saying"] ["saying"] (defScope sParts) := ⟨rfl, rfl, rfl, by decide +kernel, rfl, by decide +kernel, by decide +kernel⟩
/-- the parts, rising -/
def spParts (K : PySem.W.Frag) : Sp := fun vs H Q _ => ∃ (v : V) (tl : Bool) (n : Nat) (d : PyData), vs = [v] ∧ Say tl n d ∧ Dp K H v d ∧ n ≤ 28 ∧ psz n d ≤ 900 ∧
  ∀ H' t ds, Same H H' → ds.Perm (allP n d) → ds.Pairwise (fun x y => dataLt y x = false) → Dp K H' (.ref t) (.tuple (nub ds)) → Q (.ref t) H'
section
variable {P : Program} {w : World} {K : PySem.W.Frag} {mg : Str → Option Value} {base : Heap}
theorem ok_parts {f g r : Addr} {fd gd rd : FuncData} {k : Nat} (F : Fun K "parts_of_saying" "parts_of_saying" sParts f fd) (D : FnOk P w K mg base CX0 k g gd ["saying"] (spEvery K)) (bD : Binds K gd ["saying"] []) (kD : PySem.W.keepIn K (.ref g) = true)
    (mD : mg "every_part" = some (.ref g)) (R : FnOk P w K mg base CX0 k r rd ["sayings"] (spRising K)) (bR : Binds K rd ["sayings"] []) (kR : PySem.W.keepIn K (.ref r) = true) (mR : mg "rising" = some (.ref r)) :
    FnOk P w K mg base CX0 (k + 1) f fd ["saying"] (spParts K) := by
  refine F.ok scParts (fun vs H Q E h => ?_) (fun cdv A outer s H vs Q E hr h => ?_)
  · obtain ⟨v, tl, n, d, rfl, _⟩ := h
    rfl
  obtain ⟨v, tl, n, d, rfl, hs, hd, hn, hz, q⟩ := h
  refine ⟨_, pss_one (ps_ret (pe_call R hr (by rfl) mR kR bR .nil pass0 (pa_cons (pe_call D hr (by rfl) mD kD bD .nil pass0 (pa_cons (pv 0) pa_nil)) pa_nil))), ?_⟩
  refine ⟨_, rfl, v, tl, n, d, rfl, hs, hd, hz, fun H1 l us ds s1 nl hl hds pm => ?_⟩
  refine ⟨l, us, ds, tl, n, rfl, SqL.of hl, hds, fun e he => allP_say hs e (pm.mem_iff.mp he), hn, ?_, fun H2 t ds' s2 pm' pw ht => q H2 t ds' (s1.trans s2) (pm'.trans pm) pw ht⟩
  rw [pm.length_eq, allP_len]
  exact hz
end
end Ms02

namespace Ms02
open PySem PySem.Spec PyProof.Rows L2
abbrev sLInner : Stmt := topS 12
abbrev sLAll : Stmt := topS 13
abbrev sLDeep : Stmt := topS 14
abbrev sLOnce : Stmt := topS 15
theorem scLInner : FnScope ["_law_s"] ["_law_s"] (defScope sLInner) := ⟨rfl, rfl, rfl, by decide +kernel, rfl, by decide +kernel, by decide +kernel⟩
/-- what stands in a saying, as a list -/
def spLInner (K : PySem.W.Frag) : Sp := fun vs H Q _ => ∃ (v : V) (tl : Bool) (n : Nat) (d : PyData), vs = [v] ∧ Say tl n d ∧ Dp K H v d ∧ ∀ H' l us, Same H H' → H l = none → H' l = some (.lst us) → DpAll K H' us (inn d) → Q (.ref l) H'
section
variable {P : Program} {w : World} {K : PySem.W.Frag} {mg : Str → Option Value} {base : Heap}
theorem ok_linner {f : Addr} {fd : FuncData} {k : Nat} (F : Fun K "_law_inner" "_law_inner" sLInner f fd) (ml : mg "list" = none) : FnOk P w K mg base CX0 (k + 1) f fd ["_law_s"] (spLInner K) := by
  refine F.ok scLInner (fun vs H Q E h => ?_) (fun cdv A outer s H vs Q E hr h => ?_)
  · obtain ⟨v, tl, n, d, rfl, _⟩ := h
    rfl
  obtain ⟨v, tl, n, d, rfl, hs, hd, q⟩ := h
  refine ⟨_, pss_cons (ps_if (pt_cmpR op_eq (pe_ix ix_tup (pv 0) pe_int (fun _ _ => rfl)) pe_str (nomark _)) (pss_one (ps_ret (pe_lst pa_nil))) pss_nil)
    (pss_cons (ps_if (pt_cmpR op_in_seq (pe_ix ix_tup (pv 0) pe_int (fun _ _ => rfl)) (pe_tup (pa_cons pe_str (pa_cons pe_str pa_nil))) (by rfl)) (pss_one (ps_ret (pe_callTy call_list_of (by rfl) ml (by decide +kernel) (pa_cons (pe_ix ix_tup (pv 0) pe_int (fun _ _ => rfl)) pa_nil)))) pss_nil)
    (pss_one (ps_ret (pe_ifExp (pt_cmpR op_in_seq (pe_ix ix_tup (pv 0) pe_int (fun _ _ => rfl)) (pe_tup (pa_cons pe_str (pa_cons pe_str pa_nil))) (by rfl))
      (pe_callTy call_list_of (by rfl) ml (by decide +kernel) (pa_cons (pe_slice sl_tupA (pv 0) (po_some pe_int) po_none) pa_nil)) (pe_callTy call_list_of (by rfl) ml (by decide +kernel) (pa_cons (pe_slice sl_tupA (pv 0) (po_some pe_int) po_none) pa_nil)))))), ?_⟩
  obtain ⟨a, m, rfl, rfl, hc⟩ := say_at hs hd
  rcases hc with ⟨x, hx, rfl, hq⟩ | ⟨e, y, he, rfl, hy, hq⟩ | ⟨w, ds, b, hw, he, rfl, hy, hq⟩ | ⟨w, e, f, y, z, hw, he, hf, rfl, hy, hz, hq⟩ | ⟨w, h, e, y, hw, hh, he, rfl, hy, hq⟩
  · refine ⟨_, rfl, a, _, 0, _, rfl, rfl, hq, rfl, rfl, _, rfl, ite2 (fun c => ⟨zz0, fun t nt => ?_⟩) (fun c => absurd (by decide) c)⟩
    exact q _ t [] (same_new nt _) nt upd_same (by rw [inn_let]; exact .nil)
  · refine ⟨_, rfl, a, _, 0, _, rfl, rfl, hq, rfl, rfl, _, rfl, ite2 (fun c => absurd c (by decide)) (fun c => ?_)⟩
    refine ⟨_, rfl, a, _, 0, _, rfl, rfl, hq, rfl, zz2, fun u1 nu1 => ⟨u1, _, rfl, .inr (.inl (.inl upd_same)), rfl, rfl, _, rfl, ite2 (fun c => absurd c (by decide)) (fun c => ?_)⟩⟩
    have s1 : Same H _ := same_new nu1 (.tup [.str "and", .str "or"])
    refine ⟨_, rfl, a, _, 0, _, rfl, rfl, (Tp.same s1).tup hq, rfl, zz2, fun u2 nu2 => ⟨u2, _, rfl, .inr (.inl (.inl upd_same)), rfl, rfl, _, rfl, ite2 (fun c => absurd c (by decide)) (fun c => ?_)⟩⟩
    have s2 : Same H _ := s1.trans (same_new nu2 (.tup [.str "must", .str "may"]))
    refine ⟨_, rfl, 1, rfl, a, _, rfl, (Tp.same s2).tup hq, nw 2 1 (by decide), fun _ t nt => ?_⟩
    have s3 : Same H _ := s2.trans (same_new nt (.tup [y]))
    refine ⟨t, _, rfl, .inr (.inl (.inl upd_same)), fun l nl => ?_⟩
    have s4 : Same H _ := s3.trans (same_new nl (.lst [y]))
    refine q _ l _ s4 (s3.free nl) upd_same ?_
    rw [inn_not]
    exact .cons (dp_same s4 _ _ hy) .nil
  · rcases hw with rfl | rfl
    · refine ⟨_, rfl, a, _, 0, _, rfl, rfl, hq, rfl, rfl, _, rfl, ite2 (fun c => absurd c (by decide)) (fun c => ?_)⟩
      refine ⟨_, rfl, a, _, 0, _, rfl, rfl, hq, rfl, zz2, fun u1 nu1 => ⟨u1, _, rfl, .inr (.inl (.inl upd_same)), rfl, rfl, _, rfl, ite2 (fun c => ?_) (fun c => absurd (by decide) c)⟩⟩
      have s1 : Same H _ := same_new nu1 (.tup [.str "and", .str "or"])
      cases hy with
      | tup hqb hab =>
        rename_i zs
        refine ⟨_, rfl, a, _, 1, _, rfl, rfl, (Tp.same s1).tup hq, rfl, b, _, rfl, .inr ((Tp.same s1).tup hqb), fun l nl => ?_⟩
        have s4 : Same H _ := s1.trans (same_new nl (.lst zs))
        refine q _ l _ s4 (s1.free nl) upd_same ?_
        rw [inn_many ds (by decide)]
        exact dpAll_same s4 _ _ hab
    · refine ⟨_, rfl, a, _, 0, _, rfl, rfl, hq, rfl, rfl, _, rfl, ite2 (fun c => absurd c (by decide)) (fun c => ?_)⟩
      refine ⟨_, rfl, a, _, 0, _, rfl, rfl, hq, rfl, zz2, fun u1 nu1 => ⟨u1, _, rfl, .inr (.inl (.inl upd_same)), rfl, rfl, _, rfl, ite2 (fun c => ?_) (fun c => absurd (by decide) c)⟩⟩
      have s1 : Same H _ := same_new nu1 (.tup [.str "and", .str "or"])
      cases hy with
      | tup hqb hab =>
        rename_i zs
        refine ⟨_, rfl, a, _, 1, _, rfl, rfl, (Tp.same s1).tup hq, rfl, b, _, rfl, .inr ((Tp.same s1).tup hqb), fun l nl => ?_⟩
        have s4 : Same H _ := s1.trans (same_new nl (.lst zs))
        refine q _ l _ s4 (s1.free nl) upd_same ?_
        rw [inn_many ds (by decide)]
        exact dpAll_same s4 _ _ hab
  · rcases hw with rfl | rfl
    · refine ⟨_, rfl, a, _, 0, _, rfl, rfl, hq, rfl, rfl, _, rfl, ite2 (fun c => absurd c (by decide)) (fun c => ?_)⟩
      refine ⟨_, rfl, a, _, 0, _, rfl, rfl, hq, rfl, zz2, fun u1 nu1 => ⟨u1, _, rfl, .inr (.inl (.inl upd_same)), rfl, rfl, _, rfl, ite2 (fun c => absurd c (by decide)) (fun c => ?_)⟩⟩
      have s1 : Same H _ := same_new nu1 (.tup [.str "and", .str "or"])
      refine ⟨_, rfl, a, _, 0, _, rfl, rfl, (Tp.same s1).tup hq, rfl, zz2, fun u2 nu2 => ⟨u2, _, rfl, .inr (.inl (.inl upd_same)), rfl, rfl, _, rfl, ite2 (fun c => absurd c (by decide)) (fun c => ?_)⟩⟩
      have s2 : Same H _ := s1.trans (same_new nu2 (.tup [.str "must", .str "may"]))
      refine ⟨_, rfl, 1, rfl, a, _, rfl, (Tp.same s2).tup hq, nw 3 1 (by decide), fun _ t nt => ?_⟩
      have s3 : Same H _ := s2.trans (same_new nt (.tup [y, z]))
      refine ⟨t, _, rfl, .inr (.inl (.inl upd_same)), fun l nl => ?_⟩
      have s4 : Same H _ := s3.trans (same_new nl (.lst [y, z]))
      refine q _ l _ s4 (s3.free nl) upd_same ?_
      rw [inn_two e f (by decide)]
      exact .cons (dp_same s4 _ _ hy) (.cons (dp_same s4 _ _ hz) .nil)
    · refine ⟨_, rfl, a, _, 0, _, rfl, rfl, hq, rfl, rfl, _, rfl, ite2 (fun c => absurd c (by decide)) (fun c => ?_)⟩
      refine ⟨_, rfl, a, _, 0, _, rfl, rfl, hq, rfl, zz2, fun u1 nu1 => ⟨u1, _, rfl, .inr (.inl (.inl upd_same)), rfl, rfl, _, rfl, ite2 (fun c => absurd c (by decide)) (fun c => ?_)⟩⟩
      have s1 : Same H _ := same_new nu1 (.tup [.str "and", .str "or"])
      refine ⟨_, rfl, a, _, 0, _, rfl, rfl, (Tp.same s1).tup hq, rfl, zz2, fun u2 nu2 => ⟨u2, _, rfl, .inr (.inl (.inl upd_same)), rfl, rfl, _, rfl, ite2 (fun c => absurd c (by decide)) (fun c => ?_)⟩⟩
      have s2 : Same H _ := s1.trans (same_new nu2 (.tup [.str "must", .str "may"]))
      refine ⟨_, rfl, 1, rfl, a, _, rfl, (Tp.same s2).tup hq, nw 3 1 (by decide), fun _ t nt => ?_⟩
      have s3 : Same H _ := s2.trans (same_new nt (.tup [y, z]))
      refine ⟨t, _, rfl, .inr (.inl (.inl upd_same)), fun l nl => ?_⟩
      have s4 : Same H _ := s3.trans (same_new nl (.lst [y, z]))
      refine q _ l _ s4 (s3.free nl) upd_same ?_
      rw [inn_two e f (by decide)]
      exact .cons (dp_same s4 _ _ hy) (.cons (dp_same s4 _ _ hz) .nil)
  · rcases hw with rfl | rfl
    · refine ⟨_, rfl, a, _, 0, _, rfl, rfl, hq, rfl, rfl, _, rfl, ite2 (fun c => absurd c (by decide)) (fun c => ?_)⟩
      refine ⟨_, rfl, a, _, 0, _, rfl, rfl, hq, rfl, zz2, fun u1 nu1 => ⟨u1, _, rfl, .inr (.inl (.inl upd_same)), rfl, rfl, _, rfl, ite2 (fun c => absurd c (by decide)) (fun c => ?_)⟩⟩
      have s1 : Same H _ := same_new nu1 (.tup [.str "and", .str "or"])
      refine ⟨_, rfl, a, _, 0, _, rfl, rfl, (Tp.same s1).tup hq, rfl, zz2, fun u2 nu2 => ⟨u2, _, rfl, .inr (.inl (.inl upd_same)), rfl, rfl, _, rfl, ite2 (fun c => ?_) (fun c => absurd (by decide) c)⟩⟩
      have s2 : Same H _ := s1.trans (same_new nu2 (.tup [.str "must", .str "may"]))
      refine ⟨_, rfl, 2, rfl, a, _, rfl, (Tp.same s2).tup hq, nw 3 2 (by decide), fun _ t nt => ?_⟩
      have s3 : Same H _ := s2.trans (same_new nt (.tup [y]))
      refine ⟨t, _, rfl, .inr (.inl (.inl upd_same)), fun l nl => ?_⟩
      have s4 : Same H _ := s3.trans (same_new nl (.lst [y]))
      refine q _ l _ s4 (s3.free nl) upd_same ?_
      rw [inn_mod h e (by decide)]
      exact .cons (dp_same s4 _ _ hy) .nil
    · refine ⟨_, rfl, a, _, 0, _, rfl, rfl, hq, rfl, rfl, _, rfl, ite2 (fun c => absurd c (by decide)) (fun c => ?_)⟩
      refine ⟨_, rfl, a, _, 0, _, rfl, rfl, hq, rfl, zz2, fun u1 nu1 => ⟨u1, _, rfl, .inr (.inl (.inl upd_same)), rfl, rfl, _, rfl, ite2 (fun c => absurd c (by decide)) (fun c => ?_)⟩⟩
      have s1 : Same H _ := same_new nu1 (.tup [.str "and", .str "or"])
      refine ⟨_, rfl, a, _, 0, _, rfl, rfl, (Tp.same s1).tup hq, rfl, zz2, fun u2 nu2 => ⟨u2, _, rfl, .inr (.inl (.inl upd_same)), rfl, rfl, _, rfl, ite2 (fun c => ?_) (fun c => absurd (by decide) c)⟩⟩
      have s2 : Same H _ := s1.trans (same_new nu2 (.tup [.str "must", .str "may"]))
      refine ⟨_, rfl, 2, rfl, a, _, rfl, (Tp.same s2).tup hq, nw 3 2 (by decide), fun _ t nt => ?_⟩
      have s3 : Same H _ := s2.trans (same_new nt (.tup [y]))
      refine ⟨t, _, rfl, .inr (.inl (.inl upd_same)), fun l nl => ?_⟩
      have s4 : Same H _ := s3.trans (same_new nl (.lst [y]))
      refine q _ l _ s4 (s3.free nl) upd_same ?_
      rw [inn_mod h e (by decide)]
      exact .cons (dp_same s4 _ _ hy) .nil
end
end Ms02

namespace Ms02
open PySem PySem.Spec PyProof.Rows L2
open PySem.W (keyToks keyToksAll dataLt)
theorem scLAll : FnScope ["_law_s", "_law_found", "_law_one"] ["_law_s"] (defScope sLAll) := ⟨rfl, rfl, rfl, by decide +kernel, rfl, by decide +kernel, by decide +kernel⟩
def spLAll (K : PySem.W.Frag) (m : Nat) : Sp := fun vs H Q _ => ∃ (v : V) (tl : Bool) (n : Nat) (d : PyData), vs = [v] ∧ Say tl n d ∧ n ≤ m ∧ Dp K H v d ∧ psz n d ≤ 900 ∧ ∀ H' l us, Same H H' → H l = none → H' l = some (.lst us) → DpAll K H' us (allP n d) → Q (.ref l) H'
theorem take_flat {f : PyData → List PyData} (ds : List PyData) (i : Nat) : ((ds.take i).flatMap f).length ≤ (ds.flatMap f).length := by
  have e : ds.flatMap f = (ds.take i ++ ds.drop i).flatMap f := by rw [List.take_append_drop]
  rw [e, List.flatMap_append, List.length_append]
  omega
section
variable {P : Program} {w : World} {K : PySem.W.Frag} {mg : Str → Option Value} {base : Heap}
theorem ok_lall {f g : Addr} {fd gd : FuncData} {m : Nat} (F : Fun K "_law_all_parts" "_law_all_parts" sLAll f fd) (D : FnOk P w K mg base CX0 1 g gd ["_law_s"] (spLInner K)) (bD : Binds K gd ["_law_s"] []) (kD : PySem.W.keepIn K (.ref g) = true) (mD : mg "_law_inner" = some (.ref g))
    (G : FnOk P w K mg base CX0 (m + 1) f fd ["_law_s"] (spLAll K m)) (bG : Binds K fd ["_law_s"] []) (mG : mg "_law_all_parts" = some (.ref f)) : FnOk P w K mg base CX0 (m + 1 + 1) f fd ["_law_s"] (spLAll K (m + 1)) := by
  refine F.ok scLAll (fun vs H Q E h => ?_) (fun cdv A outer s H vs Q E hr h => ?_)
  · obtain ⟨v, tl, n, d, rfl, _⟩ := h
    rfl
  obtain ⟨v, tl, n, d, rfl, hs, hm, hd, hz, q⟩ := h
  have hr1 := hr.mono (show 1 ≤ m + 1 by omega)
  have kG := F.kp
  have nd := scLAll.nd
  refine ⟨_, pss_cons (ps_set (i := 1) nd rfl (.inl rfl) (pe_lst (pa_cons (pv 0) pa_nil)))
    (pss_cons (ps_for PassesOwn.never rfl (pi_list (pe_call D hr1 (by rfl) mD kD bD .nil pass0 (pa_cons (pv 0) pa_nil))) (pg_name (i := 2) nd rfl (.inl rfl))
      (pss_one (ps_set (i := 1) nd rfl (.inl rfl) (pe_op op_cat (pv 1) (pe_call G hr (by rfl) mG kG bG .nil pass0 (pa_cons (pv 2) pa_nil))))))
    (pss_one (ps_ret (pv 1)))), ?_⟩
  refine ⟨_, rfl, zz1, fun f0 nf0 => ?_⟩
  have s1 := same_new nf0 (.lst [v])
  refine ⟨_, rfl, v, tl, n, d, rfl, hs, dp_same s1 _ _ hd, fun H1 l us s2 nl hl hus => ⟨l, rfl, ⟨us, SqL.of hl⟩, ?_⟩⟩
  cases n with
  | zero => exact hs.elim
  | succ n =>
  have hi := say_inn hs
  have hle := allP_len (n + 1) d
  simp only [allP, List.length_cons] at hle
  refine for_list (K := K) (a := l) (xs := us) (fun i σ' H' => ∃ (y2 : Option V) (fl : Addr) (acc : List V), σ' = [some v, some (.ref fl), y2] ∧ H fl = none ∧ H' fl = some (.lst acc) ∧ DpAll K H' acc (d :: ((inn d).take i).flatMap (allP n)) ∧ Same H1 H')
    ⟨none, f0, [v], rfl, nf0, s2 _ _ upd_same, .cons (dp_same (s1.trans s2) _ _ hd) .nil, Same.refl H1⟩ (fun i σ' H' _ hp => ?_) (fun i x σ' H' hx hp => ?_) (fun σ' H' hp => ?_)
  · obtain ⟨y2, fl, acc, rfl, nfl, hf, hacc, sm⟩ := hp
    exact same_seq sm (SqL.of hl)
  · obtain ⟨y2, fl, acc, rfl, nfl, hf, hacc, sm⟩ := hp
    obtain ⟨e, he, hde⟩ := dpAll_get hus hx
    have me := List.mem_of_getElem? he
    have hpe : psz n e ≤ 900 := by
      have h1 := sum_ge (f := psz n) me
      simp only [psz] at hz
      omega
    refine ⟨_, rfl, _, rfl, x, tl, n, e, rfl, hi e me, by omega, dp_same sm _ _ hde, hpe, fun H2 l2 zs s3 nl2 hl2 hzs => ?_⟩
    have la := dpAll_len hacc
    have lz := dpAll_len hzs
    have lt := take_flat (f := allP n) (inn d) i
    rw [allP_len] at lz
    rw [List.length_cons] at la
    refine ⟨fl, l2, acc, zs, rfl, rfl, s3 _ _ hf, hl2, by rw [sizeLine_eq]; omega, fun t nt => ?_⟩
    refine ⟨_, t, _, rfl, ?_, upd_same, ?_, (sm.trans s3).trans (same_new nt _)⟩
    · exact (s1.trans (s2.trans (sm.trans s3))).free nt
    · have e2 : d :: ((inn d).take (i + 1)).flatMap (allP n) = (d :: ((inn d).take i).flatMap (allP n)) ++ allP n e := by
        rw [List.take_add_one, he, Option.toList_some, List.flatMap_append, List.flatMap_cons, List.flatMap_nil, List.append_nil, List.cons_append]
      rw [e2]
      exact dpAll_same (same_new nt _) _ _ (dpAll_app (dpAll_same s3 _ _ hacc) hzs)
  · obtain ⟨y2, fl, acc, rfl, nfl, hf, hacc, sm⟩ := hp
    rw [dpAll_len hus, List.take_length] at hacc
    exact ⟨_, rfl, q H' fl acc ((s1.trans s2).trans sm) nfl hf hacc⟩
end
end Ms02

namespace Ms02
open PySem PySem.Spec PyProof.Rows L2
open PySem.W (keyToks keyToksAll dataLt)
theorem scLDeep : FnScope ["_law_s", "_law_one"] ["_law_s"] (defScope sLDeep) := ⟨rfl, rfl, rfl, by decide +kernel, rfl, by decide +kernel, by decide +kernel⟩
theorem max_is0 {l : List Int} {m : Int} (hp : ∀ x ∈ l, 0 ≤ x) (h1 : m ∈ 0 :: l) (h2 : ∀ x ∈ (0 :: l), x ≤ m) : m = l.foldr max 0 := by
  by_cases e : l = []
  · subst e
    simpa using h1
  · refine max_is hp (fun z => absurd z e) (fun _ => ?_) fun x hx => h2 x (List.mem_cons_of_mem _ hx)
    rcases List.mem_cons.mp h1 with rfl | h
    · cases l with
      | nil => exact absurd rfl e
      | cons a l =>
        have b := h2 a (by simp)
        have c := hp a (by simp)
        have e : a = 0 := by omega
        rw [e]
        exact List.mem_cons_self
    · exact h
section
variable {P : Program} {w : World} {K : PySem.W.Frag} {mg : Str → Option Value} {base : Heap}
theorem ok_ldeep {f g : Addr} {fd gd : FuncData} {m : Nat} (F : Fun K "_law_deep" "_law_deep" sLDeep f fd) (D : FnOk P w K mg base CX0 1 g gd ["_law_s"] (spLInner K)) (bD : Binds K gd ["_law_s"] []) (kD : PySem.W.keepIn K (.ref g) = true) (mD : mg "_law_inner" = some (.ref g))
    (G : FnOk P w K mg base CX0 (m + 1) f fd ["_law_s"] (spDepth K m)) (bG : Binds K fd ["_law_s"] []) (mG : mg "_law_deep" = some (.ref f)) (mx : mg "max" = none) : FnOk P w K mg base CX0 (m + 1 + 1) f fd ["_law_s"] (spDepth K (m + 1)) := by
  refine F.ok scLDeep (fun vs H Q E h => ?_) (fun cdv A outer s H vs Q E hr h => ?_)
  · obtain ⟨v, tl, n, d, rfl, _⟩ := h
    rfl
  obtain ⟨v, tl, n, d, rfl, hs, hm, hd, hz, q⟩ := h
  have hr1 := hr.mono (show 1 ≤ m + 1 by omega)
  have kG := F.kp
  have nd := scLDeep.nd
  refine ⟨_, pss_one (ps_ret (pe_op op_add pe_int (pe_callB (cr_max rfl) (by rfl) mx (by decide +kernel) (pa_cons (pe_op op_cat (pe_lst (pa_cons pe_int pa_nil)) (pe_lc (own := [("_law_one", 1)]) (g := gName 1) (tt := tYes) rfl nd (pi_list (pe_call D hr1 (by rfl) mD kD bD .nil pass0 (pa_cons (pv 0) pa_nil)))
    (blkOk_by (N := ["_law_s", "_law_one"]) (sc := defScope sLDeep) (by decide +kernel)) (fun _ _ _ _ _ => pg_name (i := 1) nd rfl (Or.inl rfl)) (fun _ _ _ _ _ => pts_nil) (fun _ _ _ _ _ => pe_call G hr (by rfl) mG kG bG .nil pass0 (pa_cons (pv 1) pa_nil)))) pa_nil)))), ?_⟩
  refine ⟨zz1, fun z0 nz0 => ?_⟩
  have s0 := same_new nz0 (.lst [.int 0])
  refine ⟨_, rfl, v, tl, n, d, rfl, hs, dp_same s0 _ _ hd, fun H1 l us s1 nl hl hus => ?_⟩
  cases n with
  | zero => exact hs.elim
  | succ n =>
  have hi := say_inn hs
  simp only [psz] at hz
  have hle := sum_len (f := psz n) fun e he => psz_pos (hi e he)
  have lz := dpAll_len hus
  refine ⟨l, rfl, ⟨us, SqL.of hl⟩, fun D hD => ?_⟩
  refine lc_list (K := K) (a := l) (xs := us) (fun j H' => H' D = some (.lst (((inn d).take j).map fun e => V.int (deep n e))) ∧ Same H1 H') ⟨upd_same, same_new hD _⟩ (fun j H' _ ⟨_, sm⟩ => same_seq sm (SqL.of hl))
    (fun j x H' hx ⟨hl', sm⟩ => ?_) (fun H' ⟨hl', sm⟩ => ?_)
  · obtain ⟨e, he, hde⟩ := dpAll_get hus hx
    have me := List.mem_of_getElem? he
    refine ⟨rfl, ?_⟩
    dsimp only [tYes]
    rw [if_pos rfl]
    refine ⟨_, rfl, x, tl, n, e, rfl, hi e me, by omega, dp_same sm _ _ hde, ?_, fun H2 s2 => ⟨_, s2 _ _ hl', ?_, ?_, same_at hD (sm.trans s2) _⟩⟩
    · have := sum_ge (f := psz n) me
      omega
    · rw [List.length_map, List.length_take]
      exact small1000 (by omega)
    · rw [upd_same, List.take_add_one, he, List.map_append]
      rfl
  · rw [lz, List.take_length] at hl'
    refine ⟨z0, D, _, _, rfl, rfl, sm _ _ (s1 _ _ upd_same), hl', by rw [sizeLine_eq]; simp; omega, fun t nt => ?_⟩
    refine ⟨t, 0 :: (inn d).map (deep n), rfl, ?_, by simp, fun mx h1 h2 => ?_⟩
    · rw [List.map_cons, List.map_map]
      exact SqL.of upd_same
    · have e : mx = ((inn d).map (deep n)).foldr max 0 := by
        refine max_is0 (fun x hx => ?_) h1 h2
        obtain ⟨y, _, rfl⟩ := List.mem_map.mp hx
        exact deep_pos n y
      refine ⟨1, mx, rfl, rfl, ?_⟩
      rw [e]
      exact q _ (s0.trans (s1.trans (sm.trans (same_new nt _))))
end
end Ms02

namespace Ms02
open PySem PySem.Spec PyProof.Rows L2
open PySem.W (keyToks keyToksAll dataLt)
theorem scLOnce : FnScope ["_law_some", "_law_found", "_law_one"] ["_law_some"] (defScope sLOnce) := ⟨rfl, rfl, rfl, by decide +kernel, rfl, by decide +kernel, by decide +kernel⟩
def spLOnce (K : PySem.W.Frag) : Sp := fun vs H Q _ => ∃ (a : Addr) (us : List V) (ds : List PyData) (tl : Bool) (n : Nat), vs = [.ref a] ∧ SqL K H a us ∧ DpAll K H us ds ∧ (∀ d ∈ ds, Say tl n d) ∧ n ≤ 28 ∧ ds.length ≤ 900 ∧
  ∀ H' t acc ds', Same H H' → ds'.Perm ds → ds'.Pairwise (fun x y => dataLt y x = false) → H t = none → H' t = some (.lst acc) → DpAll K H' acc (nub ds') → Q (.ref t) H'
theorem shaped_list {tl : Bool} {n : Nat} {ds : List PyData} (h : ∀ d ∈ ds, Say tl n d) (hn : n ≤ 28) : PySem.SeqAt.shaped (.list ds) = true := by
  have := deps_all fun d hd => dep_say (h d hd)
  have e1 : PyData.canLay0 (.list ds) = true := by simpa [PyData.canLay0] using lays_all (fun d => lay_say (tl := tl) (n := n)) h
  have e2 : PyData.depth (.list ds) = PyData.depthAll ds + 1 := by simp [PyData.depth]
  have e3 : decide (PyData.depth (.list ds) ≤ 64) = true := by
    rw [e2]
    exact decide_eq_true (by omega)
  unfold PySem.SeqAt.shaped
  rw [e1, e3]
  rfl
section
variable {P : Program} {w : World} {K : PySem.W.Frag} {mg : Str → Option Value} {base : Heap}
theorem ok_lonce {f : Addr} {fd : FuncData} {k : Nat} (F : Fun K "_law_once" "_law_once" sLOnce f fd) (ms : mg "sorted" = none) : FnOk P w K mg base CX0 (k + 1) f fd ["_law_some"] (spLOnce K) := by
  refine F.ok scLOnce (fun vs H Q E h => ?_) (fun cdv A outer s H vs Q E hr h => ?_)
  · obtain ⟨a, us, ds, tl, n, rfl, _⟩ := h
    rfl
  obtain ⟨a, us, ds, tl, n, rfl, hq, hd, hs, hn, hz, q⟩ := h
  have nd := scLOnce.nd
  refine ⟨_, pss_cons (ps_set (i := 1) nd rfl (.inl rfl) (pe_lst pa_nil))
    (pss_cons (ps_for PassesOwn.never rfl (pi_list (pe_callB (call_sortSay hr.units) (by rfl) ms (by decide +kernel) (pa_cons (pv 0) pa_nil))) (pg_name (i := 2) nd rfl (.inl rfl))
      (pss_one (ps_if (PW.pt (pw_or (pt_cmpR (op_eqD hr.units) (pv 1) (pe_lst pa_nil) (nomark _)) (pw_or1 (pt_cmpR (op_neD hr.units) (pe_ix ix_list (pv 1) (pe_un un_neg pe_int) (fun _ _ => rfl)) (pv 2) (nomark _)))))
        (pss_one (ps_expr (pe_bm PySem.F.plainAttrs_list PySem.F.slot_list_append PySem.F.type_list_append mt_append (pv 1) (pa_cons (pv 2) pa_nil)))) pss_nil)))
    (pss_one (ps_ret (pv 1)))), ?_⟩
  refine ⟨zz0, fun T nT => ?_⟩
  have s1 := same_new nT (.lst [])
  refine ⟨_, rfl, a, us, ds, tl, n, rfl, same_seq s1 hq, dpAll_same s1 _ _ hd, hs, hn, fun us' ds' p dA pm pw np => ?_⟩
  have Tp' : T ≠ p := ne_of_none upd_same np
  have hs' : ∀ d ∈ ds', Say tl n d := fun d hd => hs d (pm.mem_iff.mp hd)
  have l1 := dpAll_len dA
  have l2 := pm.length_eq
  refine ⟨p, rfl, ⟨us', SqL.of upd_same⟩, ?_⟩
  refine for_list (K := K) (a := p) (xs := us') (fun i σ' H' => ∃ (y2 : Option V) (acc : List V), σ' = [some (.ref a), some (.ref T), y2] ∧ H' T = some (.lst acc) ∧ DpAll K H' acc (nub (ds'.take i)) ∧ H' p = some (.lst us') ∧ DpAll K H' us' ds' ∧ Same H H')
    ⟨none, [], rfl, by rw [upd_ne Tp']; exact upd_same, .nil, upd_same, dpAll_same (same_new np _) _ _ dA, s1.trans (same_new np _)⟩ (fun i σ' H' _ hp => ?_) (fun i x σ' H' hx hp => ?_) (fun σ' H' hp => ?_)
  · obtain ⟨y2, acc, rfl, hT, hacc, hP, hD, sm⟩ := hp
    exact SqL.of hP
  · obtain ⟨y2, acc, rfl, hT0, hacc0, hP0, hD0, sm0⟩ := hp
    refine ⟨_, rfl, zz0, fun z nz => ?_⟩
    have sz := same_new nz (.lst [])
    have hT := sz _ _ hT0
    have hacc := dpAll_same sz _ _ hacc0
    have hP := sz _ _ hP0
    have hD := dpAll_same sz _ _ hD0
    have sm := sm0.trans sz
    have hz0 : (upd H' z (.lst [])) z = some (.lst []) := upd_same
    generalize upd H' z (.lst []) = H' at hT hacc hP hD sm hz0
    obtain ⟨d, hdi, hdx⟩ := dpAll_get hD hx
    have hdi' := List.mem_of_getElem? hdi
    have nx : nub (ds'.take (i + 1)) = nubF (nub (ds'.take i)) d := by rw [List.take_add_one, hdi, Option.toList_some, nub_snoc]
    have ln := nub_len (ds'.take i)
    have lt := List.length_take_le' i ds'
    have la := dpAll_len hacc
    have hsn : ∀ e ∈ nub (ds'.take i), Say tl n e := fun e he => hs' e (List.mem_of_mem_take (nub_mem he))
    have add : lastIs (nub (ds'.take i)) d = false → ∃ (y2 : Option V) (ac : List V), [some (.ref a), some (.ref T), some x] = [some (V.ref a), some (.ref T), y2] ∧ (upd H' T (.lst (acc ++ [x]))) T = some (.lst ac) ∧
        DpAll K (upd H' T (.lst (acc ++ [x]))) ac (nub (ds'.take (i + 1))) ∧ (upd H' T (.lst (acc ++ [x]))) p = some (.lst us') ∧ DpAll K (upd H' T (.lst (acc ++ [x]))) us' ds' ∧ Same H (upd H' T (.lst (acc ++ [x]))) := fun c => by
      have tp := Tp.lst hT (.lst (acc ++ [x]))
      refine ⟨_, _, rfl, upd_same, ?_, by rw [upd_ne Tp'.symm]; exact hP, dpAll_tp tp _ _ (tupDs_say hs') hD, same_at nT sm _⟩
      rw [nx, nubF, if_neg (by rw [c]; decide)]
      exact dpAll_snoc (dp_tp tp _ _ (tupD_say (hs' d hdi')) hdx) (dpAll_tp tp _ _ (tupDs_say hsn) hacc)
    refine ⟨_, .list [], .lst (SqL.of hT) hacc, .lst (SqL.of hz0) .nil, shaped_list hsn hn, by decide, _, rfl, ?_⟩
    rw [eqvE]
    by_cases hne : acc = []
    · subst hne
      generalize hg : nub (ds'.take i) = ns at hacc add
      cases hacc
      refine iteT (iteT ?_)
      exact ⟨_, rfl, .inl ⟨rfl, _, SqL.of hT⟩, _, rfl, T, [], x, rfl, rfl, hT, sq_len (by simp), add (by simp [lastIs])⟩
    · obtain ⟨ac, u, es, e, rfl, hes, hac, hue⟩ := dpAll_last hacc hne
      have he : Say tl n e := hsn e (by rw [hes]; simp)
      rw [show (nub (ds'.take i)).isEmpty = false from by rw [hes]; cases es <;> rfl]
      refine iteF ?_
      refine ⟨_, rfl, 1, rfl, T, _, -1, u, rfl, rfl, SqL.of hT, at_last ac u, _, rfl, e, d, hue, hdx, shaped_say he hn, shaped_say (hs' d hdi') hn, _, rfl, ite2 (fun c => ?_) (fun c => ?_)⟩
      · refine ⟨_, rfl, .inl ⟨rfl, _, SqL.of hT⟩, _, rfl, T, _, x, rfl, rfl, hT, sq_len (by omega), add ?_⟩
        rw [hes, lastIs_snoc]
        simpa using c
      · refine ⟨_, _, rfl, hT, ?_, hP, hD, sm⟩
        have c' : PyData.eqv e d = true := by simpa using c
        rw [nx, nubF, hes, lastIs_snoc, if_pos c', ← hes]
        exact hacc
  · obtain ⟨y2, acc, rfl, hT, hacc, hP, hD, sm⟩ := hp
    rw [l1, List.take_length] at hacc
    exact ⟨_, rfl, q H' T acc ds' sm pm pw nT hT hacc⟩
end
end Ms02

namespace Ms02
open PySem PySem.Spec PyProof.Rows L2
/-! ### sets of texts -/
/-- the set at a holds just these texts -/
def TxSet (P : Program) (w : World) (h : Heap) (a : Addr) (l : List Str) : Prop :=
  ∃ D : PySem.Froz.SD, h.get? a = some (PySem.Froz.sObj "set" D) ∧ PySem.Froz.TxOk P w D l ∧ Ris D.2.2.place.toList ∧ (w.params.followText "set-order" = true ∨ D.2.2.led = true)
section
variable {P : Program} {w : World} {A : Around} {E : Value → Shared → Prop} {s : Shared}
theorem tail_ris {ep : Nat} {es : Array (Int × Value)} {t : SetTable} {b : Bool} (r : Ris t.place.toList) : Ris (PySem.Froz.tailTx ep es t b).2.2.place.toList := by
  unfold PySem.Froz.tailTx
  split
  · exact relayAll_ris _ _ _
  · exact r
theorem tail_led {ep : Nat} {es : Array (Int × Value)} {t : SetTable} {b : Bool} : (PySem.Froz.tailTx ep es t b).2.2.led = t.led := by
  unfold PySem.Froz.tailTx
  split
  · exact relayAll_led _ _ _
  · rfl
theorem addTx_ris {h : Int} {v : Value} {D : PySem.Froz.SD} (r : Ris D.2.2.place.toList) : Ris (PySem.Froz.addTx h v D).2.2.place.toList := by
  obtain ⟨es, ep, t⟩ := D
  have h1 := layNew_ris t es h v r
  unfold PySem.Froz.addTx
  refine tail_ris ?_
  split
  · exact h1
  · exact h1
theorem addTx_led {h : Int} {v : Value} {D : PySem.Froz.SD} : (PySem.Froz.addTx h v D).2.2.led = D.2.2.led := by
  obtain ⟨es, ep, t⟩ := D
  have h1 := layNew_led t es h v
  unfold PySem.Froz.addTx
  rw [tail_led]
  split
  · exact h1
  · exact h1
theorem TxSet.fresh {h : Heap} : TxSet P w (h.push { cls := .type "set", dict := none, data := .set #[] 0 (.fresh 0 0 (!w.params.followText "set-order")) }) h.objs.size [] :=
  ⟨(#[], 0, .fresh 0 0 (!w.params.followText "set-order")), Heap.get?_push_size _ rfl, .nil (by rfl), List.Pairwise.nil, by
    show _ ∨ (!w.params.followText "set-order") = true
    cases w.params.followText "set-order"
    · exact .inr rfl
    · exact .inl rfl⟩
/-- a text that is there already -/
theorem add_old {a : Addr} {D : PySem.Froz.SD} {l : List Str} {k : Str} {u : Tok} {Q : Bool → Shared → Prop} (ho : s.heap.get? a = some (PySem.Froz.sObj "set" D)) (Fx : PySem.Froz.TxOk P w D l) (hk : k ∈ l) (hb : l.length < scanBound)
    (h : Q false s) : wpAny (model P w) A (setAddHashed a (.str k u) (hashStr w k)) Q E s := by
  obtain ⟨es, ep, t⟩ := D
  have hd : (PySem.Froz.sObj "set" (es, ep, t)).data = .set es ep t := rfl
  have hf : t.fits es.size = true := Fx.fit
  have hel : ElemsOf (strKind P w) es.toList := Fx.el
  have hsz : es.size = l.length := Fx.sz
  have hkey : (strKind P w).is k (.str k u) = true := PySem.Froz.is_str k u
  unfold setAddHashed setAddHashedIn
  refine wpAny_holding (wpAny_bind (wpAny_setState_of ho hd hf ?_))
  dsimp only
  rw [byScan_of rfl (by omega) hel]
  simp only [↓reduceIte]
  unfold setAddByScan
  refine wpAny_bind ?_
  refine wpAny_bind (wpAny_rule ?_)
  refine wpAny_bind (wpAny_setScan_of (knd := strKind P w) (k := k) hkey ho hd hf hel ?_)
  cases hr : List.findIdx? (fun e => (strKind P w).is k e.2) es.toList with
  | some j =>
    dsimp only
    exact wpAny_pure (wpAny_pure h)
  | none =>
    obtain ⟨e, he, q⟩ := (Fx.mem k).mp hk
    have c := List.findIdx?_eq_none_iff.mp hr e he
    rw [q] at c
    cases c
/-- set.add of a text -/
theorem add_text {a : Addr} {l : List Str} {k : Str} {u : Tok} {Q : Value → Shared → Prop} (R : TxSet P w s.heap a l) (hb : l.length + 1 < scanBound)
    (h : ∀ h' l', (∀ b o, b ≠ a → s.heap.get? b = some o → h'.get? b = some o) → TxSet P w h' a l' → l' = (if k ∈ l then l else k :: l) → Q .none { s with heap := h', toks := s.toks + 1 }) :
    wpAny (model P w) A (call (.builtin "set.add") [.ref a, .str k u]) Q E s := by
  obtain ⟨D, ho, Fx, hr, hl⟩ := R
  refine wpAny_call_entry PySem.F.slot_set_add ⟨_, ho, rfl⟩ PySem.F.entry_set_add ?_ (PySem.F.args_set_add_2 _ _)
  unfold Builtin.«set.add» Builtin.Frozenset.oneOther
  simp only [List.isEmpty_nil, bind_assoc]
  unfold Builtin.Frozenset.addrOf setAdd
  refine wpAny_bind (wpAny_pure ?_)
  try dsimp only
  refine wpAny_bind (wpAny_pure ?_)
  try dsimp only
  refine wpAny_bind ?_
  refine wpAny_holding ?_
  refine wpAny_bind ((strKind P w).pyHash (PySem.Froz.is_str k u) ?_)
  by_cases hk : k ∈ l
  · refine add_old (s := { s with toks := s.toks + 1 }) ho Fx hk (by omega) ?_
    exact wpAny_pure ⟨_, rfl, h s.heap l (fun b o _ e => e) ⟨D, ho, Fx, hr, hl⟩ (by rw [if_pos hk])⟩
  · refine PySem.Froz.add_x (s := { s with toks := s.toks + 1 }) ho Fx hk hb ?_
    refine wpAny_pure ⟨_, rfl, h _ (k :: l) (fun b o hn e => ?_) ⟨_, PySem.Froz.get_upd _ ho rfl, PySem.Froz.add_ok u Fx, addTx_ris hr, by rw [addTx_led]; exact hl⟩ (by rw [if_neg hk])⟩
    rw [Heap.get?_update_ne _ _ _ _ hn]
    exact e
end
end Ms02

namespace Ms02
open PySem PySem.Spec PyProof.Rows L2
theorem perm_of {l : List Str} : ∀ {m : List Str}, l.Nodup → (∀ x ∈ l, x ∈ m) → m.length = l.length → m.Perm l := by
  induction l with
  | nil =>
    intro m _ _ h
    rw [List.length_eq_zero_iff.mp h]
  | cons x l ih =>
    intro m nd hs hl
    obtain ⟨nx, nd⟩ := List.nodup_cons.mp nd
    have hx := hs x List.mem_cons_self
    refine (List.perm_cons_erase hx).trans (List.Perm.cons x (ih nd (fun y hy => ?_) ?_))
    · have ne : y ≠ x := fun e => nx (e ▸ hy)
      exact (List.mem_erase_of_ne ne).mpr (hs y (List.mem_cons_of_mem _ hy))
    · rw [List.length_erase_of_mem hx, hl]
      simp
def txOf : Value → Str
  | .str x _ => x
  | _ => Str.empty
theorem strs_of : ∀ {vs : List Value}, (∀ v ∈ vs, ∃ x t, v = Value.str x t) → StrsAre vs (vs.map txOf)
  | [], _ => .nil
  | v :: vs, h => by
    obtain ⟨x, t, rfl⟩ := h v List.mem_cons_self
    exact .cons x t (strs_of fun u hu => h u (List.mem_cons_of_mem _ hu))
section
variable {P : Program} {w : World} {A : Around} {E : Value → Shared → Prop} {s : Shared}
theorem sorted_texts {a : Addr} {l : List Str} {Q : Value → Shared → Prop} (R : TxSet P w s.heap a l) (nd : l.Nodup) (hh : A.handled = none) (h64 : l.length < 64)
    (hQ : ∀ s' p (out : Array Value) (c : Nat) (ys : List Str), (∀ b o, s.heap.get? b = some o → s'.heap.get? b = some o) → s'.gens = s.gens → s'.os = s.os → s.heap.objs.size ≤ p → s'.heap.get? p = some (seqObj "list" out c) → StrsAre out.toList ys → ys.Perm l →
      sortedS ys = true → Q (.ref p) s') : wpAny (model P w) A (call (.builtin "sorted") [.ref a]) Q E s := by
  obtain ⟨⟨es, ep, t⟩, ho, Fx, hr, hl⟩ := R
  have hsz : es.size = l.length := Fx.sz
  have hs : sizeLine = sizeLine := rfl
  refine Calls.call_function_entry kind_sorted plain_sorted entry_sorted (args_sorted1 _) ?_
  unfold Builtin.«sorted»
  refine wpAny_bind (m := checkCount "sorted" 1 1 _) (wpAny_pure ?_)
  refine wpAny_bind (collect_set (A := A.in1) hh ⟨_, ho, rfl, rfl⟩ Fx.fit (by show es.size < scanBound; rw [hsz]; exact Nat.lt_trans h64 (by decide)) hr hl fun s1 vs k1 hz g1 o1 pm => ?_)
  have hvl : vs.length = l.length := by rw [pm.length_eq, List.length_map, Array.length_toList]; exact hsz
  have shape : ∀ e ∈ es.toList, ∃ x t, e.2 = Value.str x t := fun e he => by
    obtain ⟨⟨k, h1, _⟩, _⟩ := Fx.el e he
    obtain ⟨t, q⟩ := Value.isStrOf_shape (x := k) (v := e.2) h1
    exact ⟨k, t, q⟩
  have hI : StrsAre vs (vs.map txOf) := strs_of fun v hv => by
    obtain ⟨e, he, q⟩ := List.mem_map.mp (pm.mem_iff.mp hv)
    obtain ⟨x, t, h⟩ := shape e he
    exact ⟨x, t, by rw [← q]; exact h⟩
  have pl : (vs.map txOf).Perm l := perm_of nd (fun x hx => by
    obtain ⟨e, he, q⟩ := (Fx.mem x).mp hx
    obtain ⟨tk, q'⟩ := Value.isStrOf_shape (x := x) (v := e.2) q
    exact List.mem_map.mpr ⟨e.2, pm.mem_iff.mpr (List.mem_map.mpr ⟨e, he, rfl⟩), by rw [q']; rfl⟩) (by rw [List.length_map]; exact hvl)
  refine wpAny_bind (wpAny_newList ?_ (by rw [hvl, sizeLine_eq]; omega))
  have hoL : (s1.heap.push (seqObj "list" vs.toArray 0)).get? s1.heap.objs.size = some (seqObj "list" vs.toArray 0) := Heap.get?_push_size _ rfl
  refine wpAny_bind (wpAny_holding (wpAny_call_entry slot_list_sort ⟨_, hoL, rfl⟩ entry_list_sort (list_sort_treeK strKind_oneLt hoL hI.keysOf (fun v₁ v₂ rest e => keyKind_strs (by rw [← e]; exact hI)) (by rw [hvl]; exact h64) fun st' hp hs => ?_) (args_list_sort _)))
  obtain ⟨ys, a1, a2, a3⟩ := sorted_out_str hI hp hs
  obtain ⟨c, hc⟩ := sortedHeap_at (vs := vs) (out := (arrOf st').map (·.2)) hoL
  refine ⟨_, rfl, wpAny_pure ⟨_, rfl, hQ _ s1.heap.objs.size _ c ys (fun b u e => ?_) g1 o1 hz hc a1 (a2.trans pl) a3⟩⟩
  have q := k1 b u e
  have hlt := Heap.lt_size q
  show (sortedHeap (s1.heap.push (seqObj "list" vs.toArray 0)) s1.heap.objs.size vs _).get? b = some u
  rw [sortedHeap_old (Nat.ne_of_lt hlt) (by rw [size_push']; exact Nat.lt_succ_of_lt hlt)]
  exact Heap.get?_push_of_some _ q
end
end Ms02

namespace Ms02
open PySem PySem.Spec PyProof.Rows L2
/-- a set of just these texts stands at a -/
def TxO (P : Program) (w : World) (a : Addr) (l : List Str) : HO := .ext fun h => TxSet P w h a l ∧ l.Nodup
theorem TxSet.at {P : Program} {w : World} {h h' : Heap} {a : Addr} {l : List Str} (R : TxSet P w h a l) (k : ∀ o, h.get? a = some o → h'.get? a = some o) : TxSet P w h' a l :=
  let ⟨D, ho, r⟩ := R
  ⟨D, k _ ho, r⟩
theorem txO_new {P : Program} {w : World} {H : Hp} {h : Heap} {a : Addr} {l : List Str} (R : TxSet P w h a l) (nd : l.Nodup) : ObjOk P w H h a (TxO P w a l) :=
  ⟨⟨R, nd⟩, let ⟨_, ho, _⟩ := R; ⟨_, ho⟩, fun _ _ p k => ⟨p.1.at k, p.2⟩⟩
section
variable {X : Cx}
theorem txO_get {pins : List (Addr × Obj)} {σ : L2.St} {H : Hp} {s : Shared} {a : Addr} {l : List Str} (I : Inv X pins σ H s) (ha : H a = some (TxO X.prog X.w a l)) : TxSet X.prog X.w s.heap a l ∧ l.Nodup := (I.hok a _ ha).1
/-- one more text -/
theorem addT_ok {pins : List (Addr × Obj)} {σ : L2.St} {H : Hp} {s : Shared} {E : Value → Shared → Prop} {D : Addr} {l : List Str} {k : Str} {u : Tok} {Q : Value → Shared → Prop} (I : Inv X pins σ H s) (hD : H D = some (TxO X.prog X.w D l)) (room : l.length + 1 < scanBound)
    (h : ∀ s', Inv X pins σ (upd H D (TxO X.prog X.w D (if k ∈ l then l else k :: l))) s' → Q .none s') : wpAny (model X.prog X.w) X.A (call (.builtin "set.add") [.ref D, .str k u]) Q E s := by
  obtain ⟨R, nd⟩ := txO_get I hD
  refine add_text R room fun h' l' kp R' el => ?_
  subst el
  have nd' : (if k ∈ l then l else k :: l).Nodup := by
    split
    · exact nd
    · rename_i hk
      exact List.nodup_cons.mpr ⟨hk, nd⟩
  have he : ∃ o, h'.get? D = some o := let ⟨_, ho, _⟩ := R'; ⟨_, ho⟩
  exact h _ (I.write (e := D) (t' := s.toks + 1) (by rw [hD]; trivial) (.inl rfl) kp he (txO_new R' nd'))
/-- sorted of a set of texts -/
def rSortTx (P : Program) (w : World) : List V → Hp → VK → Prop := fun vs H Q => ∃ (a : Addr) (l : List Str), vs = [.ref a] ∧ H a = some (TxO P w a l) ∧ l.length < 64 ∧ ∀ ys p, ys.Perm l → sortedS ys = true → H p = none → Q (.ref p) (upd H p (.lst (ys.map V.str)))
theorem call_sortTx (hc : X.calm = true) : CallR X (.builtin "sorted") (rSortTx X.prog X.w) := by
  intro pins s σ H vs us Q I r h
  obtain ⟨a, l, rfl, ha, h64, q⟩ := h
  obtain ⟨R, nd⟩ := txO_get I ha
  rw [Vals.ref1 r]
  refine sorted_texts R nd (I.ok.hd hc) h64 fun s' p out c ys k g o hp hg hi pm hs => ?_
  have hlen : (ys.map V.str).length ≤ sizeLine := by rw [List.length_map, pm.length_eq, sizeLine_eq]; omega
  have hn : H p = none := I.hok.fresh hp
  have J : Inv X pins σ (upd H p (.lst (ys.map V.str))) s' := I.call' (ch := []) o (Un.laid k hp hn) (I.hok.laid k hp ⟨hlen, out.toList, c, vals_of_strs hi, hg⟩) (by rw [g]; exact I.bare) (fun _ z => nomatch z)
  exact ⟨.ref p, _, J, rfl, q ys p pm hs hn⟩
end
end Ms02

namespace Ms02
open PySem PySem.Spec PyProof.Rows L2
/-! ### a set comprehension, whatever its things: N0 the new set, Ad what one more thing does -/
def tSg (N0 : Addr → HO) (Ad : Hp → Addr → V → (Hp → Prop) → Prop) (wi : TI) (g : TG) (tt : TT) (te : TE) (vs : List Nat) : TE := fun σ H Q => wi σ H fun J H1 => ∀ D, H1 D = none → ∃ W : Nat → Nat → Hp → Prop, (∃ m, W 0 m (upd H1 D (N0 D))) ∧ ∀ i m H, W i m H →
  (J.stop i H ∧ Q (.ref D) H) ∨ (J.go i H ∧ ∃ Nx : Hp → Prop, (∀ H', Nx H' → ∃ m', m' < m ∧ W (i + 1) m' H') ∧ ∀ x H', J.yld i H x H' → g x (wipe σ vs) H' fun σ2 H2 => wipe σ2 vs = wipe σ vs ∧ tt σ2 H2 fun b H3 =>
    if b = true then te σ2 H3 fun y H4 => Ad H4 D y Nx else Nx H3)
/-- what is asked of them -/
structure SetWay (P : Program) (w : World) (N0 : Addr → HO) (Ad : Hp → Addr → V → (Hp → Prop) → Prop) : Prop where
  new : ∀ (H : Hp) (h : Heap), ObjOk P w H (h.push { cls := .type "set", dict := none, data := .set #[] 0 (.fresh 0 0 (!w.params.followText "set-order")) }) h.objs.size (N0 h.objs.size)
  add : ∀ {X : Cx} (pins : List (Addr × Obj)) (s : Shared) (σ : L2.St) (H : Hp) (D : Addr) (y : V) (u : Value) (N : Hp → Prop) (Q E : Value → Shared → Prop), X.prog = P → X.w = w → Inv X pins σ H s → RelV y u → Ad H D y N → (∀ H' s', Inv X pins σ H' s' → N H' → Q .none s') →
    wpAny (model X.prog X.w) X.A (call (.builtin "set.add") [.ref D, u]) Q E s
section
variable {X : Cx} {N0 : Addr → HO} {Ad : Hp → Addr → V → (Hp → Prop) → Prop}
theorem sg_core {pins : List (Addr × Obj)} {s : Shared} {σ : L2.St} {H : Hp} {Q : VK} {elt tg iter : Expr} {ifs : List Expr} {scope : Scope} {own : List (PySem.Str × Nat)} {pos pos' : Pos} {wi : TI} {g : TG} {tt : TT} {te : TE} {use : Option (Value → Sem Unit)} {Qf : Value → Shared → Prop}
    (S : SetWay X.prog X.w N0 Ad) (hc : X.calm = true) (hN : X.N.Nodup) (I : Inv X pins σ H s) (hi : PI X tg iter wi) (ok : BlkOk X.N X.env.scope scope own)
    (hg : ∀ (s : Shared) (H : Hp) (C : Addr) (cl : List (PySem.Str × Addr)) (fp : List Addr), PG (X.blk s H scope (compEnvC scope cl C X.env) fp) tg g) (ht : ∀ (s : Shared) (H : Hp) (C : Addr) (cl : List (PySem.Str × Addr)) (fp : List Addr), PTs (X.blk s H scope (compEnvC scope cl C X.env) fp) ifs tt)
    (he : ∀ (s : Shared) (H : Hp) (C : Addr) (cl : List (PySem.Str × Addr)) (fp : List Addr), PE (X.blk s H scope (compEnvC scope cl C X.env) fp) elt te) (hs : ∀ x, foldedSetIterable iter X.env x = pure x)
    (h : tSg N0 Ad wi g tt te (own.map (·.2)) σ H Q)
    (fin : ∀ D C s' m H', Inv X pins σ H' s' → Q (.ref D) H' → s'.heap.Ns C m → FpOk X pins H' C → compPost (model X.prog X.w) X.A X.xe use Qf (.ref D) C (.ok .next) s') :
    wpAny (model X.prog X.w) X.A (comprehension (.SetComp elt [⟨tg, iter, ifs, 0⟩] scope pos) scope X.env pos' (newSet (.type "set")) false (eval iter X.env) use) Qf X.xe s := by
  have free : ∀ y ∈ scope.names, y.2 = .free → ∃ c, X.env.cells.lookup y.1 = some c := fun y hy e => (ok.free y hy e).elim (fun k => I.ok.has _ (.inl k)) fun k => I.ok.has _ (.inr k)
  refine wpAny_comprehension_free (use := use) rfl hs (closure_ok free) ok.kind (fun y hy e => by rw [ok.uniq y hy, e]) (thn (hi.run pins s σ H _ I h) fun xv s1 hx => thn hx fun itv s2 h2 => ?_)
  obtain ⟨it, fp, tn, J, H2, e, I2, T, st2, f2, q⟩ := h2
  subst e
  refine PpSet.newSet_ok (newEnv_comp ?_)
  have nD : H2 s2.heap.objs.size = none := I2.hok.fresh (Nat.le_refl _)
  obtain ⟨W, ⟨m0, w0⟩, turn⟩ := q _ nD
  have I3 : Inv X pins σ (upd H2 s2.heap.objs.size (N0 s2.heap.objs.size)) { s2 with heap := s2.heap.push { cls := .type "set", dict := none, data := .set #[] 0 (.fresh 0 0 (!X.w.params.followText "set-order")) } } :=
    I2.laid (t' := s2.toks) (fun b o e => Heap.get?_push_of_some _ e) (Nat.le_refl _) (S.new _ _)
  have low : ∀ b ∈ fp, b < s2.heap.objs.size := fun b hb => let ⟨o, e, _⟩ := T.obj _ _ st2 b hb; Heap.lt_size e
  generalize hD : s2.heap.objs.size = D at nD w0 turn I3 low ⊢
  generalize hs3 : ({ s2 with heap := s2.heap.push { cls := .type "set", dict := none, data := .set #[] 0 (.fresh 0 0 (!X.w.params.followText "set-order")) } } : Shared) = s3 at I3 ⊢
  have h3 : s3.heap = s2.heap.push { cls := .type "set", dict := none, data := .set #[] 0 (.fresh 0 0 (!X.w.params.followText "set-order")) } := by rw [← hs3]
  generalize hH3 : upd H2 D (N0 D) = H3 at I3 w0
  have f3 : ∀ b ∈ fp, FpOk X pins H3 b ∧ b < s3.heap.objs.size := fun b hb => by
    have hlt := low b hb
    refine ⟨⟨?_, (f2 b hb).2⟩, by rw [h3, Heap.size_push, hD]; exact Nat.lt_succ_of_lt hlt⟩
    rw [← hH3, upd_ne (Nat.ne_of_lt hlt)]
    exact (f2 b hb).1
  have st3 : tn 0 s3.heap := T.keep _ _ _ st2 fun b _ o e => by rw [h3]; exact Heap.get?_push_of_some _ e
  have I4 := block_start I3 ok hN f3
  have pg := hg s3 H3 s3.heap.objs.size (cellsFrom (s3.heap.objs.size + 1) scope.names (cloFrom X.env.cells scope.names [])) fp
  have pt := ht s3 H3 s3.heap.objs.size (cellsFrom (s3.heap.objs.size + 1) scope.names (cloFrom X.env.cells scope.names [])) fp
  have pe := he s3 H3 s3.heap.objs.size (cellsFrom (s3.heap.objs.size + 1) scope.names (cloFrom X.env.cells scope.names [])) fp
  show codeAny _ _ (.compStart (.SetComp elt [⟨tg, iter, ifs, 0⟩] scope pos) 0 (.ref it) (.ref D) (compEnvC scope (cellsFrom (s3.heap.objs.size + 1) scope.names (cloFrom X.env.cells scope.names [])) s3.heap.objs.size X.env)) (compPost (model X.prog X.w) X.A X.xe use Qf (.ref D) s3.heap.objs.size) { s3 with heap := pushCells (s3.heap.push { cls := .type "dict", data := .dict #[] }) scope.names }
  have n3 : ∀ b ∈ fp, H3 b = none := fun b hb => (f3 b hb).1.1
  generalize hce : compEnvC scope (cellsFrom (s3.heap.objs.size + 1) scope.names (cloFrom X.env.cells scope.names [])) s3.heap.objs.size X.env = ce at I4 pg pt pe ⊢
  have cL : ce.locals = s3.heap.objs.size := by subst hce; rfl
  generalize hs4 : ({ s3 with heap := pushCells (s3.heap.push { cls := .type "dict", data := .dict #[] }) scope.names } : Shared) = s4 at I4 ⊢
  have st4 : tn 0 s4.heap := T.keep _ _ _ st3 fun b _ o e => by rw [← hs4]; exact pushCells_keeps _ _ _ _ (Heap.get?_push_of_some _ e)
  -- the walked things' own objects, within the block
  have own' : ∀ {σ' : L2.St} {H' : Hp} {s' : Shared}, Inv (X.blk s3 H3 scope ce fp) [] σ' H' s' → (∀ b ∈ fp, H' b = none) → ∀ b ∈ fp, FpOk (X.blk s3 H3 scope ce fp) [] H' b := fun {σ' H' s'} I' hn b hb =>
    ⟨hn b hb, (I'.ok.exf b hb).1, I'.ok.exfs b hb, .inl hb, fun x c e => (I'.ok.exf b hb).2 x c e, fun p hp => absurd (show p ∈ ([] : List (Addr × Obj)) ++ [] from hp) (by simp)⟩
  have loop : codeAny (model X.prog X.w) X.A (.compLoop (.SetComp elt [⟨tg, iter, ifs, 0⟩] scope pos) 0 (.ref it) (.ref D) ce) (compPost (model X.prog X.w) X.A X.xe use Qf (.ref D) s3.heap.objs.size) s4 := by
    refine PpSet.compLoopS_any (fun n s' => ∃ i H', Inv (X.blk s3 H3 scope ce fp) [] (wipe σ (own.map (·.2))) H' s' ∧ tn i s'.heap ∧ (∀ b ∈ fp, H' b = none) ∧ W i n H') ?_ m0 ⟨0, H3, I4, st4, n3, w0⟩
    rintro n s5 ⟨i, H5, I5, st5, n5, w5⟩
    rcases turn i n H5 w5 with ⟨stop, qq⟩ | ⟨go, Nx, hNx, step⟩
    · refine thnF (T.done (X.blk s3 H3 scope ce fp) rfl rfl rfl hc i [] s5 _ H5 (fun _ _ => False) I5 (own' I5 n5) st5 stop) fun r s6 ⟨hr, I6⟩ => ?_
      subst hr
      have I7 : Inv X pins σ H5 s6 := I3.call' (ch := fp) I6.os I6.base I6.hok I6.bare fun b hb => ⟨(f3 b hb).1.2.2.2.1, (f3 b hb).1.2.1, (f3 b hb).1.2.2.2.2.1, (f3 b hb).1.2.2.2.2.2⟩
      have nC : H5 ce.locals = none := I6.free
      obtain ⟨m, hn, _⟩ := I6.loc
      have hn : s6.heap.Ns ce.locals m := hn
      rw [cL] at hn nC
      exact fin D s3.heap.objs.size s6 m H5 I7 qq hn (I3.fpOk (Nat.le_refl _) nC)
    · refine thnF (T.item (X.blk s3 H3 scope ce fp) rfl rfl rfl hc i [] s5 _ H5 (fun _ _ => False) I5 (own' I5 n5) st5 go) fun r s6 ⟨u, hr, h6⟩ => ?_
      subst hr
      refine thnF h6 fun _ s7 ⟨x, H7, I7, r7, y7, st7, n7⟩ => ?_
      refine thnF (pg.run _ s7 _ H7 x u _ (I7.pinned (own' I7 n7) (T.obj _ _ st7)) r7 (step x H7 y7)) fun _ s8 ⟨σ8, H8, I8, hw8, q8⟩ => ?_
      refine thnF (pt.run _ s8 σ8 H8 _ I8 q8) fun b s9 ⟨H9, I9, q9⟩ => ?_
      have back : ∀ {s' : Shared} {H' : Hp}, Inv (X.blk s3 H3 scope ce fp) ([] ++ pinsAt fp s7.heap) σ8 H' s' → Nx H' → ∃ m, m < n ∧ ∃ i H', Inv (X.blk s3 H3 scope ce fp) [] (wipe σ (own.map (·.2))) H' s' ∧ tn i s'.heap ∧ (∀ b ∈ fp, H' b = none) ∧ W i m H' := fun {s' H'} I' nx => by
        obtain ⟨m', hm, w'⟩ := hNx H' nx
        have pin : ∀ b ∈ fp, ∀ o, s7.heap.get? b = some o → s'.heap.get? b = some o ∧ H' b = none := fun b hb o e =>
          let z := I'.pin (b, o) (List.mem_append_right _ (List.mem_append_right _ (mem_pinsAt hb e)))
          ⟨z.1, z.2.1⟩
        have hl : (wipe σ (own.map (·.2))).length = σ8.length := by rw [← hw8, wipe_length]
        refine ⟨m', hm, i + 1, H', (I'.unpinned (pins := [])).weak hl (fun j v e => (wipe_some (by rw [hw8]; exact e)).1), T.keep _ _ _ st7 fun b hb o e => (pin b hb o e).1, fun b hb => ?_, w'⟩
        obtain ⟨o, e, _⟩ := T.obj _ _ st7 b hb
        exact (pin b hb o e).2
      cases b with
      | false =>
        simp only [Bool.false_eq_true, if_false] at q9 ⊢
        exact back I9 q9
      | true =>
        simp only [if_true] at q9 ⊢
        refine thnF (pe.run _ s9 σ8 H9 _ I9 q9) fun z s10 ⟨yv, H10, I10, r10, q10⟩ => ?_
        exact S.add (X := X.blk s3 H3 scope ce fp) _ s10 σ8 H10 D yv z Nx _ _ rfl rfl I10 r10 q10 fun H' s' I' nx => back I' nx
  exact PpSet.codeAny_compStart_set loop (T.self X.A 0 _ _ _ st4 loop)
/-- {e for x in it if ..} -/
theorem pe_sg {elt tg iter : Expr} {ifs : List Expr} {scope : Scope} {own : List (PySem.Str × Nat)} {pos : Pos} {wi : TI} {g : TG} {tt : TT} {te : TE} (S : SetWay X.prog X.w N0 Ad) (hc : X.calm = true) (hN : X.N.Nodup) (hi : PI X tg iter wi) (ok : BlkOk X.N X.env.scope scope own)
    (hg : ∀ (s : Shared) (H : Hp) (C : Addr) (cl : List (PySem.Str × Addr)) (fp : List Addr), PG (X.blk s H scope (compEnvC scope cl C X.env) fp) tg g) (ht : ∀ (s : Shared) (H : Hp) (C : Addr) (cl : List (PySem.Str × Addr)) (fp : List Addr), PTs (X.blk s H scope (compEnvC scope cl C X.env) fp) ifs tt)
    (he : ∀ (s : Shared) (H : Hp) (C : Addr) (cl : List (PySem.Str × Addr)) (fp : List Addr), PE (X.blk s H scope (compEnvC scope cl C X.env) fp) elt te) (hs : ∀ x, foldedSetIterable iter X.env x = pure x := by intro _; rfl) :
    PE X (.SetComp elt [⟨tg, iter, ifs, 0⟩] scope pos) (tSg N0 Ad wi g tt te (own.map (·.2))) := by
  refine ⟨fun pins s σ H Q I h => ?_⟩
  rw [PpSet.eval_SetComp]
  refine sg_core S hc hN I hi ok hg ht he hs h fun D C s' m H' I' q hn f => ⟨m, hn, fun h'' sb => ?_⟩
  obtain ⟨f0, f1, f2, f3, f4, f5⟩ := f
  exact ⟨.ref D, H', I'.turned (t' := s'.toks) (fun b o hb e => (sb.2 b hb).trans e) f0 f1 f3 f4 f5, rfl, q⟩
/-- of texts -/
def AdT (P : Program) (w : World) : Hp → Addr → V → (Hp → Prop) → Prop := fun H D y N => ∃ (k : Str) (l : List Str), y = .str k ∧ H D = some (TxO P w D l) ∧ l.length + 1 < scanBound ∧ N (upd H D (TxO P w D (if k ∈ l then l else k :: l)))
theorem wayT (P : Program) (w : World) : SetWay P w (fun D => TxO P w D []) (AdT P w) where
  new := fun H h => txO_new TxSet.fresh List.nodup_nil
  add := fun {X} pins s σ H D y u N Q E hp hw I r h g => by
    obtain ⟨k, l, rfl, hD, hz, hN⟩ := h
    obtain ⟨t, rfl⟩ := r
    subst hp hw
    exact addT_ok I hD hz fun s' I' => g _ s' I' hN
end
end Ms02

namespace Ms02
open PySem PySem.Spec PyProof.Rows L2
/-- over a list that the block leaves as it is -/
theorem sg_list {N0 : Addr → HO} {Ad : Hp → Addr → V → (Hp → Prop) → Prop} {K : PySem.W.Frag} {a : Addr} {xs : List V} {g : TG} {tt : TT} {te : TE} {vs : List Nat} {σ : L2.St} {H1 : Hp} {D : Addr} {Qd : Hp → Prop} (Pv : Nat → Hp → Prop) (h0 : Pv 0 (upd H1 D (N0 D)))
    (hl : ∀ i H, i ≤ xs.length → Pv i H → SqL K H a xs)
    (hs : ∀ i x H, xs[i]? = some x → Pv i H → g x (wipe σ vs) H fun σ2 H2 => wipe σ2 vs = wipe σ vs ∧ tt σ2 H2 fun b H3 => if b = true then te σ2 H3 fun y H4 => Ad H4 D y (Pv (i + 1)) else Pv (i + 1) H3)
    (hd : ∀ H, Pv xs.length H → Qd H) :
    ∃ W : Nat → Nat → Hp → Prop, (∃ m, W 0 m (upd H1 D (N0 D))) ∧ ∀ i m H, W i m H →
      ((Itl K a).stop i H ∧ Qd H) ∨ ((Itl K a).go i H ∧ ∃ Nx : Hp → Prop, (∀ H', Nx H' → ∃ m', m' < m ∧ W (i + 1) m' H') ∧ ∀ x H', (Itl K a).yld i H x H' → g x (wipe σ vs) H' fun σ2 H2 => wipe σ2 vs = wipe σ vs ∧ tt σ2 H2 fun b H3 =>
        if b = true then te σ2 H3 fun y H4 => Ad H4 D y Nx else Nx H3) := by
  refine ⟨fun i m H => i + m = xs.length ∧ Pv i H, ⟨xs.length, by omega, h0⟩, fun i m H ⟨e, p⟩ => ?_⟩
  have q := hl i H (by omega) p
  cases m with
  | zero =>
    obtain rfl : i = xs.length := by omega
    exact .inl ⟨⟨xs, q, Nat.le_refl _⟩, hd H p⟩
  | succ m =>
    have lt : i < xs.length := by omega
    refine .inr ⟨⟨xs, xs[i], q, by simp [lt]⟩, Pv (i + 1), fun H' p' => ⟨m, by omega, by omega, p'⟩, fun x H' y => ?_⟩
    obtain ⟨e', y⟩ := y
    subst e'
    exact hs i x _ (y xs q) p
theorem len_sub {l : List Str} : ∀ {m : List Str}, l.Nodup → (∀ x ∈ l, x ∈ m) → l.length ≤ m.length := by
  induction l with
  | nil => intro m _ _; exact Nat.zero_le _
  | cons x l ih =>
    intro m nd hs
    obtain ⟨nx, nd⟩ := List.nodup_cons.mp nd
    have hx := hs x List.mem_cons_self
    have := ih (m := m.erase x) nd fun y hy => (List.mem_erase_of_ne (show y ≠ x from fun e => nx (e ▸ hy))).mpr (hs y (List.mem_cons_of_mem _ hy))
    rw [List.length_erase_of_mem hx] at this
    have hp : 0 < m.length := List.length_pos_of_mem hx
    simp only [List.length_cons]
    omega
def isL (e : PyData) (x : Str) : Prop := e = letD x
def isH (e : PyData) (x : Str) : Prop := ∃ (w : Str) (a : PyData), (w = "must" ∨ w = "may") ∧ e = modD w x a
theorem notL {w : Str} {r : List PyData} {x : Str} (h : w ≠ "letter") : ¬ isL (.tuple (.str w :: r)) x := fun q => by
  simp only [isL, letD] at q
  injection q with q
  injection q with q _
  injection q with q
  exact h q
theorem notH {w : Str} {r : List PyData} {x : Str} (h : w ≠ "must") (h' : w ≠ "may") : ¬ isH (.tuple (.str w :: r)) x := fun ⟨v, a, hv, q⟩ => by
  simp only [modD] at q
  injection q with q
  injection q with q _
  injection q with q
  rcases hv with e | e
  · exact h (q.trans e)
  · exact h' (q.trans e)
/-- what the two of texts promise -/
def spTexts (R : PyData → Str → Prop) (K : PySem.W.Frag) : Sp := fun vs H Q _ => ∃ (v : V) (tl : Bool) (n : Nat) (d : PyData) (pool : List Str), vs = [v] ∧ Say tl n d ∧ Dp K H v d ∧ psz n d ≤ 900 ∧ pool.length < 64 ∧ (∀ e ∈ allP n d, ∀ x, R e x → x ∈ pool) ∧
  ∀ H' t ys, Same H H' → ys.Nodup → (∀ x, x ∈ ys ↔ ∃ e ∈ allP n d, R e x) → sortedS ys = true → H' t = some (.tup (ys.map V.str)) → Q (.ref t) H'
theorem more_is {R : PyData → Str → Prop} {l : List Str} {ds : List PyData} {i : Nat} {e : PyData} {k : Str} (he : ds[i]? = some e) (hR : ∀ x, R e x ↔ x = k) (h : ∀ x, x ∈ l ↔ ∃ e ∈ ds.take i, R e x) : ∀ x, x ∈ (if k ∈ l then l else k :: l) ↔ ∃ e ∈ ds.take (i + 1), R e x := by
  intro x
  have h1 : x ∈ (if k ∈ l then l else k :: l) ↔ x ∈ l ∨ x = k := by
    split
    · rename_i hk
      exact ⟨.inl, fun z => z.elim id fun e => e ▸ hk⟩
    · rw [List.mem_cons]
      exact Or.comm
  rw [h1, h x, List.take_add_one, he, Option.toList_some]
  constructor
  · rintro (⟨e', h2, h3⟩ | rfl)
    · exact ⟨e', List.mem_append_left _ h2, h3⟩
    · exact ⟨e, List.mem_append_right _ List.mem_cons_self, (hR x).mpr rfl⟩
  · rintro ⟨e', h2, h3⟩
    rcases List.mem_append.mp h2 with h2 | h2
    · exact .inl ⟨e', h2, h3⟩
    · rw [List.mem_singleton.mp h2] at h3
      exact .inr ((hR x).mp h3)
theorem no_more {R : PyData → Str → Prop} {l : List Str} {ds : List PyData} {i : Nat} {e : PyData} (he : ds[i]? = some e) (hR : ∀ x, ¬ R e x) (h : ∀ x, x ∈ l ↔ ∃ e ∈ ds.take i, R e x) : ∀ x, x ∈ l ↔ ∃ e ∈ ds.take (i + 1), R e x := by
  intro x
  rw [h x, List.take_add_one, he, Option.toList_some]
  constructor
  · rintro ⟨e', h2, h3⟩
    exact ⟨e', List.mem_append_left _ h2, h3⟩
  · rintro ⟨e', h2, h3⟩
    rcases List.mem_append.mp h2 with h2 | h2
    · exact ⟨e', h2, h3⟩
    · rw [List.mem_singleton.mp h2] at h3
      exact absurd h3 (hR x)
theorem nodup_if {l : List Str} {k : Str} (nd : l.Nodup) : (if k ∈ l then l else k :: l).Nodup := by
  split
  · exact nd
  · rename_i hk
    exact List.nodup_cons.mpr ⟨hk, nd⟩
abbrev sLetters : Stmt := topS 2
abbrev sHands : Stmt := topS 3
theorem scLetters : FnScope ["saying", "part"] ["saying"] (defScope sLetters) := ⟨rfl, rfl, rfl, by decide +kernel, rfl, by decide +kernel, by decide +kernel⟩
theorem scHands : FnScope ["saying", "part"] ["saying"] (defScope sHands) := ⟨rfl, rfl, rfl, by decide +kernel, rfl, by decide +kernel, by decide +kernel⟩
section
variable {P : Program} {w : World} {K : PySem.W.Frag} {mg : Str → Option Value} {base : Heap}
theorem ok_letters {f g : Addr} {fd gd : FuncData} {k : Nat} (F : Fun K "letters_of" "letters_of" sLetters f fd) (D : FnOk P w K mg base CX0 k g gd ["saying"] (spEvery K)) (bD : Binds K gd ["saying"] []) (kD : PySem.W.keepIn K (.ref g) = true) (mD : mg "every_part" = some (.ref g))
    (ms : mg "sorted" = none) (mt : mg "tuple" = none) : FnOk P w K mg base CX0 (k + 1) f fd ["saying"] (spTexts isL K) := by
  refine F.ok scLetters (fun vs H Q E h => ?_) (fun cdv A outer s H vs Q E hr h => ?_)
  · obtain ⟨v, tl, n, d, pool, rfl, _⟩ := h
    rfl
  obtain ⟨v, tl, n, d, pool, rfl, hs, hd, hz, hp, hpool, q⟩ := h
  have nd := scLetters.nd
  refine ⟨_, pss_one (ps_ret (pe_callTy call_tuple_of (by rfl) mt (by decide +kernel) (pa_cons (pe_callB (call_sortTx rfl) (by rfl) ms (by decide +kernel) (pa_cons (pe_sg (own := [("part", 1)]) (g := gName 1) (wayT _ _) rfl nd (pi_list (pe_call D hr (by rfl) mD kD bD .nil pass0 (pa_cons (pv 0) pa_nil)))
    (blkOk_by (N := ["saying", "part"]) (sc := defScope sLetters) (by decide +kernel)) (fun _ _ _ _ _ => pg_name (i := 1) nd rfl (Or.inl rfl)) (fun _ _ _ _ _ => pts_one (pt_cmpR op_eq (pe_ix (r := rIxT K) ix_tup (pv 1) pe_int (fun _ _ => rfl)) pe_str (nomark _)))
    (fun _ _ _ _ _ => pe_ix (r := rIxT K) ix_tup (pv 1) pe_int (fun _ _ => rfl))) pa_nil)) pa_nil))), ?_⟩
  refine ⟨_, rfl, v, tl, n, d, rfl, hs, hd, hz, fun H1 l us ds s1 nl hl hds pm => ?_⟩
  refine ⟨l, rfl, ⟨us, SqL.of hl⟩, fun D hD => ?_⟩
  have hsd : ∀ e ∈ ds, Say tl n e := fun e he => allP_say hs e (pm.mem_iff.mp he)
  have sub : ∀ (j : Nat) (l' : List Str), l'.Nodup → (∀ x, x ∈ l' ↔ ∃ e ∈ ds.take j, isL e x) → l'.length ≤ pool.length := fun j l' h1 h2 => len_sub h1 fun x hx => by
    obtain ⟨e, he, hx⟩ := (h2 x).mp hx
    exact hpool e (pm.mem_iff.mp (List.mem_of_mem_take he)) x hx
  refine sg_list (N0 := fun D => TxO P w D []) (Ad := AdT P w) (K := K) (a := l) (xs := us) (fun i H' => ∃ l' : List Str, H' D = some (TxO P w D l') ∧ l'.Nodup ∧ (∀ x, x ∈ l' ↔ ∃ e ∈ ds.take i, isL e x) ∧ Same H1 H')
    ⟨[], upd_same, List.nodup_nil, by simp, same_new hD _⟩ (fun i H' _ ⟨_, _, _, _, sm⟩ => same_seq sm (SqL.of hl)) (fun i x H' hx ⟨l', h1, h2, h3, sm⟩ => ?_) (fun H' ⟨l', h1, h2, h3, sm⟩ => ?_)
  · obtain ⟨e, he, hde⟩ := dpAll_get hds hx
    have hse := hsd e (List.mem_of_getElem? he)
    obtain ⟨a, m, rfl, rfl, hc⟩ := say_at hse (dp_same sm _ _ hde)
    refine ⟨rfl, ?_⟩
    rcases hc with ⟨y, hy, rfl, hq⟩ | ⟨e', y, _, rfl, _, hq⟩ | ⟨w', es, b, hw, _, rfl, _, hq⟩ | ⟨w', e', f', y, z, hw, _, _, rfl, _, _, hq⟩ | ⟨w', h', e', y, hw, _, _, rfl, _, hq⟩
    · refine ⟨_, rfl, a, _, 0, _, rfl, rfl, hq, rfl, rfl, _, rfl, ite2 (fun c => ?_) (fun c => absurd (by decide) c)⟩
      refine ⟨_, rfl, a, _, 1, _, rfl, rfl, hq, rfl, y, l', rfl, h1, ?_, _, upd_same, nodup_if h2, more_is he (fun x => ⟨fun q => ?_, fun q => by rw [q]; rfl⟩) h3, same_at hD sm _⟩
      · exact Nat.lt_of_le_of_lt (Nat.succ_le_succ (Nat.le_trans (sub i l' h2 h3) (Nat.le_of_lt hp))) (by decide)
      · simp only [isL, letD] at q
        injection q with q
        injection q with _ q
        injection q with q
        injection q with q
        exact q.symm
    · refine ⟨_, rfl, a, _, 0, _, rfl, rfl, hq, rfl, rfl, _, rfl, ite2 (fun c => absurd c (by decide)) (fun c => ⟨l', h1, h2, no_more he (fun x => notL (by decide)) h3, sm⟩)⟩
    · rcases hw with rfl | rfl
      · refine ⟨_, rfl, a, _, 0, _, rfl, rfl, hq, rfl, rfl, _, rfl, ite2 (fun c => absurd c (by decide)) (fun c => ⟨l', h1, h2, no_more he (fun x => notL (by decide)) h3, sm⟩)⟩
      · refine ⟨_, rfl, a, _, 0, _, rfl, rfl, hq, rfl, rfl, _, rfl, ite2 (fun c => absurd c (by decide)) (fun c => ⟨l', h1, h2, no_more he (fun x => notL (by decide)) h3, sm⟩)⟩
    · rcases hw with rfl | rfl
      · refine ⟨_, rfl, a, _, 0, _, rfl, rfl, hq, rfl, rfl, _, rfl, ite2 (fun c => absurd c (by decide)) (fun c => ⟨l', h1, h2, no_more he (fun x => notL (by decide)) h3, sm⟩)⟩
      · refine ⟨_, rfl, a, _, 0, _, rfl, rfl, hq, rfl, rfl, _, rfl, ite2 (fun c => absurd c (by decide)) (fun c => ⟨l', h1, h2, no_more he (fun x => notL (by decide)) h3, sm⟩)⟩
    · rcases hw with rfl | rfl
      · refine ⟨_, rfl, a, _, 0, _, rfl, rfl, hq, rfl, rfl, _, rfl, ite2 (fun c => absurd c (by decide)) (fun c => ⟨l', h1, h2, no_more he (fun x => notL (by decide)) h3, sm⟩)⟩
      · refine ⟨_, rfl, a, _, 0, _, rfl, rfl, hq, rfl, rfl, _, rfl, ite2 (fun c => absurd c (by decide)) (fun c => ⟨l', h1, h2, no_more he (fun x => notL (by decide)) h3, sm⟩)⟩
  · have ln := sub us.length l' h2 h3
    rw [dpAll_len hds, List.take_length] at h3
    refine ⟨D, l', rfl, h1, by omega, fun ys p py so np => ⟨p, _, rfl, .inl ⟨SqL.of upd_same, fun t nt => ?_⟩⟩⟩
    refine q _ t ys (s1.trans (sm.trans ((same_new np _).trans (same_new nt _)))) (py.nodup_iff.mpr h2) (fun x => ?_) so upd_same
    rw [py.mem_iff, h3 x]
    exact ⟨fun ⟨e, he, r⟩ => ⟨e, pm.mem_iff.mp he, r⟩, fun ⟨e, he, r⟩ => ⟨e, pm.mem_iff.mpr he, r⟩⟩
end
end Ms02

namespace Ms02
open PySem PySem.Spec PyProof.Rows L2
section
variable {P : Program} {w : World} {K : PySem.W.Frag} {mg : Str → Option Value} {base : Heap}
theorem ok_hands {f g : Addr} {fd gd : FuncData} {k : Nat} (F : Fun K "hands_of" "hands_of" sHands f fd) (D : FnOk P w K mg base CX0 k g gd ["saying"] (spEvery K)) (bD : Binds K gd ["saying"] []) (kD : PySem.W.keepIn K (.ref g) = true) (mD : mg "every_part" = some (.ref g))
    (ms : mg "sorted" = none) (mt : mg "tuple" = none) : FnOk P w K mg base CX0 (k + 1) f fd ["saying"] (spTexts isH K) := by
  refine F.ok scHands (fun vs H Q E h => ?_) (fun cdv A outer s H vs Q E hr h => ?_)
  · obtain ⟨v, tl, n, d, pool, rfl, _⟩ := h
    rfl
  obtain ⟨v, tl, n, d, pool, rfl, hs, hd, hz, hp, hpool, q⟩ := h
  have nd := scHands.nd
  refine ⟨_, pss_one (ps_ret (pe_callTy call_tuple_of (by rfl) mt (by decide +kernel) (pa_cons (pe_callB (call_sortTx rfl) (by rfl) ms (by decide +kernel) (pa_cons (pe_sg (own := [("part", 1)]) (g := gName 1) (wayT _ _) rfl nd (pi_list (pe_call D hr (by rfl) mD kD bD .nil pass0 (pa_cons (pv 0) pa_nil)))
    (blkOk_by (N := ["saying", "part"]) (sc := defScope sHands) (by decide +kernel)) (fun _ _ _ _ _ => pg_name (i := 1) nd rfl (Or.inl rfl)) (fun _ _ _ _ _ => pts_one (pt_cmpR (r := rIn K false) op_in_seq (pe_ix (r := rIxT K) ix_tup (pv 1) pe_int (fun _ _ => rfl)) (pe_tup (pa_cons pe_str (pa_cons pe_str pa_nil))) (by rfl)))
    (fun _ _ _ _ _ => pe_ix (r := rIxT K) ix_tup (pv 1) pe_int (fun _ _ => rfl))) pa_nil)) pa_nil))), ?_⟩
  refine ⟨_, rfl, v, tl, n, d, rfl, hs, hd, hz, fun H1 l us ds s1 nl hl hds pm => ?_⟩
  refine ⟨l, rfl, ⟨us, SqL.of hl⟩, fun D hD => ?_⟩
  have hsd : ∀ e ∈ ds, Say tl n e := fun e he => allP_say hs e (pm.mem_iff.mp he)
  have sub : ∀ (j : Nat) (l' : List Str), l'.Nodup → (∀ x, x ∈ l' ↔ ∃ e ∈ ds.take j, isH e x) → l'.length ≤ pool.length := fun j l' h1 h2 => len_sub h1 fun x hx => by
    obtain ⟨e, he, hx⟩ := (h2 x).mp hx
    exact hpool e (pm.mem_iff.mp (List.mem_of_mem_take he)) x hx
  refine sg_list (N0 := fun D => TxO P w D []) (Ad := AdT P w) (K := K) (a := l) (xs := us) (fun i H' => ∃ l' : List Str, H' D = some (TxO P w D l') ∧ l'.Nodup ∧ (∀ x, x ∈ l' ↔ ∃ e ∈ ds.take i, isH e x) ∧ Same H1 H')
    ⟨[], upd_same, List.nodup_nil, by simp, same_new hD _⟩ (fun i H' _ ⟨_, _, _, _, sm⟩ => same_seq sm (SqL.of hl)) (fun i x H' hx ⟨l', h1, h2, h3, sm⟩ => ?_) (fun H' ⟨l', h1, h2, h3, sm⟩ => ?_)
  · obtain ⟨e, he, hde⟩ := dpAll_get hds hx
    have hse := hsd e (List.mem_of_getElem? he)
    obtain ⟨a, m, rfl, rfl, hc⟩ := say_at hse (dp_same sm _ _ hde)
    refine ⟨rfl, ?_⟩
    rcases hc with ⟨y, hy, rfl, hq⟩ | ⟨e', y, _, rfl, _, hq⟩ | ⟨w', es, b, hw, _, rfl, _, hq⟩ | ⟨w', e', f', y, z, hw, _, _, rfl, _, _, hq⟩ | ⟨w', h', e', y, hw, _, _, rfl, _, hq⟩
    · refine ⟨_, rfl, a, _, 0, _, rfl, rfl, hq, rfl, zz2, fun u nu => ⟨u, _, rfl, .inr (.inl (.inl upd_same)), rfl, rfl, _, rfl, ite2 (fun c => absurd c (by decide)) (fun c => ?_)⟩⟩
      have su : Same H1 _ := sm.trans (same_new nu (.tup [.str "must", .str "may"]))
      exact ⟨l', same_new nu _ _ _ h1, h2, no_more he (fun x => notH (by decide) (by decide)) h3, su⟩
    · refine ⟨_, rfl, a, _, 0, _, rfl, rfl, hq, rfl, zz2, fun u nu => ⟨u, _, rfl, .inr (.inl (.inl upd_same)), rfl, rfl, _, rfl, ite2 (fun c => absurd c (by decide)) (fun c => ?_)⟩⟩
      have su : Same H1 _ := sm.trans (same_new nu (.tup [.str "must", .str "may"]))
      exact ⟨l', same_new nu _ _ _ h1, h2, no_more he (fun x => notH (by decide) (by decide)) h3, su⟩
    · rcases hw with rfl | rfl
      · refine ⟨_, rfl, a, _, 0, _, rfl, rfl, hq, rfl, zz2, fun u nu => ⟨u, _, rfl, .inr (.inl (.inl upd_same)), rfl, rfl, _, rfl, ite2 (fun c => absurd c (by decide)) (fun c => ?_)⟩⟩
        have su : Same H1 _ := sm.trans (same_new nu (.tup [.str "must", .str "may"]))
        exact ⟨l', same_new nu _ _ _ h1, h2, no_more he (fun x => notH (by decide) (by decide)) h3, su⟩
      · refine ⟨_, rfl, a, _, 0, _, rfl, rfl, hq, rfl, zz2, fun u nu => ⟨u, _, rfl, .inr (.inl (.inl upd_same)), rfl, rfl, _, rfl, ite2 (fun c => absurd c (by decide)) (fun c => ?_)⟩⟩
        have su : Same H1 _ := sm.trans (same_new nu (.tup [.str "must", .str "may"]))
        exact ⟨l', same_new nu _ _ _ h1, h2, no_more he (fun x => notH (by decide) (by decide)) h3, su⟩
    · rcases hw with rfl | rfl
      · refine ⟨_, rfl, a, _, 0, _, rfl, rfl, hq, rfl, zz2, fun u nu => ⟨u, _, rfl, .inr (.inl (.inl upd_same)), rfl, rfl, _, rfl, ite2 (fun c => absurd c (by decide)) (fun c => ?_)⟩⟩
        have su : Same H1 _ := sm.trans (same_new nu (.tup [.str "must", .str "may"]))
        exact ⟨l', same_new nu _ _ _ h1, h2, no_more he (fun x => notH (by decide) (by decide)) h3, su⟩
      · refine ⟨_, rfl, a, _, 0, _, rfl, rfl, hq, rfl, zz2, fun u nu => ⟨u, _, rfl, .inr (.inl (.inl upd_same)), rfl, rfl, _, rfl, ite2 (fun c => absurd c (by decide)) (fun c => ?_)⟩⟩
        have su : Same H1 _ := sm.trans (same_new nu (.tup [.str "must", .str "may"]))
        exact ⟨l', same_new nu _ _ _ h1, h2, no_more he (fun x => notH (by decide) (by decide)) h3, su⟩
    · rcases hw with rfl | rfl
      · refine ⟨_, rfl, a, _, 0, _, rfl, rfl, hq, rfl, zz2, fun u nu => ⟨u, _, rfl, .inr (.inl (.inl upd_same)), rfl, rfl, _, rfl, ite2 (fun c => ?_) (fun c => absurd (by decide) c)⟩⟩
        have su : Same H1 _ := sm.trans (same_new nu (.tup [.str "must", .str "may"]))
        refine ⟨_, rfl, a, _, 1, _, rfl, rfl, (Tp.same (same_new nu _)).tup hq, rfl, h', l', rfl, same_new nu _ _ _ h1, ?_, _, upd_same, nodup_if h2, more_is he (fun x => ⟨fun ⟨v', a', hv', q⟩ => ?_, fun q => ⟨_, e', .inl rfl, by rw [q]⟩⟩) h3, same_at hD su _⟩
        · exact Nat.lt_of_le_of_lt (Nat.succ_le_succ (Nat.le_trans (sub i l' h2 h3) (Nat.le_of_lt hp))) (by decide)
        · simp only [modD] at q
          injection q with q
          injection q with _ q
          injection q with q
          injection q with q
          exact q.symm
      · refine ⟨_, rfl, a, _, 0, _, rfl, rfl, hq, rfl, zz2, fun u nu => ⟨u, _, rfl, .inr (.inl (.inl upd_same)), rfl, rfl, _, rfl, ite2 (fun c => ?_) (fun c => absurd (by decide) c)⟩⟩
        have su : Same H1 _ := sm.trans (same_new nu (.tup [.str "must", .str "may"]))
        refine ⟨_, rfl, a, _, 1, _, rfl, rfl, (Tp.same (same_new nu _)).tup hq, rfl, h', l', rfl, same_new nu _ _ _ h1, ?_, _, upd_same, nodup_if h2, more_is he (fun x => ⟨fun ⟨v', a', hv', q⟩ => ?_, fun q => ⟨_, e', .inr rfl, by rw [q]⟩⟩) h3, same_at hD su _⟩
        · exact Nat.lt_of_le_of_lt (Nat.succ_le_succ (Nat.le_trans (sub i l' h2 h3) (Nat.le_of_lt hp))) (by decide)
        · simp only [modD] at q
          injection q with q
          injection q with _ q
          injection q with q
          injection q with q
          exact q.symm
  · have ln := sub us.length l' h2 h3
    rw [dpAll_len hds, List.take_length] at h3
    refine ⟨D, l', rfl, h1, by omega, fun ys p py so np => ⟨p, _, rfl, .inl ⟨SqL.of upd_same, fun t nt => ?_⟩⟩⟩
    refine q _ t ys (s1.trans (sm.trans ((same_new np _).trans (same_new nt _)))) (py.nodup_iff.mpr h2) (fun x => ?_) so upd_same
    rw [py.mem_iff, h3 x]
    exact ⟨fun ⟨e, he, r⟩ => ⟨e, pm.mem_iff.mp he, r⟩, fun ⟨e, he, r⟩ => ⟨e, pm.mem_iff.mpr he, r⟩⟩
end
end Ms02

namespace Ms02
open PySem PySem.Spec PyProof.Rows L2
open PySem.W (keyToks keyToksAll dataLt)
/-! ### there is just one rising row of texts with the same members -/
theorem lt_cps (x y : Str) : dataLt (.str y) (.str x) = ltCps y.cps.toList x.cps.toList := by
  rw [PySem.W.dataLt_str, ltCps_eq]
theorem rising_pw : ∀ (l : List Str) (x : Str), risingS x l = true → (PyData.str x :: l.map PyData.str).Pairwise (fun a b => dataLt b a = false)
  | [], x, _ => by simp
  | y :: l, x, h => by
    simp only [risingS, Bool.and_eq_true, Bool.not_eq_true'] at h
    have ih := rising_pw l y h.2
    have e : dataLt (.str y) (.str x) = false := by rw [lt_cps]; exact h.1
    refine List.pairwise_cons.mpr ⟨fun z hz => ?_, ih⟩
    rcases List.mem_cons.mp hz with rfl | hz
    · exact e
    · exact st_tr _ _ _ e ((List.pairwise_cons.mp ih).1 z hz)
theorem sorted_pw {l : List Str} (h : sortedS l = true) : (l.map PyData.str).Pairwise (fun a b => dataLt b a = false) := by
  cases l with
  | nil => simp
  | cons x l => exact rising_pw l x h
theorem map_str_inj : ∀ {l m : List Str}, l.map PyData.str = m.map PyData.str → l = m
  | [], [], _ => rfl
  | [], _ :: _, h => by simp at h
  | _ :: _, [], h => by simp at h
  | x :: l, y :: m, h => by
    rw [List.map_cons, List.map_cons] at h
    injection h with h1 h2
    injection h1 with h1
    rw [h1, map_str_inj h2]
theorem texts_uniq {l m : List Str} (nl : l.Nodup) (nm : m.Nodup) (h : ∀ x, x ∈ l ↔ x ∈ m) (sl : sortedS l = true) (sm : sortedS m = true) : l = m := by
  have h1 := len_sub nl fun x hx => (h x).mp hx
  have h2 := len_sub nm fun x hx => (h x).mpr hx
  have p : m.Perm l := perm_of nl (fun x hx => (h x).mp hx) (by omega)
  have e := perm_sorted (p.symm.map PyData.str) (sorted_pw sl) (sorted_pw sm) fun d hd => by
    obtain ⟨x, _, rfl⟩ := List.mem_map.mp hd
    rfl
  exact map_str_inj e
end Ms02

namespace Ms02
open PySem PySem.Spec PyProof.Rows L2
section
variable {P : Program} {w : World} {A : Around} {E : Value → Shared → Prop} {s : Shared}
/-- a text goes into a set -/
theorem setAdd_text {a : Addr} {l : List Str} {k : Str} {u : Tok} {Q : Bool → Shared → Prop} (R : TxSet P w s.heap a l) (hb : l.length + 1 < scanBound)
    (h : ∀ b h', (∀ b o, b ≠ a → s.heap.get? b = some o → h'.get? b = some o) → TxSet P w h' a (if k ∈ l then l else k :: l) → Q b { s with heap := h', toks := s.toks + 1 }) : wpAny (model P w) A (setAdd a (.str k u)) Q E s := by
  obtain ⟨D, ho, Fx, hr, hl⟩ := R
  unfold setAdd
  refine wpAny_holding ?_
  refine wpAny_bind ((strKind P w).pyHash (PySem.Froz.is_str k u) ?_)
  by_cases hk : k ∈ l
  · refine add_old (s := { s with toks := s.toks + 1 }) ho Fx hk (by omega) ?_
    exact h false s.heap (fun b o _ e => e) (by rw [if_pos hk]; exact ⟨D, ho, Fx, hr, hl⟩)
  · refine PySem.Froz.add_x (s := { s with toks := s.toks + 1 }) ho Fx hk hb ?_
    refine h true _ (fun b o hn e => ?_) (by rw [if_neg hk]; exact ⟨_, PySem.Froz.get_upd _ ho rfl, PySem.Froz.add_ok u Fx, addTx_ris hr, by rw [addTx_led]; exact hl⟩)
    rw [Heap.get?_update_ne _ _ _ _ hn]
    exact e
end
section
variable {prog : Program} {w : World} {A : Around} {R : Result → Shared → Prop} {I : Addr} {fp wr : List Addr} {G : Array GenState → Array GenState → Prop} {n : Nat} {Pv : Nat → Value → Prop} {St : Nat → Shared → Prop}
/-- the things of a walk go into a set, one by one -/
theorem set_loopG (W : WalksS prog w A.in1 I fp wr G n Pv St) (S : Addr) (hSf : S ∉ fp) (Ps : Nat → Heap → Prop) (keep : ∀ i h h', Ps i h → (∀ o, h.get? S = some o → h'.get? S = some o) → Ps i h')
    (add : ∀ i v (A' : Around) (s : Shared) (Q : Bool → Shared → Prop) (E : Value → Shared → Prop), Pv i v → Ps i s.heap → (∀ b h', (∀ b o, b ≠ S → s.heap.get? b = some o → h'.get? b = some o) → Ps (i + 1) h' → Q b { s with heap := h', toks := s.toks + 1 }) → wpAny (model prog w) A' (setAdd S v) Q E s) :
    ∀ (k i : Nat) (s : Shared), n - i = k → i ≤ n → St i s → Ps i s.heap → (∀ s', Moved (S :: wr) G s s' → Ps n s'.heap → R (.ok (.ret .none)) s') → codeAny (model prog w) A (.builtin "set.update.loop" ⟨[.ref S, .ref I], []⟩) R s := by
  have hSw : S ∉ wr := fun h => hSf (W.sub _ h)
  have hsub : ∀ b ∈ wr, b ∈ S :: wr := fun b hb => List.mem_cons_of_mem _ hb
  intro k
  induction k with
  | zero =>
    intro i s hk hi hst hS hR
    obtain rfl : i = n := by omega
    refine codeAny_builtin PyProof.Rows.F.entry_set_update_loop ?_
    rw [Around.under_plainId PyProof.Rows.F.plain_set_update_loop _]
    show wpAny _ A.in1 (pyNext (.ref I) >>= _) _ _ s
    refine wpAny_bind (W.done s _ _ hst fun s' hm => ?_)
    show wpAny _ A.in1 (ret Value.none) _ _ s'
    exact wpAny_pure (hR s' (hm.mono hsub) (keep _ _ _ hS fun o e => hm.heap S _ hSw e))
  | succ k ih =>
    intro i s hk hi hst hS hR
    refine codeAny_builtin PyProof.Rows.F.entry_set_update_loop ?_
    rw [Around.under_plainId PyProof.Rows.F.plain_set_update_loop _]
    show wpAny _ A.in1 (pyNext (.ref I) >>= _) _ _ s
    refine wpAny_bind (W.item i s _ _ (by omega) hst fun v s' hP hst' hm => ?_)
    show wpAny _ A.in1 (holding [v] (setAdd S v) >>= _) _ _ s'
    refine wpAny_bind (wpAny_holding ?_)
    refine add i v A.in1 s' _ _ hP (keep _ _ _ hS fun o e => hm.heap S _ hSw e) fun b h' kp hS2 => ?_
    refine wpAny_pure ⟨plainId_quiet PyProof.Rows.F.plain_set_update_loop _, ih (i + 1) _ (by omega) (by omega) (W.frame _ s' _ _ hst' (Nat.le_succ _) fun b hb o e => kp b o (fun z => hSf (z ▸ hb)) e) hS2 fun s'' hm'' hS'' => ?_⟩
    exact hR s'' (Moved.trans W.gtrans ((hm.mono hsub).then_heap (Nat.le_succ _) fun b o hb e => kp b o (fun z => hb (by rw [z]; exact List.mem_cons_self)) e) hm'') hS''
end
end Ms02

namespace Ms02
open PySem PySem.Spec PyProof.Rows L2
section
variable {P : Program} {w : World} {A : Around} {E : Value → Shared → Prop} {s : Shared}
abbrev freshSet (w : World) : Obj := { cls := .type "set", dict := none, data := .set #[] 0 (.fresh 0 0 (!w.params.followText "set-order")) }
set_option maxHeartbeats 3200000 in
/-- set(xs) of a list, whatever its things: Ps i, the new set holds what the first i are -/
theorem call_set_listG {l : Addr} {items : Array Value} {Q : Value → Shared → Prop} (hh : A.handled = none) (hl : s.heap.IsList l items) (Ps : Nat → Heap → Prop) (h0 : ∀ h, h.get? s.heap.objs.size = some (freshSet w) → Ps 0 h)
    (keep : ∀ i h h', Ps i h → (∀ o, h.get? s.heap.objs.size = some o → h'.get? s.heap.objs.size = some o) → Ps i h')
    (add : ∀ i v (A' : Around) (s' : Shared) (Q : Bool → Shared → Prop) (E : Value → Shared → Prop), items[i]? = some v → Ps i s'.heap → (∀ b h', (∀ b o, b ≠ s.heap.objs.size → s'.heap.get? b = some o → h'.get? b = some o) → Ps (i + 1) h' → Q b { s' with heap := h', toks := s'.toks + 1 }) →
      wpAny (model P w) A' (setAdd s.heap.objs.size v) Q E s')
    (h : ∀ (h' : Heap) (tk : Nat), Ps items.size h' → (∀ b o, s.heap.get? b = some o → h'.get? b = some o) → Q (.ref s.heap.objs.size) { s with heap := h', toks := tk }) :
    wpAny (model P w) A (call (.type "set") [.ref l]) Q E s := by
  obtain ⟨c, tl, hmro⟩ := PySem.F.called_set.mro
  have hmade := PySem.F.called_set.made
  have hsub := PySem.F.called_set.sub
  refine wpAny_call (codeAny_of_tree ?_)
  show wpAny _ _ (callAny (.type "set") _) _ _ _
  refine wpAny_pure ⟨Code.quiet_builtin _ (by decide +kernel), codeAny_builtin PySem.F.entry_type_call ?_⟩
  rw [Around.under_plain (weight_type_call_type "set" [.ref l] []) rfl]
  have h1 := PySem.F.called_set.notType
  have h2 := PySem.F.called_set.canCreate
  have hct := PySem.F.typeCall_set_1 (.ref l)
  repeat (any_goals (first | assumption | wp_step))
  refine codeAny_mono (code_set_led1 (.ref l) (E := E) (Q₁ := fun obj s₁ => obj = .ref s.heap.objs.size ∧ s₁ = { s with heap := s.heap.push (freshSet w) }) ⟨rfl, rfl⟩) fun r s₁ hr => ?_
  cases r with
  | error e => exact hr
  | ok fl =>
    cases fl with
    | ret obj =>
      obtain ⟨rfl, rfl⟩ := hr
      have hS : (s.heap.push (freshSet w)).get? s.heap.objs.size = some (freshSet w) := Heap.get?_push_size _ rfl
      have hT : Shared.TypeIs { s with heap := s.heap.push (freshSet w) } (.ref s.heap.objs.size) "set" := ⟨_, hS, rfl⟩
      have hli := PySem.F.called_set.init.lookup
      have hbi := PySem.F.called_set.init.bind (.ref s.heap.objs.size)
      repeat (any_goals (first | assumption | wp_step))
      refine codeAny_mono (codeAny_call_builtin (R := wants (fun r s₂ => r = .none ∧ ∃ h' tk, s₂ = { s with heap := h', toks := tk } ∧ Ps items.size h' ∧ (∀ b o, s.heap.get? b = some o → h'.get? b = some o)) E)
        PySem.F.called_set.init.plain PySem.F.entry_set_init (check_set_init_1 hT ?_)) fun r₂ s₂ hr₂ => ?_
      · obtain ⟨⟨ocls, odict, odata, oslots⟩, hol, hcl, nl, hdl⟩ := hl
        simp only at hcl hdl
        subst hcl hdl
        have hol' : (s.heap.push (freshSet w)).get? l = some { cls := .type "list", dict := odict, data := .seq items nl, slots := oslots } := Heap.get?_push_of_some _ hol
        have hsls := PySem.F.sub_list_set
        have hslf := PySem.F.sub_list_frozenset
        have hne : (Value.type "list" == Value.type "dict") = false := by decide
        have hl1 : (s.heap.push (freshSet w)).IsList l items := ⟨_, hol', rfl, nl, rfl⟩
        unfold Builtin.«set.__init__» noKeywords Builtin.Frozenset.updateFrom
        generalize hPI : pyIter = PI
        wp_walk
        subst hPI
        refine wpAny_pyIter_list hl1 ?_
        refine wpAny_bind (wpAny_runValue ?_)
        have hlS : l < s.heap.objs.size := Heap.lt_size hol
        have hh3 : A.in1.in1.in1.handled = none := by simp [hh]
        have hz1 : (s.heap.push (freshSet w)).objs.size = s.heap.objs.size + 1 := Heap.size_push ..
        have hneI : l ≠ (s.heap.push (freshSet w)).objs.size := by rw [hz1]; exact Nat.ne_of_lt (Nat.lt_succ_of_lt hlS)
        have hSf : s.heap.objs.size ∉ [(s.heap.push (freshSet w)).objs.size, l] := by
          rw [hz1]
          simp only [List.mem_cons, List.not_mem_nil, or_false, not_or]
          exact ⟨Nat.ne_of_lt (Nat.lt_succ_self _), Nat.ne_of_gt hlS⟩
        refine set_loopG ((Walks.list hh3 _ l hneI items).toS) s.heap.objs.size hSf Ps keep (fun i v A' s' Q E hv hp k => add i v A' s' Q E hv hp k) (items.size - 0) 0 _ (by omega) (Nat.zero_le _) ⟨⟨_, Heap.get?_push_size _ rfl, rfl, rfl⟩, (hl1.push _)⟩ (h0 _ (Heap.get?_push_of_some _ hS)) ?_
        intro s' hm hS'
        obtain ⟨h', g2, d', tk', os'⟩ := s'
        have eg : g2 = s.gens := hm.gens
        have ed : d' = s.drawn := hm.drawn
        have eo : os' = s.os := hm.os
        subst eg
        subst ed
        subst eo
        show wpAny _ _ _ _ _ _
        refine wpAny_pure ?_
        show wpAny _ _ (ret Value.none) _ _ _
        refine wpAny_pure ⟨rfl, h', tk', rfl, hS', fun b o e => ?_⟩
        have hb0 : b < s.heap.objs.size := Heap.lt_size e
        refine hm.heap b o ?_ (Heap.get?_push_of_some _ (Heap.get?_push_of_some _ e))
        rw [hz1]
        simp only [List.mem_cons, List.not_mem_nil, or_false, not_or]
        exact ⟨Nat.ne_of_lt hb0, Nat.ne_of_lt (Nat.lt_succ_of_lt hb0)⟩
      · cases r₂ with
        | error e => exact hr₂
        | ok fl₂ =>
          cases fl₂ with
          | ret r =>
            obtain ⟨rfl, h', tk, rfl, hS', hk'⟩ := hr₂
            repeat (any_goals (first | assumption | wp_step))
            exact h _ _ hS' hk'
          | _ => exact hr₂.elim
    | _ => exact hr.elim
end
end Ms02

namespace Ms02
open PySem PySem.Spec PyProof.Rows L2
theorem fresh_at {P : Program} {w : World} {h : Heap} {a : Addr} (e : h.get? a = some (freshSet w)) : TxSet P w h a [] :=
  ⟨(#[], 0, .fresh 0 0 (!w.params.followText "set-order")), e, .nil (by rfl), List.Pairwise.nil, by
    show _ ∨ (!w.params.followText "set-order") = true
    cases w.params.followText "set-order"
    · exact .inr rfl
    · exact .inl rfl⟩
theorem take_more {xs : List Str} {l : List Str} {i : Nat} {k : Str} (hk : xs[i]? = some k) (h : ∀ x, x ∈ l ↔ x ∈ xs.take i) : ∀ x, x ∈ (if k ∈ l then l else k :: l) ↔ x ∈ xs.take (i + 1) := by
  intro x
  have h1 : x ∈ (if k ∈ l then l else k :: l) ↔ x ∈ l ∨ x = k := by
    split
    · rename_i hk
      exact ⟨.inl, fun z => z.elim id fun e => e ▸ hk⟩
    · rw [List.mem_cons]
      exact Or.comm
  rw [h1, h x, List.take_add_one, hk, Option.toList_some, List.mem_append, List.mem_singleton]
section
variable {X : Cx}
/-- set(xs) of a list of texts -/
def rSetTx (P : Program) (w : World) (K : PySem.W.Frag) : List V → Hp → VK → Prop := fun vs H Q => ∃ (a : Addr) (xs : List Str), vs = [.ref a] ∧ SqL K H a (xs.map V.str) ∧ xs.length + 1 < scanBound ∧ ∀ p l, l.Nodup → (∀ x, x ∈ l ↔ x ∈ xs) → H p = none → Q (.ref p) (upd H p (TxO P w p l))
theorem call_setTx (hc : X.calm = true) : CallR X (.type "set") (rSetTx X.prog X.w X.K) := by
  intro pins s σ H vs us Q I r h
  obtain ⟨a, xs, rfl, hs, hb, q⟩ := h
  obtain ⟨its, rv, hl, _⟩ := I.list hs
  rw [Vals.ref1 r]
  have hlen := rv.length
  rw [List.length_map] at hlen
  have at_ : ∀ i v, its.toArray[i]? = some v → ∃ k t, xs[i]? = some k ∧ v = Value.str k t := fun i v hv => by
    rw [List.getElem?_toArray] at hv
    obtain ⟨u, h1, h2⟩ := vals_at rv hv
    rw [List.getElem?_map] at h1
    cases e : xs[i]? with
    | none => rw [e] at h1; cases h1
    | some k =>
      rw [e] at h1
      obtain rfl : V.str k = u := Option.some.inj h1
      obtain ⟨t, rfl⟩ := h2
      exact ⟨k, t, e, rfl⟩
  refine call_set_listG (I.ok.hd hc) hl.isList (fun i h => ∃ l : List Str, TxSet X.prog X.w h s.heap.objs.size l ∧ l.Nodup ∧ ∀ x, x ∈ l ↔ x ∈ xs.take i) (fun h e => ⟨[], fresh_at e, List.nodup_nil, by simp⟩)
    (fun i h h' ⟨l, h1, h2, h3⟩ k => ⟨l, h1.at k, h2, h3⟩) (fun i v A' s' Q E hv ⟨l, h1, h2, h3⟩ k => ?_) fun h' tk ⟨l, h1, h2, h3⟩ kp => ?_
  · obtain ⟨x, t, hx, rfl⟩ := at_ i v hv
    have ll := len_sub h2 fun y hy => List.mem_of_mem_take ((h3 y).mp hy)
    exact setAdd_text h1 (by omega) fun b h' kp hS => k b h' kp ⟨_, hS, nodup_if h2, take_more hx h3⟩
  · rw [List.size_toArray, ← hlen, List.take_length] at h3
    exact ⟨.ref s.heap.objs.size, _, I.laid (t' := tk) kp (Nat.le_refl _) (txO_new h1 h2), rfl, q _ l h2 h3 (I.hok.fresh (Nat.le_refl _))⟩
end
end Ms02

namespace Ms02
open PySem PySem.Spec PyProof.Rows L2
/-! ### data of a bounded size -/
structure Nice (N D : Nat) (d : PyData) : Prop where
  sh : d.showable = true
  nd : d.hasDict = false
  len : d.shown.length ≤ N
  dep : d.depth ≤ D
theorem Nice.mono {N N' D D' : Nat} {d : PyData} (h : Nice N D d) (a : N ≤ N') (b : D ≤ D') : Nice N' D' d := ⟨h.sh, h.nd, Nat.le_trans h.len a, Nat.le_trans h.dep b⟩
theorem nice_t0 : Nice 2 1 (.tuple []) := ⟨by decide +kernel, by decide +kernel, by decide +kernel, by decide +kernel⟩
theorem nice_t1 {N D : Nat} {a : PyData} (h : Nice N D a) : Nice (N + 5) (D + 1) (.tuple [a]) := by
  refine ⟨by simp [PyData.showable, PyData.showableAll, h.sh], by simp [PyData.hasDict, PyData.hasDictAll, h.nd], ?_, ?_⟩
  · have e := tupleText_len_le (PyData.shownAll [a])
    simp only [PyData.shownAll, List.map_cons, List.map_nil, List.sum_cons, List.sum_nil, List.length_cons, List.length_nil] at e
    have := h.len
    simp only [PyData.shown, PyData.shownAll]
    omega
  · have := h.dep
    simp only [PyData.depth, PyData.depthAll]
    omega
theorem nice_t2 {N M D E : Nat} {a b : PyData} (h : Nice N D a) (g : Nice M E b) : Nice (N + M + 7) (max D E + 1) (.tuple [a, b]) := by
  refine ⟨by simp [PyData.showable, PyData.showableAll, h.sh, g.sh], by simp [PyData.hasDict, PyData.hasDictAll, h.nd, g.nd], ?_, ?_⟩
  · have e := tupleText_len_le (PyData.shownAll [a, b])
    simp only [PyData.shownAll, List.map_cons, List.map_nil, List.sum_cons, List.sum_nil, List.length_cons, List.length_nil] at e
    have := h.len
    have := g.len
    simp only [PyData.shown, PyData.shownAll]
    omega
  · have := h.dep
    have := g.dep
    simp only [PyData.depth, PyData.depthAll]
    omega
theorem nice_t3 {N M L D E F : Nat} {a b c : PyData} (h : Nice N D a) (g : Nice M E b) (i : Nice L F c) : Nice (N + M + L + 9) (max D (max E F) + 1) (.tuple [a, b, c]) := by
  refine ⟨by simp [PyData.showable, PyData.showableAll, h.sh, g.sh, i.sh], by simp [PyData.hasDict, PyData.hasDictAll, h.nd, g.nd, i.nd], ?_, ?_⟩
  · have e := tupleText_len_le (PyData.shownAll [a, b, c])
    simp only [PyData.shownAll, List.map_cons, List.map_nil, List.sum_cons, List.sum_nil, List.length_cons, List.length_nil] at e
    have := h.len
    have := g.len
    have := i.len
    simp only [PyData.shown, PyData.shownAll]
    omega
  · have := h.dep
    have := g.dep
    have := i.dep
    simp only [PyData.depth, PyData.depthAll]
    omega
/-- of like ones -/
theorem nice_all {N D : Nat} : ∀ {ds : List PyData}, (∀ d ∈ ds, Nice N D d) → PyData.showableAll ds = true ∧ PyData.hasDictAll ds = false ∧ ((PyData.shownAll ds).map (·.length)).sum ≤ N * ds.length ∧ (PyData.shownAll ds).length = ds.length ∧ PyData.depthAll ds ≤ D
  | [], _ => ⟨rfl, rfl, by simp [PyData.shownAll], rfl, by simp [PyData.depthAll]⟩
  | d :: ds, h => by
    have a := h d List.mem_cons_self
    obtain ⟨h1, h2, h3, h4, h5⟩ := nice_all (ds := ds) fun x hx => h x (List.mem_cons_of_mem _ hx)
    refine ⟨by simp [PyData.showableAll, a.sh, h1], by simp [PyData.hasDictAll, a.nd, h2], ?_, by simp [PyData.shownAll, h4], ?_⟩
    · have := a.len
      simp only [PyData.shownAll, List.map_cons, List.sum_cons, List.length_cons, Nat.mul_add, Nat.mul_one]
      omega
    · have := a.dep
      simp only [PyData.depthAll]
      omega
theorem nice_tup {N D : Nat} {ds : List PyData} (h : ∀ d ∈ ds, Nice N D d) : Nice (N * ds.length + 2 * ds.length + 3) (D + 1) (.tuple ds) := by
  obtain ⟨h1, h2, h3, h4, h5⟩ := nice_all h
  refine ⟨by simp [PyData.showable, h1], by simp [PyData.hasDict, h2], ?_, by simp only [PyData.depth]; omega⟩
  have e := tupleText_len_le (PyData.shownAll ds)
  simp only [PyData.shown]
  omega
/-- texts -/
abbrev NS (x : Str) : Prop := Nice 20 0 (.str x)
theorem ns_by {x : Str} (h : (PyData.str x).shown.length ≤ 20) : NS x := ⟨rfl, rfl, h, Nat.le_refl _⟩

/-- the words of a row, as they are written -/
theorem shown_sum {N : PyData → Nat} {D : Nat} : ∀ {ds : List PyData}, (∀ d ∈ ds, Nice (N d) D d) → PyData.showableAll ds = true ∧ PyData.hasDictAll ds = false ∧ ((PyData.shownAll ds).map (·.length)).sum ≤ (ds.map N).sum ∧ (PyData.shownAll ds).length = ds.length ∧ PyData.depthAll ds ≤ D
  | [], _ => ⟨rfl, rfl, by simp [PyData.shownAll], rfl, by simp [PyData.depthAll]⟩
  | d :: ds, h => by
    have a := h d List.mem_cons_self
    obtain ⟨h1, h2, h3, h4, h5⟩ := shown_sum (ds := ds) fun x hx => h x (List.mem_cons_of_mem _ hx)
    refine ⟨by simp [PyData.showableAll, a.sh, h1], by simp [PyData.hasDictAll, a.nd, h2], ?_, by simp [PyData.shownAll, h4], ?_⟩
    · have := a.len
      simp only [PyData.shownAll, List.map_cons, List.sum_cons]
      omega
    · have := a.dep
      simp only [PyData.depthAll]
      omega
theorem nice_tupS {N : PyData → Nat} {D : Nat} {ds : List PyData} (h : ∀ d ∈ ds, Nice (N d) D d) : Nice ((ds.map N).sum + 2 * ds.length + 3) (D + 1) (.tuple ds) := by
  obtain ⟨h1, h2, h3, h4, h5⟩ := shown_sum h
  refine ⟨by simp [PyData.showable, h1], by simp [PyData.hasDict, h2], ?_, by simp only [PyData.depth]; omega⟩
  have e := tupleText_len_le (PyData.shownAll ds)
  simp only [PyData.shown]
  omega
theorem ns_wd {x : Str} (h : Wd x) : NS x := ns_by h.sh
theorem sum_room (f : PyData → Nat) : ∀ {ds : List PyData}, (∀ e ∈ ds, 1 ≤ f e) → (ds.map fun e => 100 * f e - 20).sum + 2 * ds.length ≤ 100 * (ds.map f).sum
  | [], _ => by simp
  | d :: ds, h => by
    have h1 := sum_room f (ds := ds) fun e he => h e (List.mem_cons_of_mem _ he)
    have h2 := h d List.mem_cons_self
    simp only [List.map_cons, List.sum_cons, List.length_cons]
    omega
theorem nice_say {tl : Bool} : ∀ {n : Nat} {d : PyData}, Say tl n d → Nice (100 * psz n d - 20) (2 * n) d
  | 0, _, h => h.elim
  | n + 1, d, h => by
    rcases h with ⟨x, hx, rfl⟩ | ⟨a, h, rfl⟩ | ⟨w, ds, hw, h, rfl⟩ | ⟨w, a, b, hw, h, g, rfl⟩ | ⟨w, x, a, hw, hx, h, rfl⟩
    · refine (nice_t2 (ns_by (x := "letter") (by decide +kernel)) (ns_wd hx)).mono ?_ ?_
      · simp only [psz, inn_let, List.map_nil, List.sum_nil]
        omega
      · omega
    · have := psz_pos h
      refine (nice_t2 (ns_by (x := "not") (by decide +kernel)) (nice_say h)).mono ?_ ?_
      · simp only [psz, inn_not, List.map_cons, List.map_nil, List.sum_cons, List.sum_nil]
        omega
      · omega
    · have hk : NS w := by rcases hw with rfl | rfl <;> exact ns_by (by decide +kernel)
      have hl := sum_room (psz n) fun e he => psz_pos (h e he)
      refine (nice_t2 hk (nice_tupS (N := fun e => 100 * psz n e - 20) (D := 2 * n) (ds := ds) fun e he => nice_say (h e he))).mono ?_ ?_
      · simp only [psz, inn_many ds hw]
        omega
      · omega
    · have hk : NS w := by rcases hw with rfl | ⟨rfl, _⟩ <;> exact ns_by (by decide +kernel)
      have := psz_pos h
      have := psz_pos g
      refine (nice_t3 hk (nice_say h) (nice_say g)).mono ?_ ?_
      · simp only [psz, inn_two a b (hw.imp id (·.1)), List.map_cons, List.map_nil, List.sum_cons, List.sum_nil]
        omega
      · omega
    · have hk : NS w := by rcases hw with rfl | rfl <;> exact ns_by (by decide +kernel)
      have := psz_pos h
      refine (nice_t3 hk (ns_wd hx) (nice_say h)).mono ?_ ?_
      · simp only [psz, inn_mod x a hw, List.map_cons, List.map_nil, List.sum_cons, List.sum_nil]
        omega
      · omega
end Ms02

namespace Ms02
open PySem PySem.Spec PyProof.Rows L2
section
variable {X : Cx}
/-- repr of a tuple, of a list -/
theorem call_reprA (hgd : X.A.guards = some []) : CallR X (.builtin "repr") (fun xs H Q => ∃ x d, xs = [x] ∧ Dp X.K H x d ∧ ((∃ ds, d = .tuple ds) ∨ ∃ ds, d = .list ds) ∧ d.showable = true ∧ d.hasDict = false ∧ d.shown.length ≤ sizeLine ∧
    X.A.units + (d.depth + 1) < cLine ∧ Q (.str d.shown) H) := by
  intro pins s σ H xs us Q I r h
  obtain ⟨x, d, rfl, hd, hform, hs, hnd, hsz, hu, q⟩ := h
  obtain ⟨u, rfl, ru⟩ := vals1 r
  rcases hform with ⟨ds, rfl⟩ | ⟨ds, rfl⟩
  · obtain ⟨as, rd⟩ := Dp.reads I _ _ u hd ru
    cases hd with
    | tup hsq hall =>
      cases ru
      exact repr_of_reads' rd hs (fun z => by rw [hnd] at z; cases z) hgd hu (fun _ _ e => e) (fun h' u tk hk => ⟨.str _, H, I.kept hk, ⟨_, rfl⟩, q⟩) hsz
  · obtain ⟨as, rd⟩ := Dp.reads I _ _ u hd ru
    cases hd with
    | lst hsq hall =>
      cases ru
      exact repr_of_reads' rd hs (fun z => by rw [hnd] at z; cases z) hgd hu (fun _ _ e => e) (fun h' u tk hk => ⟨.str _, H, I.kept hk, ⟨_, rfl⟩, q⟩) hsz
end
abbrev sLaw : Stmt := topS 16
abbrev NL : List Str := ["_law_script", "_law_feed_here", "_law_a", "_law_top", "_law_some", "_law_k", "_law_one", "_law_s", "_law_kept", "_law_every", "_law_names", "_law_owners", "_law_due"]
theorem scLaw : FnScope NL ["_law_script"] (defScope sLaw) := ⟨rfl, rfl, rfl, by decide +kernel, rfl, by decide +kernel, by decide +kernel⟩
def spLaw (K : PySem.W.Frag) : Sp := fun vs H Q _ => ∃ (a : Addr) (ns : List Int), vs = [.ref a] ∧ SqL K H a (ns.map V.int) ∧ ns.length ≤ 63 ∧ ∀ H', Q (.bl true) H'
/-- the facts of the defs that the law calls -/
structure Kit (P : Program) (w : World) (K : PySem.W.Frag) (mg : Str → Option Value) (base : Heap) (fF fS fA fO fD fP fL fH fE : Addr) (dF dS dA dO dD dP dL dH dE : FuncData) : Prop where
  F : FnOk P w K mg base CX0 1 fF dF ["_law_script"] (spFeed K)
  S : FnOk P w K mg base CX0 11 fS dS ["_law_feed_here", "_law_left", "_law_told"] (spSaying K 10)
  A : FnOk P w K mg base CX0 30 fA dA ["_law_s"] (spLAll K 28)
  O : FnOk P w K mg base CX0 1 fO dO ["_law_some"] (spLOnce K)
  D : FnOk P w K mg base CX0 30 fD dD ["_law_s"] (spDepth K 28)
  Pp : FnOk P w K mg base CX0 3 fP dP ["saying"] (spParts K)
  L : FnOk P w K mg base CX0 3 fL dL ["saying"] (spTexts isL K)
  Hh : FnOk P w K mg base CX0 3 fH dH ["saying"] (spTexts isH K)
  Ee : FnOk P w K mg base CX0 30 fE dE ["saying"] (spDepth K 28)
  bF : Binds K dF ["_law_script"] []
  bS : Binds K dS ["_law_feed_here", "_law_left", "_law_told"] []
  bA : Binds K dA ["_law_s"] []
  bO : Binds K dO ["_law_some"] []
  bD : Binds K dD ["_law_s"] []
  bP : Binds K dP ["saying"] []
  bL : Binds K dL ["saying"] []
  bH : Binds K dH ["saying"] []
  bE : Binds K dE ["saying"] []
  kF : PySem.W.keepIn K (.ref fF) = true
  kS : PySem.W.keepIn K (.ref fS) = true
  kA : PySem.W.keepIn K (.ref fA) = true
  kO : PySem.W.keepIn K (.ref fO) = true
  kD : PySem.W.keepIn K (.ref fD) = true
  kP : PySem.W.keepIn K (.ref fP) = true
  kL : PySem.W.keepIn K (.ref fL) = true
  kH : PySem.W.keepIn K (.ref fH) = true
  kE : PySem.W.keepIn K (.ref fE) = true
  mF : mg "_law_feed" = some (.ref fF)
  mS : mg "_law_saying" = some (.ref fS)
  mA : mg "_law_all_parts" = some (.ref fA)
  mO : mg "_law_once" = some (.ref fO)
  mD : mg "_law_deep" = some (.ref fD)
  mP : mg "parts_of_saying" = some (.ref fP)
  mL : mg "letters_of" = some (.ref fL)
  mH : mg "hands_of" = some (.ref fH)
  mE : mg "depth_of" = some (.ref fE)
  mr : mg "range" = none
  mp : mg "repr" = none
  mt : mg "tuple" = none
  ms : mg "sorted" = none
  me : mg "set" = none
end Ms02

namespace Ms02
open PySem PySem.Spec PyProof.Rows L2
open PySem.W (keyToks keyToksAll dataLt)
theorem Say.tt {tl : Bool} : ∀ {n : Nat} {d : PyData}, Say tl n d → Say true n d
  | 0, _, h => h.elim
  | n + 1, d, h => by
    rcases h with h | ⟨a, h, q⟩ | ⟨w, ds, hw, h, q⟩ | ⟨w, a, b, hw, h, g, q⟩ | ⟨w, x, a, hw, hx, h, q⟩
    · exact .inl h
    · exact .inr (.inl ⟨a, h.tt, q⟩)
    · exact .inr (.inr (.inl ⟨w, ds, hw, fun a ha => (h a ha).tt, q⟩))
    · exact .inr (.inr (.inr (.inl ⟨w, a, b, hw.imp id (fun z => ⟨z.1, rfl⟩), h.tt, g.tt, q⟩)))
    · exact .inr (.inr (.inr (.inr ⟨w, x, a, hw, hx, h.tt, q⟩)))
theorem poolL {tl : Bool} {n : Nat} {e : PyData} {x : Str} (h : Say tl n e) (q : isL e x) : x ∈ poolW := by
  cases n with
  | zero => exact h.elim
  | succ n =>
    rcases h with ⟨y, hy, rfl⟩ | ⟨a, h, rfl⟩ | ⟨w, ds, hw, h, rfl⟩ | ⟨w, a, b, hw, h, g, rfl⟩ | ⟨w, y, a, hw, hy, h, rfl⟩
    · have e : y = x := by
        simp only [isL, letD] at q
        injection q with q
        injection q with _ q
        injection q with q
        injection q with q
      rw [← e]
      exact hy.mem
    · exact absurd q (notL (by decide))
    · exact absurd q (notL (by rcases hw with rfl | rfl <;> decide))
    · exact absurd q (notL (by rcases hw with rfl | ⟨rfl, _⟩ <;> decide))
    · exact absurd q (notL (by rcases hw with rfl | rfl <;> decide))
theorem poolH {tl : Bool} {n : Nat} {e : PyData} {x : Str} (h : Say tl n e) (q : isH e x) : x ∈ poolW := by
  cases n with
  | zero => exact h.elim
  | succ n =>
    rcases h with ⟨y, hy, rfl⟩ | ⟨a, h, rfl⟩ | ⟨w, ds, hw, h, rfl⟩ | ⟨w, a, b, hw, h, g, rfl⟩ | ⟨w, y, a, hw, hy, h, rfl⟩
    · exact absurd q (notH (by decide) (by decide))
    · exact absurd q (notH (by decide) (by decide))
    · exact absurd q (notH (by rcases hw with rfl | rfl <;> decide) (by rcases hw with rfl | rfl <;> decide))
    · exact absurd q (notH (by rcases hw with rfl | ⟨rfl, _⟩ <;> decide) (by rcases hw with rfl | ⟨rfl, _⟩ <;> decide))
    · obtain ⟨v, b, hv, q⟩ := q
      have e : y = x := by
        simp only [modD] at q
        injection q with q
        injection q with _ q
        injection q with q
        injection q with q
      rw [← e]
      exact hy.mem
/-- a saying that the law asks for -/
structure Good (d : PyData) : Prop where
  say : Say true 14 d
  sz : ∀ j, psz j d ≤ 100
theorem good_letter {x : Str} (h : Wd x) : Good (letD x) := ⟨.inl ⟨x, h, rfl⟩, fun j => Nat.le_trans (psz_let x j) (by decide)⟩
theorem good_many {w : Str} {ds : List PyData} (hw : w = "and" ∨ w = "or") (h : ∀ a ∈ ds, ∃ x, Wd x ∧ a = letD x) (hl : ds.length ≤ 60) : Good (manyD w ds) := by
  refine ⟨.inr (.inr (.inl ⟨w, ds, hw, fun a ha => .inl (h a ha), rfl⟩)), fun j => ?_⟩
  cases j with
  | zero => simp [psz]
  | succ j =>
    have : ∀ es : List PyData, (∀ a ∈ es, ∃ x, Wd x ∧ a = letD x) → (es.map (psz j)).sum ≤ es.length := fun es => by
      induction es with
      | nil => intro _; simp
      | cons e es ih =>
        intro g
        obtain ⟨x, _, rfl⟩ := g e List.mem_cons_self
        have h1 := psz_let x j
        have h2 := ih fun a ha => g a (List.mem_cons_of_mem _ ha)
        simp only [List.map_cons, List.sum_cons, List.length_cons]
        omega
    have := this ds h
    simp only [psz, inn_many ds hw]
    omega
theorem good_drawn {tl : Bool} {d : PyData} {k : Nat} (h : Say tl (k + 1) d) (hz : ∀ j, psz j d ≤ 1 + 3 * k) (hk : k ≤ 9) : Good d ∧ Good (twoD "so" d d) := by
  have h' := h.tt
  refine ⟨⟨h'.mono (by omega), fun j => Nat.le_trans (hz j) (by omega)⟩, ⟨.inr (.inr (.inr (.inl ⟨"so", d, d, .inl rfl, h'.mono (show k + 1 ≤ 13 by omega), h'.mono (show k + 1 ≤ 13 by omega), rfl⟩))), fun j => Nat.le_trans (psz_2 (inn_two d d (.inl rfl)) hz hz j) (by omega)⟩⟩
theorem psz_part {tl : Bool} : ∀ {n : Nat} {d : PyData}, Say tl n d → ∀ e ∈ allP n d, psz n e ≤ psz n d
  | 0, _, h, _, _ => h.elim
  | n + 1, d, h, e, he => by
    rcases List.mem_cons.mp he with rfl | he
    · exact Nat.le_refl _
    · obtain ⟨f, hf, he⟩ := List.mem_flatMap.mp he
      have h1 := psz_part (say_inn h f hf) e he
      have h2 := sum_ge (f := psz n) hf
      have h3 : psz (n + 1) e = psz n e := by rw [← allP_len, ← allP_len, allP_same (allP_say (say_inn h f hf) e he) (Nat.le_succ n)]
      rw [h3]
      have h4 : psz (n + 1) d = 1 + ((inn d).map (psz n)).sum := rfl
      omega
theorem deep_le : ∀ (n : Nat) (d : PyData), deep n d ≤ n
  | 0, _ => Int.le_refl _
  | n + 1, d => by
    have : ∀ l : List Int, (∀ x ∈ l, x ≤ n) → l.foldr max 0 ≤ n := fun l => by
      induction l with
      | nil => intro _; simp
      | cons x xs ih => exact fun h => Int.max_le.mpr ⟨h x List.mem_cons_self, ih fun y hy => h y (List.mem_cons_of_mem _ hy)⟩
    have := this ((inn d).map (deep n)) fun x hx => by
      obtain ⟨e, _, rfl⟩ := List.mem_map.mp hx
      exact deep_le n e
    simp only [deep]
    omega
theorem ns_pool : ∀ x ∈ poolW, (PyData.str x).shown.length ≤ 20 := by decide +kernel
theorem nice_texts {ys : List Str} (nd : ys.Nodup) (h : ∀ x ∈ ys, x ∈ poolW) : Nice 400 1 (.tuple (ys.map .str)) := by
  have hl : ys.length ≤ 14 := len_sub (m := poolW) nd h
  refine (nice_tup (N := 20) (D := 0) fun e he => ?_).mono ?_ (Nat.le_refl _)
  · obtain ⟨x, hx, rfl⟩ := List.mem_map.mp he
    exact ns_by (ns_pool x (h x hx))
  · rw [List.length_map]
    omega
theorem nice_l4 {N M L J D : Nat} {a b c e : PyData} (n1 : Nice N D a) (n2 : Nice M D b) (n3 : Nice L D c) (n4 : Nice J D e) : Nice (N + M + L + J + 11) (D + 1) (.list [a, b, c, e]) := by
  refine ⟨by simp [PyData.showable, PyData.showableAll, n1.sh, n2.sh, n3.sh, n4.sh], by simp [PyData.hasDict, PyData.hasDictAll, n1.nd, n2.nd, n3.nd, n4.nd], ?_, ?_⟩
  · have e := listText_len_le (PyData.shownAll [a, b, c, e])
    simp only [PyData.shownAll, List.map_cons, List.map_nil, List.sum_cons, List.sum_nil, List.length_cons, List.length_nil] at e
    have a1 := n1.len
    have a2 := n2.len
    have a3 := n3.len
    have a4 := n4.len
    simp only [PyData.shown, PyData.shownAll]
    omega
  · have a1 := n1.dep
    have a2 := n2.dep
    have a3 := n3.dep
    have a4 := n4.dep
    simp only [PyData.depth, PyData.depthAll]
    omega
theorem nice_row {d : PyData} (gd : Good d) {ds : List PyData} {ys zs : List Str} (hp : ds.Perm (allP 14 d)) (ny : ys.Nodup) (hy : ∀ x ∈ ys, x ∈ poolW) (nz : zs.Nodup) (hz : ∀ x ∈ zs, x ∈ poolW) :
    Nice 2000000 31 (.list [.tuple (nub ds), .tuple (ys.map .str), .tuple (zs.map .str), .int (deep 14 d)]) := by
  have hd := gd.sz 14
  have hl : (nub ds).length ≤ 100 := by
    have h1 := nub_len ds
    have h2 := hp.length_eq
    rw [allP_len] at h2
    omega
  have n1 : Nice (9980 * (nub ds).length + 2 * (nub ds).length + 3) 29 (.tuple (nub ds)) := nice_tup (N := 9980) (D := 28) fun e he => by
    have hm := hp.mem_iff.mp (nub_mem he)
    have h1 := psz_part gd.say e hm
    exact (nice_say (allP_say gd.say e hm)).mono (by omega) (by omega)
  have n2 := nice_texts ny hy
  have n3 := nice_texts nz hz
  have d1 := deep_le 14 d
  have d0 := deep_pos 14 d
  have n4 : Nice 13 0 (.int (deep 14 d)) := ⟨by simp only [PyData.showable]; exact decide_eq_true (Nat.lt_of_le_of_lt (Nat.log2_le_self _) (by omega)), rfl, PyData.shown_int_le (by omega), Nat.le_refl _⟩
  exact (nice_l4 (n1.mono (Nat.le_refl _) (show 29 ≤ 30 by decide)) (n2.mono (Nat.le_refl _) (by decide)) (n3.mono (Nat.le_refl _) (by decide)) (n4.mono (Nat.le_refl _) (by decide))).mono (by omega) (Nat.le_refl _)
end Ms02


namespace Ms02
open PySem PySem.Spec PyProof.Rows L2
open PySem.W (keyToks keyToksAll dataLt)
theorem more_l {R : PyData → Str → Prop} {l : List Str} {ds : List PyData} {i : Nat} {e : PyData} {k : Str} (he : ds[i]? = some e) (hR : ∀ x, R e x ↔ x = k) (h : ∀ x, x ∈ l ↔ ∃ e ∈ ds.take i, R e x) : ∀ x, x ∈ l ++ [k] ↔ ∃ e ∈ ds.take (i + 1), R e x := by
  intro x
  rw [List.mem_append, List.mem_singleton, h x, List.take_add_one, he, Option.toList_some]
  constructor
  · rintro (⟨e', h2, h3⟩ | rfl)
    · exact ⟨e', List.mem_append_left _ h2, h3⟩
    · exact ⟨e, List.mem_append_right _ List.mem_cons_self, (hR x).mpr rfl⟩
  · rintro ⟨e', h2, h3⟩
    rcases List.mem_append.mp h2 with h2 | h2
    · exact .inl ⟨e', h2, h3⟩
    · rw [List.mem_singleton.mp h2] at h3
      exact .inr ((hR x).mp h3)
theorem isL_iff {y x : Str} : isL (letD y) x ↔ x = y := by
  constructor
  · intro q
    simp only [isL, letD] at q
    injection q with q
    injection q with _ q
    injection q with q
    injection q with q
    exact q.symm
  · rintro rfl
    rfl
theorem isH_iff {w y x : Str} {a : PyData} (hw : w = "must" ∨ w = "may") : isH (modD w y a) x ↔ x = y := by
  constructor
  · rintro ⟨v, b, hv, q⟩
    simp only [modD] at q
    injection q with q
    injection q with _ q
    injection q with q
    injection q with q
    exact q.symm
  · rintro rfl
    exact ⟨w, a, hw, rfl⟩
theorem dpStrs {K : PySem.W.Frag} {H : Hp} : ∀ ws : List Str, DpAll K H (ws.map V.str) (ws.map .str)
  | [] => .nil
  | w :: ws => .cons (.str w) (dpStrs ws)
theorem dpAll_rep {K : PySem.W.Frag} {H : Hp} {v : V} {d : PyData} (h : Dp K H v d) : ∀ n : Nat, DpAll K H (List.replicate n v) (List.replicate n d)
  | 0 => .nil
  | n + 1 => by
    rw [List.replicate_succ, List.replicate_succ]
    exact .cons h (dpAll_rep h n)
theorem wd_cut {j : Nat} (h : j < 8) : Wd (Txt.slice "zyxwvuts" none (some (1 + (j : Int)))) := by
  have : j = 0 ∨ j = 1 ∨ j = 2 ∨ j = 3 ∨ j = 4 ∨ j = 5 ∨ j = 6 ∨ j = 7 := by omega
  rcases this with rfl | rfl | rfl | rfl | rfl | rfl | rfl | rfl <;> exact wd_by (by decide +kernel) (by decide +kernel)
theorem psz_top (j : Nat) : psz j (manyD "and" []) ≤ 1 + 3 * 0 := by
  cases j with
  | zero => simp [psz]
  | succ j => simp [psz, inn_many [] (w := "and") (.inl rfl)]
theorem good_6 (wa : Wd "a") (wz : Wd "zz") : Good (modD "may" "zz" (modD "must" "a" (twoD "told" (letD "a") (manyD "and" [])))) := by
  have s1 : Say true 1 (letD "a") := .inl ⟨_, wa, rfl⟩
  have s2 : Say true 1 (manyD "and" []) := .inr (.inr (.inl ⟨"and", [], .inl rfl, by simp, rfl⟩))
  have s3 : Say true 2 (twoD "told" (letD "a") (manyD "and" [])) := .inr (.inr (.inr (.inl ⟨"told", _, _, .inr ⟨rfl, rfl⟩, s1, s2, rfl⟩)))
  have s4 : Say true 3 (modD "must" "a" (twoD "told" (letD "a") (manyD "and" []))) := .inr (.inr (.inr (.inr ⟨"must", "a", _, .inl rfl, wa, s3, rfl⟩)))
  have s5 : Say true 4 (modD "may" "zz" (modD "must" "a" (twoD "told" (letD "a") (manyD "and" [])))) := .inr (.inr (.inr (.inr ⟨"may", "zz", _, .inr rfl, wz, s4, rfl⟩)))
  have z3 : ∀ j, psz j (twoD "told" (letD "a") (manyD "and" [])) ≤ 1 + 3 * (0 + 0 + 1) := psz_2 (inn_two _ _ (.inr rfl)) (fun j => Nat.le_trans (psz_let _ j) (by decide)) psz_top
  have z4 : ∀ j, psz j (modD "must" "a" (twoD "told" (letD "a") (manyD "and" []))) ≤ 1 + 3 * (0 + 0 + 1 + 1) := psz_1 (inn_mod _ _ (.inl rfl)) z3
  have z5 : ∀ j, psz j (modD "may" "zz" (modD "must" "a" (twoD "told" (letD "a") (manyD "and" [])))) ≤ 1 + 3 * (0 + 0 + 1 + 1 + 1) := psz_1 (inn_mod _ _ (.inr rfl)) z4
  exact ⟨s5.mono (by omega), fun j => Nat.le_trans (z5 j) (by decide)⟩
theorem good_7 (wh : Wd "h") : Good (modD "must" "h" (letD "h")) := by
  have s1 : Say true 1 (letD "h") := .inl ⟨_, wh, rfl⟩
  have s2 : Say true 2 (modD "must" "h" (letD "h")) := .inr (.inr (.inr (.inr ⟨"must", "h", _, .inl rfl, wh, s1, rfl⟩)))
  have z : ∀ j, psz j (modD "must" "h" (letD "h")) ≤ 1 + 3 * (0 + 1) := psz_1 (inn_mod _ _ (.inl rfl)) fun j => Nat.le_trans (psz_let _ j) (by decide)
  exact ⟨s2.mono (by omega), fun j => Nat.le_trans (z j) (by decide)⟩
section
variable {P : Program} {w : World} {K : PySem.W.Frag} {mg : Str → Option Value} {base : Heap} {fF fS fA fO fD fP fL fH fE : Addr} {dF dS dA dO dD dP dL dH dE : FuncData}
theorem law_body (T : Kit P w K mg base fF fS fA fO fD fP fL fH fE dF dS dA dO dD dP dL dH dE) {f : Addr} {cdv : Value} {A : Around} {outer : List Env} {s : Shared} {H : Hp} {vs : List V} {Q : VK} {E : XK} (hgd : A.guards = some [])
    (hr : Room 30 (A.deeper (envOfC "law" (defScope sLaw) s.heap.objs.size f cdv))) (h : spLaw K vs H Q E) :
    ∃ t, PSs (cxOf CX0 P w K mg base NL "law" (defScope sLaw) f cdv A outer s H E).nox (defBody sLaw) t ∧ t { nx := fun _ H' => Q .non H', rt := Q } (start NL vs) H := by
  obtain ⟨a, ns, rfl, hS, h63, q⟩ := h
  have nd := scLaw.nd
  have hr1 := hr.mono (show 1 ≤ 30 by decide)
  have hr3 := hr.mono (show 3 ≤ 30 by decide)
  have hr11 := hr.mono (show 11 ≤ 30 by decide)
  have hg : (cxOf CX0 P w K mg base NL "law" (defScope sLaw) f cdv A outer s H E).nox.A.guards = some [] := hgd
  refine ⟨_, pss_cons (ps_set (i := 1) nd rfl (.inl rfl) (pe_call T.F hr1 (by rfl) T.mF T.kF T.bF .nil pass0 (pa_cons (pv 0) pa_nil)))
    (pss_cons (ps_asg (pe_tup (pa_cons (pe_tup (pa_cons pe_str (pa_cons pe_str pa_nil))) (pa_cons (pe_tup (pa_cons pe_str (pa_cons (pe_tup pa_nil) pa_nil))) pa_nil))) (pg_tup rfl (pgs_cons (pg_name (i := 2) nd rfl (.inl rfl)) (pgs_cons (pg_name (i := 3) nd rfl (.inl rfl)) pgs_nil))))
    (pss_cons (ps_set (i := 4) nd rfl (.inl rfl) (pe_lst (pa_cons (pv 2) (pa_cons (pv 3) (pa_cons (pe_tup (pa_cons pe_str (pa_cons (pe_tup pa_nil) pa_nil))) (pa_cons (pe_tup (pa_cons pe_str (pa_cons (pe_op op_repT (pe_tup (pa_cons (pv 2) pa_nil)) pe_int) pa_nil)))
        (pa_cons (pe_tup (pa_cons pe_str (pa_cons (pe_callTy call_tuple_of (by rfl) T.mt (by decide +kernel) (pa_cons (pe_lc (own := [("_law_k", 5)]) (g := gName 5) (tt := tYes) rfl nd (pi_range2 (by rfl) T.mr (pa_cons pe_int (pa_cons pe_int pa_nil)))
          (blkOk_by (N := NL) (sc := defScope sLaw) (by decide +kernel)) (fun _ _ _ _ _ => pg_name (i := 5) nd rfl (Or.inl rfl)) (fun _ _ _ _ _ => pts_nil) (fun _ _ _ _ _ => pe_tup (pa_cons pe_str (pa_cons (pe_slice C8.sl_txt pe_str po_none (po_some (pv 5))) pa_nil)))) pa_nil)) pa_nil))) pa_nil)))))))
    (pss_cons (ps_set (i := 4) nd rfl (.inl rfl) (pe_op op_cat (pv 4) (pe_lst (pa_cons (pe_tup (pa_cons pe_str (pa_cons pe_str (pa_cons (pe_tup (pa_cons pe_str (pa_cons pe_str (pa_cons (pe_tup (pa_cons pe_str (pa_cons (pv 2) (pa_cons (pv 3) pa_nil)))) pa_nil)))) pa_nil))))
        (pa_cons (pe_tup (pa_cons pe_str (pa_cons pe_str (pa_cons (pe_tup (pa_cons pe_str (pa_cons pe_str pa_nil))) pa_nil)))) pa_nil)))))
    (pss_cons (ps_for PassesOwn.never rfl (pi_range1 (by rfl) T.mr (pa_cons pe_int pa_nil)) (pg_name (i := 5) nd rfl (.inl rfl))
      (pss_cons (ps_set (i := 6) nd rfl (.inl rfl) (pe_call T.S hr11 (by rfl) T.mS T.kS T.bS .nil pass0 (pa_cons (pv 1) (pa_cons (pe_lst (pa_cons pe_int pa_nil)) (pa_cons (pe_cmpR op_eq (pe_op op_mod (pv 5) pe_int) pe_int (nomark _)) pa_nil)))))
      (pss_one (ps_set (i := 4) nd rfl (.inl rfl) (pe_op op_cat (pv 4) (pe_lst (pa_cons (pv 6) (pa_cons (pe_tup (pa_cons pe_str (pa_cons (pv 6) (pa_cons (pv 6) pa_nil)))) pa_nil))))))))
    (pss_cons (ps_for PassesOwn.never rfl (pi_list (pe_op op_cat (pv 4) (pe_slice sl_list (pv 4) po_none (po_some pe_int)))) (pg_name (i := 7) nd rfl (.inl rfl))
      (pss_cons (ps_par (i := 8) (j := 9) rfl nd rfl rfl (by decide) rfl rfl (pa_cons (pe_callB (call_reprA hg) (by rfl) T.mp (by decide +kernel) (pa_cons (pv 7) pa_nil)) (pa_cons (pe_call T.A hr (by rfl) T.mA T.kA T.bA .nil pass0 (pa_cons (pv 7) pa_nil)) pa_nil)) (by rfl))
      (pss_cons (ps_set (i := 10) nd rfl (.inl rfl) (pe_callB (r := rSortTx P w) (call_sortTx rfl) (by rfl) T.ms (by decide +kernel) (pa_cons (pe_callTy (r := rSetTx P w K) (call_setTx rfl) (by rfl) T.me (by decide +kernel) (pa_cons (pe_lc (own := [("_law_one", 6)]) (g := gName 6) rfl nd (pi_list (pv 9))
          (blkOk_by (N := NL) (sc := defScope sLaw) (by decide +kernel)) (fun _ _ _ _ _ => pg_name (i := 6) nd rfl (Or.inl rfl)) (fun _ _ _ _ _ => pts_one (pt_cmpR op_eq (pe_ix (r := rIxT K) ix_tup (pv 6) pe_int (fun _ _ => rfl)) pe_str (nomark _))) (fun _ _ _ _ _ => pe_ix (r := rIxT K) ix_tup (pv 6) pe_int (fun _ _ => rfl))) pa_nil)) pa_nil)))
      (pss_cons (ps_set (i := 11) nd rfl (.inl rfl) (pe_callB (r := rSortTx P w) (call_sortTx rfl) (by rfl) T.ms (by decide +kernel) (pa_cons (pe_callTy (r := rSetTx P w K) (call_setTx rfl) (by rfl) T.me (by decide +kernel) (pa_cons (pe_lc (own := [("_law_one", 6)]) (g := gName 6) rfl nd (pi_list (pv 9))
          (blkOk_by (N := NL) (sc := defScope sLaw) (by decide +kernel)) (fun _ _ _ _ _ => pg_name (i := 6) nd rfl (Or.inl rfl)) (fun _ _ _ _ _ => pts_one (pt_cmpR (r := rIn K false) op_in_seq (pe_ix (r := rIxT K) ix_tup (pv 6) pe_int (fun _ _ => rfl)) (pe_tup (pa_cons pe_str (pa_cons pe_str pa_nil))) (by rfl))) (fun _ _ _ _ _ => pe_ix (r := rIxT K) ix_tup (pv 6) pe_int (fun _ _ => rfl))) pa_nil)) pa_nil)))
      (pss_cons (ps_set (i := 12) nd rfl (.inl rfl) (pe_lst (pa_cons (pe_callTy call_tuple_of (by rfl) T.mt (by decide +kernel) (pa_cons (pe_call T.O hr1 (by rfl) T.mO T.kO T.bO .nil pass0 (pa_cons (pv 9) pa_nil)) pa_nil)) (pa_cons (pe_callTy call_tuple_of (by rfl) T.mt (by decide +kernel) (pa_cons (pv 10) pa_nil))
          (pa_cons (pe_callTy call_tuple_of (by rfl) T.mt (by decide +kernel) (pa_cons (pv 11) pa_nil)) (pa_cons (pe_call T.D hr (by rfl) T.mD T.kD T.bD .nil pass0 (pa_cons (pv 7) pa_nil)) pa_nil))))))
      (pss_one (ps_if (PW.pt (pw_or (pt_cmpR op_ne (pe_callB (call_reprA hg) (by rfl) T.mp (by decide +kernel) (pa_cons (pe_lst (pa_cons (pe_call T.Pp hr3 (by rfl) T.mP T.kP T.bP .nil pass0 (pa_cons (pv 7) pa_nil)) (pa_cons (pe_call T.L hr3 (by rfl) T.mL T.kL T.bL .nil pass0 (pa_cons (pv 7) pa_nil))
            (pa_cons (pe_call T.Hh hr3 (by rfl) T.mH T.kH T.bH .nil pass0 (pa_cons (pv 7) pa_nil)) (pa_cons (pe_call T.Ee hr (by rfl) T.mE T.kE T.bE .nil pass0 (pa_cons (pv 7) pa_nil)) pa_nil))))) pa_nil)) (pe_callB (call_reprA hg) (by rfl) T.mp (by decide +kernel) (pa_cons (pv 12) pa_nil)) (nomark _))
          (pw_or1 (pt_cmpR op_ne (pe_callB (call_reprA hg) (by rfl) T.mp (by decide +kernel) (pa_cons (pv 7) pa_nil)) (pv 8) (nomark _))))) (pss_one (ps_ret pe_bl)) pss_nil)))))))
    (pss_one (ps_ret pe_bl))))))), ?_⟩
  -- the feed
  refine ⟨_, rfl, a, ns, rfl, hS, h63, fun H1 p c cells s1 np f1 => ?_⟩
  refine ⟨zz2, fun a1 n1 => ⟨zz0, fun e0 m0 => ⟨zz2, fun a2 n2 => ⟨zz2, fun tt ntt => ?_⟩⟩⟩⟩
  have wa : Wd "a" := wd_by (by decide +kernel) (by decide +kernel)
  have da : Dp K (upd H1 a1 (.tup [.str "letter", .str "a"])) (.ref a1) (letD "a") := new2 n1 (.str _) (.str _)
  have de : Dp K (upd (upd H1 a1 (.tup [.str "letter", .str "a"])) e0 (.tup [])) (.ref e0) (.tuple []) := new0 m0
  have dt : Dp K (upd (upd (upd H1 a1 (.tup [.str "letter", .str "a"])) e0 (.tup [])) a2 (.tup [.str "and", .ref e0])) (.ref a2) (manyD "and" []) := new2 n2 (.str _) de
  have s2 := (same_new n1 (.tup [.str "letter", .str "a"])).trans ((same_new m0 (.tup [])).trans ((same_new n2 (.tup [.str "and", .ref e0])).trans (same_new ntt (.tup [.ref a1, .ref a2]))))
  have da := dp_same ((same_new m0 (.tup [])).trans ((same_new n2 (.tup [.str "and", .ref e0])).trans (same_new ntt (.tup [.ref a1, .ref a2])))) _ _ da
  have dt := dp_same (same_new ntt (.tup [.ref a1, .ref a2])) _ _ dt
  have f2 := f1.same s2
  refine ⟨tt, [.ref a1, .ref a2], rfl, .inl (.inl upd_same), rfl, _, _, rfl, _, _, rfl, rfl, ?_⟩
  generalize upd (upd (upd (upd H1 a1 (.tup [.str "letter", .str "a"])) e0 (.tup [])) a2 (.tup [.str "and", .ref e0])) tt (.tup [.ref a1, .ref a2]) = H2 at da dt f2
  -- the first five
  refine ⟨_, rfl, _, rfl, zz0, fun e1 ne1 => ⟨zz2, fun a3 n3 => ?_⟩⟩
  have d3 : Dp K (upd (upd H2 e1 (.tup [])) a3 (.tup [.str "or", .ref e1])) (.ref a3) (manyD "or" []) := new2 n3 (.str _) (new0 ne1)
  have s3 := (same_new ne1 (.tup [])).trans (same_new n3 (.tup [.str "or", .ref e1]))
  have da := dp_same s3 _ _ da
  have dt := dp_same s3 _ _ dt
  have f3 := f2.same s3
  generalize upd (upd H2 e1 (.tup [])) a3 (.tup [.str "or", .ref e1]) = H3 at da dt f3 d3
  refine ⟨_, rfl, zz1, fun b1 nb1 => ⟨b1, 40, [.ref a1], rfl, rfl, .inl (.inl upd_same), by simp, by decide, by decide, by simp, fun rp nrp => ⟨zz2, fun a4 n4 => ?_⟩⟩⟩
  have s4 : Same H3 (upd (upd (upd H3 b1 (.tup [.ref a1])) rp (.tup (List.replicate 40 (V.ref a1)))) a4 (.tup [.str "and", .ref rp])) := (same_new nb1 (.tup [.ref a1])).trans ((same_new nrp (.tup (List.replicate 40 (V.ref a1)))).trans (same_new n4 (.tup [.str "and", .ref rp])))
  have d4 : Dp K (upd (upd (upd H3 b1 (.tup [.ref a1])) rp (.tup (List.replicate 40 (V.ref a1)))) a4 (.tup [.str "and", .ref rp])) (.ref a4) (manyD "and" (List.replicate 40 (letD "a"))) :=
    new2 n4 (.str _) (.tup (.inl (.inl upd_same)) (dpAll_rep (dp_same ((same_new nb1 (.tup [.ref a1])).trans (same_new nrp (.tup (List.replicate 40 (V.ref a1))))) _ _ da) 40))
  have da := dp_same s4 _ _ da
  have dt := dp_same s4 _ _ dt
  have d3 := dp_same s4 _ _ d3
  have f4 := f3.same s4
  have e40 : (List.replicate (40 : Int).toNat [V.ref a1]).flatten = List.replicate 40 (V.ref a1) := rfl
  rw [e40]
  generalize upd (upd (upd H3 b1 (.tup [.ref a1])) rp (.tup (List.replicate 40 (V.ref a1)))) a4 (.tup [.str "and", .ref rp]) = H4 at da dt d3 d4 f4
  refine ⟨1, 9, rfl, ⟨by decide, by decide, by decide, by decide⟩, fun D nD => ?_⟩
  refine lc_range (lo := 1) (n := ((9 : Int) - 1).toNat) (fun j H' => ∃ (us : List V) (ds : List PyData), H' D = some (.lst us) ∧ DpAll K H' us ds ∧ us.length ≤ j ∧ (∀ e ∈ ds, ∃ x, Wd x ∧ e = letD x) ∧ Same H4 H')
    ⟨[], [], upd_same, .nil, Nat.le_refl _, by simp, same_new nD _⟩ (fun j H' hj ⟨us, ds, hD, hds, hu, hw, sm⟩ => ?_) (fun H' ⟨us, ds, hD, hds, hu, hw, sm⟩ => ?_)
  · have hj8 : j < 8 := hj
    refine ⟨rfl, ?_⟩
    dsimp only [tYes]
    rw [if_pos rfl]
    refine ⟨_, rfl, 1 + (j : Int), rfl, "zyxwvuts", rfl, by decide, zz2, fun t nt => ⟨us, same_new nt _ _ _ hD, small1000 (by omega), us ++ [.ref t], ds ++ [letD (Txt.slice "zyxwvuts" none (some (1 + (j : Int))))], upd_same, ?_, by simp; omega, ?_, ?_⟩⟩
    · have tp := Tp.lst (same_new nt (.tup [.str "letter", .str (Txt.slice "zyxwvuts" none (some (1 + (j : Int))))]) _ _ hD) (.lst (us ++ [.ref t]))
      refine dpAll_snoc (dp_tp tp _ _ (by simp [letD, tupD, tupDs]) (new2 nt (.str _) (.str _))) (dpAll_tp tp _ _ (tupDs_say (tl := true) (n := 1) fun e he => .inl (hw e he)) (dpAll_same (same_new nt _) _ _ hds))
    · intro e he
      rcases List.mem_append.mp he with he | he
      · exact hw e he
      · rw [List.mem_singleton.mp he]
        exact ⟨_, wd_cut hj8, rfl⟩
    · exact same_at nD (sm.trans (same_new nt _)) _
  have lus := dpAll_len hds
  have hu8 : us.length ≤ 8 := hu
  refine ⟨D, us, rfl, .inl ⟨SqL.of hD, fun tq ntq => ⟨zz2, fun a5 n5 => ⟨zz5, fun sl nsl => ?_⟩⟩⟩⟩
  have s5 := (same_new ntq (.tup us)).trans ((same_new n5 (.tup [.str "or", .ref tq])).trans (same_new nsl (.lst [.ref a1, .ref a2, .ref a3, .ref a4, .ref a5])))
  have d5 : Dp K (upd (upd H' tq (.tup us)) a5 (.tup [.str "or", .ref tq])) (.ref a5) (manyD "or" ds) := new2 n5 (.str _) (.tup (.inl (.inl upd_same)) (dpAll_same (same_new ntq _) _ _ hds))
  have d5 := dp_same (same_new nsl (.lst [.ref a1, .ref a2, .ref a3, .ref a4, .ref a5])) _ _ d5
  have da := dp_same (sm.trans s5) _ _ da
  have dt := dp_same (sm.trans s5) _ _ dt
  have d3 := dp_same (sm.trans s5) _ _ d3
  have d4 := dp_same (sm.trans s5) _ _ d4
  have f5 := f4.same (sm.trans s5)
  have hsl : (upd (upd (upd H' tq (.tup us)) a5 (.tup [.str "or", .ref tq])) sl (.lst [.ref a1, .ref a2, .ref a3, .ref a4, .ref a5])) sl = some (.lst [.ref a1, .ref a2, .ref a3, .ref a4, .ref a5]) := upd_same
  generalize upd (upd (upd H' tq (.tup us)) a5 (.tup [.str "or", .ref tq])) sl (.lst [.ref a1, .ref a2, .ref a3, .ref a4, .ref a5]) = H5 at da dt d3 d4 d5 f5 hsl
  have ga : Good (letD "a") := good_letter wa
  have gt : Good (manyD "and" []) := good_many (.inl rfl) (by simp) (by simp)
  have g3 : Good (manyD "or" []) := good_many (.inr rfl) (by simp) (by simp)
  have g4 : Good (manyD "and" (List.replicate 40 (letD "a"))) := good_many (.inl rfl) (fun e he => ⟨_, wa, List.eq_of_mem_replicate he⟩) (by simp)
  have g5 : Good (manyD "or" ds) := good_many (.inr rfl) hw (by omega)
  have all5 : DpAll K H5 [.ref a1, .ref a2, .ref a3, .ref a4, .ref a5] [letD "a", manyD "and" [], manyD "or" [], manyD "and" (List.replicate 40 (letD "a")), manyD "or" ds] := .cons da (.cons dt (.cons d3 (.cons d4 (.cons d5 .nil))))
  -- two more
  refine ⟨_, rfl, _, rfl, _, rfl, zz3, fun x1 nx1 => ⟨zz3, fun x2 nx2 => ⟨zz3, fun x3 nx3 => ⟨zz2, fun y1 ny1 => ⟨zz3, fun y2 ny2 => ⟨zz2, fun l2 nl2 => ?_⟩⟩⟩⟩⟩⟩
  have dx1 : Dp K (upd H5 x1 (.tup [.str "told", .ref a1, .ref a2])) (.ref x1) (twoD "told" (letD "a") (manyD "and" [])) := new3 nx1 (.str _) da dt
  have dx2 : Dp K (upd (upd H5 x1 (.tup [.str "told", .ref a1, .ref a2])) x2 (.tup [.str "must", .str "a", .ref x1])) (.ref x2) (modD "must" "a" (twoD "told" (letD "a") (manyD "and" []))) := new3 nx2 (.str _) (.str _) dx1
  generalize hA : upd (upd H5 x1 (.tup [.str "told", .ref a1, .ref a2])) x2 (.tup [.str "must", .str "a", .ref x1]) = HA at dx2 nx3 ny1 ny2 nl2 ⊢
  have sA : Same H5 HA := by rw [← hA]; exact (same_new nx1 _).trans (same_new nx2 _)
  have dx3 : Dp K (upd HA x3 (.tup [.str "may", .str "zz", .ref x2])) (.ref x3) (modD "may" "zz" (modD "must" "a" (twoD "told" (letD "a") (manyD "and" [])))) := new3 nx3 (.str _) (.str _) dx2
  have dy1 : Dp K (upd (upd HA x3 (.tup [.str "may", .str "zz", .ref x2])) y1 (.tup [.str "letter", .str "h"])) (.ref y1) (letD "h") := new2 ny1 (.str _) (.str _)
  have dy2 : Dp K (upd (upd (upd HA x3 (.tup [.str "may", .str "zz", .ref x2])) y1 (.tup [.str "letter", .str "h"])) y2 (.tup [.str "must", .str "h", .ref y1])) (.ref y2) (modD "must" "h" (letD "h")) := new3 ny2 (.str _) (.str _) dy1
  have sC := (same_new ny1 (.tup [.str "letter", .str "h"])).trans (same_new ny2 (.tup [.str "must", .str "h", .ref y1]))
  have dx3 := dp_same sC _ _ dx3
  have sB := sA.trans ((same_new nx3 (.tup [.str "may", .str "zz", .ref x2])).trans sC)
  have all7 := dpAll_app (dpAll_same sB _ _ all5) (.cons dx3 (.cons dy2 .nil))
  have hsl7 := sB _ _ hsl
  have f7 := f5.same sB
  generalize upd (upd (upd HA x3 (.tup [.str "may", .str "zz", .ref x2])) y1 (.tup [.str "letter", .str "h"])) y2 (.tup [.str "must", .str "h", .ref y1]) = H7 at all7 hsl7 f7 nl2
  refine ⟨sl, l2, _, _, rfl, rfl, same_new nl2 _ _ _ hsl7, upd_same, (show (7 : Nat) ≤ sizeLine by decide), fun s7 ns7 => ?_⟩
  have s7p : s7 ≠ p := by
    obtain ⟨_, _, _, hp', _⟩ := f7
    exact (ne_of_none (same_new nl2 _ _ _ hp') ns7).symm
  have sD := (same_new nl2 (.lst [.ref x3, .ref y2])).trans (same_new ns7 (.lst ([V.ref a1, .ref a2, .ref a3, .ref a4, .ref a5] ++ [.ref x3, .ref y2])))
  have all7 := dpAll_same sD _ _ all7
  have f8 := f7.same sD
  have hs7 : (upd (upd H7 l2 (.lst [.ref x3, .ref y2])) s7 (.lst ([V.ref a1, .ref a2, .ref a3, .ref a4, .ref a5] ++ [.ref x3, .ref y2]))) s7 = some (.lst ([V.ref a1, .ref a2, .ref a3, .ref a4, .ref a5] ++ [.ref x3, .ref y2])) := upd_same
  generalize upd (upd H7 l2 (.lst [.ref x3, .ref y2])) s7 (.lst ([V.ref a1, .ref a2, .ref a3, .ref a4, .ref a5] ++ [.ref x3, .ref y2])) = H8 at all7 f8 hs7
  have wz : Wd "zz" := wd_by (by decide +kernel) (by decide +kernel)
  have wh : Wd "h" := wd_by (by decide +kernel) (by decide +kernel)
  -- the drawn ones
  refine ⟨10, rfl, by decide, by decide, ?_⟩
  refine for_range (lo := 0) (n := (10 : Int).toNat) (fun i σ' H' => ∃ (y5 y6 : Option V) (sx : Addr) (us : List V) (ds : List PyData), σ' = [some (.ref a), some (.ref p), some (.ref a1), some (.ref a2), some (.ref sx), y5, y6, none, none, none, none, none, none] ∧ sx ≠ p ∧
      H' sx = some (.lst us) ∧ DpAll K H' us ds ∧ (∀ d ∈ ds, Good d) ∧ ds.length = 7 + 2 * i ∧ Fd K H' p c cells (100 * i))
    ⟨none, none, s7, _, _, rfl, s7p, hs7, all7, ?_, rfl, f8.mono (by omega)⟩ (fun i σ' H' hi hp => ?_) (fun σ' H' hp => ?_)
  · intro d hd
    simp only [List.cons_append, List.nil_append, List.mem_cons, List.not_mem_nil, or_false] at hd
    rcases hd with rfl | rfl | rfl | rfl | rfl | rfl | rfl
    · exact ga
    · exact gt
    · exact g3
    · exact g4
    · exact g5
    · exact good_6 wa wz
    · exact good_7 wh
  · obtain ⟨y5, y6, sx, us, ds, rfl, hxp, hx, hds, hgd', hln, fx⟩ := hp
    have hi10 : i < 10 := hi
    have lus := dpAll_len hds
    refine ⟨_, rfl, zz1, fun q' nq => ?_⟩
    have hxq : sx ≠ q' := ne_of_none hx nq
    have fq := fx.new nq (.lst [.int 9])
    have hq9 : (upd H' q' (.lst [.int 9])) q' = some (.lst [.int 9]) := upd_same
    have hxq' := same_new nq (.lst [.int 9]) _ _ hx
    have hdsq := dpAll_same (same_new nq (.lst [.int 9])) _ _ hds
    have hqp : q' ≠ p := by
      obtain ⟨_, _, _, hp', _⟩ := fx
      exact (ne_of_none hp' nq).symm
    have hqc : q' ≠ c := by
      obtain ⟨_, _, _, _, hc', _⟩ := fx
      exact (ne_of_none hc' nq).symm
    generalize upd H' q' (.lst [.int 9]) = Hq at fq hq9 hxq' hdsq ⊢
    refine ⟨_, rfl, (0 : Int) + (i : Int), 2, rfl, rfl, (show (0 : Int) < 2 by decide), rfl, p, c, cells, 100 * i, q', 9, _, rfl, fq, hq9, hqp, hqc, by decide, by decide, by rw [show Ms02.fL 9 = 8 from by decide]; omega, fun H6 one d L' k g6 f6 e6 hL hk hs hz hd => ?_⟩
    have hk8 : k ≤ 8 := by
      have : Ms02.fL 9 = 8 := by decide
      omega
    obtain ⟨gd1, gd2⟩ := good_drawn hs hz (by omega)
    have hx6 := g6.ex _ _ hxq' (by simp [hxp, hxq])
    have hds6 := dpAll_tp g6.tp ds us (tupDs_say (tl := true) (n := 14) fun e he => (hgd' e he).say) hdsq
    refine ⟨_, rfl, _, rfl, _, rfl, _, rfl, zz3, fun t nt => ⟨zz2, fun l nl => ⟨sx, l, _, _, rfl, rfl, same_new nl _ _ _ (same_new nt _ _ _ hx6), upd_same, ?_, fun sy nsy => ?_⟩⟩⟩
    · have : us.length + 2 ≤ sizeLine := by rw [sizeLine_eq]; omega
      exact this
    have hso : Dp K (upd H6 t (.tup [.str "so", .ref one, .ref one])) (.ref t) (twoD "so" d d) := new3 nt (.str _) hd hd
    have st := same_new nt (.tup [.str "so", .ref one, .ref one])
    have sl' := (same_new nl (.lst [.ref one, .ref t])).trans (same_new nsy (.lst (us ++ [.ref one, .ref t])))
    refine ⟨_, _, sy, us ++ [.ref one, .ref t], ds ++ [d, twoD "so" d d], rfl, ?_, upd_same, ?_, ?_, ?_, ?_⟩
    · obtain ⟨_, _, _, hp', _⟩ := f6
      exact (ne_of_none (same_new nl _ _ _ (st _ _ hp')) nsy).symm
    · exact dpAll_same sl' _ _ (dpAll_app (dpAll_same st _ _ hds6) (.cons (dp_same st _ _ hd) (.cons hso .nil)))
    · intro e he
      rcases List.mem_append.mp he with he | he
      · exact hgd' e he
      · simp only [List.mem_cons, List.not_mem_nil, or_false] at he
        rcases he with rfl | rfl
        · exact gd1
        · exact gd2
    · rw [List.length_append, hln]
      simp
      omega
    · exact (f6.same (st.trans sl')).mono (by omega)
  · obtain ⟨y5, y6, sx, us, ds, rfl, hxp, hx, hds, hgd', hln, fx⟩ := hp
    have lus := dpAll_len hds
    have l27 : us.length = 27 := by
      rw [lus, hln]
      rfl
    refine ⟨_, rfl, _, rfl, 4, rfl, sx, us, rfl, SqL.of hx, fun cl ncl => ⟨sx, cl, us, _, rfl, rfl, same_new ncl _ _ _ hx, upd_same, ?_, fun al nal => ?_⟩⟩
    · have := cutV_length us none (some 4)
      rw [sizeLine_eq]
      omega
    have s9 := (same_new ncl (.lst (cutV us none (some 4)))).trans (same_new nal (.lst (us ++ cutV us none (some 4))))
    have item : ∀ x ∈ us ++ cutV us none (some 4), ∃ d, Good d ∧ Dp K (upd (upd H' cl (.lst (cutV us none (some 4)))) al (.lst (us ++ cutV us none (some 4)))) x d := fun x hx' => by
      have hm : x ∈ us := (List.mem_append.mp hx').elim id fun z => List.mem_of_mem_drop (List.mem_of_mem_take z)
      obtain ⟨j, hj⟩ := List.getElem?_of_mem hm
      obtain ⟨d, h1, h2⟩ := dpAll_get hds hj
      exact ⟨d, hgd' d (List.mem_of_getElem? h1), dp_same s9 _ _ h2⟩
    have hal : (upd (upd H' cl (.lst (cutV us none (some 4)))) al (.lst (us ++ cutV us none (some 4)))) al = some (.lst (us ++ cutV us none (some 4))) := upd_same
    refine ⟨al, rfl, ⟨_, SqL.of upd_same⟩, ?_⟩
    generalize upd (upd H' cl (.lst (cutV us none (some 4)))) al (.lst (us ++ cutV us none (some 4))) = H9 at item hal
    generalize us ++ cutV us none (some 4) = its at item hal
    refine for_list (K := K) (a := al) (xs := its) (fun i σ' H' => (∃ y5 y6 y7 y8 y9 y10 y11 y12 : Option V, σ' = [some (.ref a), some (.ref p), some (.ref a1), some (.ref a2), some (.ref sx), y5, y6, y7, y8, y9, y10, y11, y12]) ∧ Same H9 H')
      ⟨⟨_, _, _, _, _, _, _, _, rfl⟩, Same.refl H9⟩ (fun i σ' H' _ hp => same_seq hp.2 (SqL.of hal)) (fun i x σ' H' hxi hp => ?_) (fun σ' H' hp => ?_)
    · obtain ⟨⟨z5, z6, z7, z8, z9, z10, z11, z12, rfl⟩, sm⟩ := hp
      obtain ⟨d, gd, hd9⟩ := item x (List.mem_of_getElem? hxi)
      have hd := dp_same sm _ _ hd9
      have nice := nice_say gd.say
      have hform : (∃ es, d = .tuple es) ∨ ∃ es, d = .list es := by
        obtain ⟨y, r, e⟩ := say_word gd.say
        exact .inl ⟨_, e⟩
      have hsz := gd.sz 14
      have hrl : d.shown.length ≤ sizeLine := Nat.le_trans nice.len (by rw [sizeLine_eq]; omega)
      have hun : (A.deeper (envOfC "law" (defScope sLaw) s.heap.objs.size f cdv)).units + 64 < cLine := hr.units
      have hru : (A.deeper (envOfC "law" (defScope sLaw) s.heap.objs.size f cdv)).units + (d.depth + 1) < cLine := by
        have := nice.dep
        omega
      -- kept, every
      refine ⟨_, rfl, x, d, rfl, hd, hform, nice.sh, nice.nd, hrl, hru, _, rfl, x, true, 14, d, rfl, gd.say, by decide, hd, by omega, fun H2 l us2 s2' nl hl hus => ⟨_, _, rfl, ?_⟩⟩
      have lus2 := dpAll_len hus
      have le14 := allP_len 14 d
      -- names
      have l14 : us2.length ≤ 100 := by omega
      refine ⟨_, rfl, l, rfl, ⟨us2, SqL.of hl⟩, fun D nD => ?_⟩
      refine lc_list (K := K) (a := l) (xs := us2) (fun j H' => ∃ xs : List Str, H' D = some (.lst (xs.map V.str)) ∧ xs.length ≤ j ∧ (∀ x, x ∈ xs ↔ ∃ e ∈ (allP 14 d).take j, isL e x) ∧ Same H2 H')
        ⟨[], upd_same, Nat.le_refl _, by simp, same_new nD _⟩ (fun j H' _ ⟨_, _, _, _, sm⟩ => same_seq sm (SqL.of hl)) (fun j x H' hx ⟨xs, h1, h2, h3, sm⟩ => ?_) (fun H3 ⟨xs, hD3, hxl, hxm, s3⟩ => ?_)
      · obtain ⟨e, he, hde⟩ := dpAll_get hus hx
        have hj : j < us2.length := (List.getElem?_eq_some_iff.mp hx).1
        have hse := allP_say gd.say e (List.mem_of_getElem? he)
        obtain ⟨ad, m, rfl, em, hc⟩ := say_at hse (dp_same sm _ _ hde)
        refine ⟨rfl, ?_⟩
        rcases hc with ⟨y, hy, rfl, hq⟩ | ⟨e', y, _, rfl, _, hq⟩ | ⟨w', es, b, hw, _, rfl, _, hq⟩ | ⟨w', e', f', y, z, hw, _, _, rfl, _, _, hq⟩ | ⟨w', h', e', y, hw, _, _, rfl, _, hq⟩
        · refine ⟨_, rfl, ad, _, 0, _, rfl, rfl, hq, rfl, rfl, _, rfl, ite2 (fun c => ?_) (fun c => absurd (by decide) c)⟩
          exact ⟨_, rfl, ad, _, 1, _, rfl, rfl, hq, rfl, _, h1, small1000 (by rw [List.length_map]; omega), xs ++ [y], by rw [upd_same, List.map_append]; rfl, by rw [List.length_append]; exact Nat.succ_le_succ h2, more_l he (fun x => isL_iff) h3, same_at nD sm _⟩
        · refine ⟨_, rfl, ad, _, 0, _, rfl, rfl, hq, rfl, rfl, _, rfl, ite2 (fun c => absurd c (by decide)) (fun c => ⟨xs, h1, by omega, no_more he (fun x => notL (by decide)) h3, sm⟩)⟩
        · rcases hw with rfl | rfl
          · refine ⟨_, rfl, ad, _, 0, _, rfl, rfl, hq, rfl, rfl, _, rfl, ite2 (fun c => absurd c (by decide)) (fun c => ⟨xs, h1, by omega, no_more he (fun x => notL (by decide)) h3, sm⟩)⟩
          · refine ⟨_, rfl, ad, _, 0, _, rfl, rfl, hq, rfl, rfl, _, rfl, ite2 (fun c => absurd c (by decide)) (fun c => ⟨xs, h1, by omega, no_more he (fun x => notL (by decide)) h3, sm⟩)⟩
        · rcases hw with rfl | rfl
          · refine ⟨_, rfl, ad, _, 0, _, rfl, rfl, hq, rfl, rfl, _, rfl, ite2 (fun c => absurd c (by decide)) (fun c => ⟨xs, h1, by omega, no_more he (fun x => notL (by decide)) h3, sm⟩)⟩
          · refine ⟨_, rfl, ad, _, 0, _, rfl, rfl, hq, rfl, rfl, _, rfl, ite2 (fun c => absurd c (by decide)) (fun c => ⟨xs, h1, by omega, no_more he (fun x => notL (by decide)) h3, sm⟩)⟩
        · rcases hw with rfl | rfl
          · refine ⟨_, rfl, ad, _, 0, _, rfl, rfl, hq, rfl, rfl, _, rfl, ite2 (fun c => absurd c (by decide)) (fun c => ⟨xs, h1, by omega, no_more he (fun x => notL (by decide)) h3, sm⟩)⟩
          · refine ⟨_, rfl, ad, _, 0, _, rfl, rfl, hq, rfl, rfl, _, rfl, ite2 (fun c => absurd c (by decide)) (fun c => ⟨xs, h1, by omega, no_more he (fun x => notL (by decide)) h3, sm⟩)⟩
      rw [lus2, List.take_length] at hxm
      have pool1 : ∀ (zs : List Str), zs.Nodup → (∀ x, x ∈ zs ↔ x ∈ xs) → zs.length < 64 := fun zs h1 h2 => Nat.lt_of_le_of_lt (len_sub (m := poolW) h1 fun x hx => by
        obtain ⟨e, he, r⟩ := (hxm x).mp ((h2 x).mp hx)
        exact poolL (allP_say gd.say e he) r) (by decide)
      refine ⟨D, xs, rfl, SqL.of hD3, Nat.lt_of_le_of_lt (show xs.length + 1 ≤ 101 by omega) (by decide), fun sp zs znd zm nsp => ⟨sp, zs, rfl, upd_same, pool1 zs znd zm, fun ys q1 yp yso nq1 => ?_⟩⟩
      have sq1 := s3.trans ((same_new nsp (TxO P w sp zs)).trans (same_new nq1 (.lst (ys.map V.str))))
      have hq1 : (upd (upd H3 sp (TxO P w sp zs)) q1 (.lst (ys.map V.str))) q1 = some (.lst (ys.map V.str)) := upd_same
      have hlN := sq1 _ _ hl
      have husN := dpAll_same sq1 _ _ hus
      have hdN := dp_same (s2'.trans sq1) _ _ hd
      have sN := sm.trans (s2'.trans sq1)
      generalize upd (upd H3 sp (TxO P w sp zs)) q1 (.lst (ys.map V.str)) = HN at hq1 hlN husN hdN sN ⊢
      -- owners
      refine ⟨_, rfl, l, rfl, ⟨us2, SqL.of hlN⟩, fun D2 nD2 => ?_⟩
      refine lc_list (K := K) (a := l) (xs := us2) (fun j H' => ∃ xs : List Str, H' D2 = some (.lst (xs.map V.str)) ∧ xs.length ≤ j ∧ (∀ x, x ∈ xs ↔ ∃ e ∈ (allP 14 d).take j, isH e x) ∧ Same HN H')
        ⟨[], upd_same, Nat.le_refl _, by simp, same_new nD2 _⟩ (fun j H' _ ⟨_, _, _, _, sm⟩ => same_seq sm (SqL.of hlN)) (fun j x H' hx ⟨xs, h1, h2, h3, sm⟩ => ?_) (fun H4 ⟨hs, hD4, hhl, hhm, s4'⟩ => ?_)
      · obtain ⟨e, he, hde⟩ := dpAll_get husN hx
        have hj : j < us2.length := (List.getElem?_eq_some_iff.mp hx).1
        have hse := allP_say gd.say e (List.mem_of_getElem? he)
        obtain ⟨ad, m, rfl, em, hc⟩ := say_at hse (dp_same sm _ _ hde)
        refine ⟨rfl, ?_⟩
        rcases hc with ⟨y, hy, rfl, hq⟩ | ⟨e', y, _, rfl, _, hq⟩ | ⟨w', es, b, hw, _, rfl, _, hq⟩ | ⟨w', e', f', y, z, hw, _, _, rfl, _, _, hq⟩ | ⟨w', h', e', y, hw, _, _, rfl, _, hq⟩
        · refine ⟨_, rfl, ad, _, 0, _, rfl, rfl, hq, rfl, zz2, fun u nu => ⟨u, _, rfl, .inr (.inl (.inl upd_same)), rfl, rfl, _, rfl, ite2 (fun c => absurd c (by decide)) (fun c => ⟨xs, same_new nu _ _ _ h1, by omega, no_more he (fun x => notH (by decide) (by decide)) h3, sm.trans (same_new nu _)⟩)⟩⟩
        · refine ⟨_, rfl, ad, _, 0, _, rfl, rfl, hq, rfl, zz2, fun u nu => ⟨u, _, rfl, .inr (.inl (.inl upd_same)), rfl, rfl, _, rfl, ite2 (fun c => absurd c (by decide)) (fun c => ⟨xs, same_new nu _ _ _ h1, by omega, no_more he (fun x => notH (by decide) (by decide)) h3, sm.trans (same_new nu _)⟩)⟩⟩
        · rcases hw with rfl | rfl
          · refine ⟨_, rfl, ad, _, 0, _, rfl, rfl, hq, rfl, zz2, fun u nu => ⟨u, _, rfl, .inr (.inl (.inl upd_same)), rfl, rfl, _, rfl, ite2 (fun c => absurd c (by decide)) (fun c => ⟨xs, same_new nu _ _ _ h1, by omega, no_more he (fun x => notH (by decide) (by decide)) h3, sm.trans (same_new nu _)⟩)⟩⟩
          · refine ⟨_, rfl, ad, _, 0, _, rfl, rfl, hq, rfl, zz2, fun u nu => ⟨u, _, rfl, .inr (.inl (.inl upd_same)), rfl, rfl, _, rfl, ite2 (fun c => absurd c (by decide)) (fun c => ⟨xs, same_new nu _ _ _ h1, by omega, no_more he (fun x => notH (by decide) (by decide)) h3, sm.trans (same_new nu _)⟩)⟩⟩
        · rcases hw with rfl | rfl
          · refine ⟨_, rfl, ad, _, 0, _, rfl, rfl, hq, rfl, zz2, fun u nu => ⟨u, _, rfl, .inr (.inl (.inl upd_same)), rfl, rfl, _, rfl, ite2 (fun c => absurd c (by decide)) (fun c => ⟨xs, same_new nu _ _ _ h1, by omega, no_more he (fun x => notH (by decide) (by decide)) h3, sm.trans (same_new nu _)⟩)⟩⟩
          · refine ⟨_, rfl, ad, _, 0, _, rfl, rfl, hq, rfl, zz2, fun u nu => ⟨u, _, rfl, .inr (.inl (.inl upd_same)), rfl, rfl, _, rfl, ite2 (fun c => absurd c (by decide)) (fun c => ⟨xs, same_new nu _ _ _ h1, by omega, no_more he (fun x => notH (by decide) (by decide)) h3, sm.trans (same_new nu _)⟩)⟩⟩
        · rcases hw with rfl | rfl
          · refine ⟨_, rfl, ad, _, 0, _, rfl, rfl, hq, rfl, zz2, fun u nu => ⟨u, _, rfl, .inr (.inl (.inl upd_same)), rfl, rfl, _, rfl, ite2 (fun c => ?_) (fun c => absurd (by decide) c)⟩⟩
            exact ⟨_, rfl, ad, _, 1, _, rfl, rfl, (Tp.same (same_new nu _)).tup hq, rfl, _, same_new nu _ _ _ h1, small1000 (by rw [List.length_map]; omega), xs ++ [h'], by rw [upd_same, List.map_append]; rfl, by rw [List.length_append]; exact Nat.succ_le_succ h2, more_l he (fun x => isH_iff (.inl rfl)) h3, same_at nD2 (sm.trans (same_new nu _)) _⟩
          · refine ⟨_, rfl, ad, _, 0, _, rfl, rfl, hq, rfl, zz2, fun u nu => ⟨u, _, rfl, .inr (.inl (.inl upd_same)), rfl, rfl, _, rfl, ite2 (fun c => ?_) (fun c => absurd (by decide) c)⟩⟩
            exact ⟨_, rfl, ad, _, 1, _, rfl, rfl, (Tp.same (same_new nu _)).tup hq, rfl, _, same_new nu _ _ _ h1, small1000 (by rw [List.length_map]; omega), xs ++ [h'], by rw [upd_same, List.map_append]; rfl, by rw [List.length_append]; exact Nat.succ_le_succ h2, more_l he (fun x => isH_iff (.inr rfl)) h3, same_at nD2 (sm.trans (same_new nu _)) _⟩
      rw [lus2, List.take_length] at hhm
      have pool2 : ∀ (zs : List Str), zs.Nodup → (∀ x, x ∈ zs ↔ x ∈ hs) → zs.length < 64 := fun zs h1 h2 => Nat.lt_of_le_of_lt (len_sub (m := poolW) h1 fun x hx => by
        obtain ⟨e, he, r⟩ := (hhm x).mp ((h2 x).mp hx)
        exact poolH (allP_say gd.say e he) r) (by decide)
      refine ⟨D2, hs, rfl, SqL.of hD4, Nat.lt_of_le_of_lt (show hs.length + 1 ≤ 101 by omega) (by decide), fun sp2 zs2 znd2 zm2 nsp2 => ⟨sp2, zs2, rfl, upd_same, pool2 zs2 znd2 zm2, fun ys2 q2 yp2 yso2 nq2 => ?_⟩⟩
      have sq2 := s4'.trans ((same_new nsp2 (TxO P w sp2 zs2)).trans (same_new nq2 (.lst (ys2.map V.str))))
      have hq2 : (upd (upd H4 sp2 (TxO P w sp2 zs2)) q2 (.lst (ys2.map V.str))) q2 = some (.lst (ys2.map V.str)) := upd_same
      have hq1 := sq2 _ _ hq1
      have hl2 := sq2 _ _ hlN
      have hus2 := dpAll_same sq2 _ _ husN
      have hd2 := dp_same sq2 _ _ hdN
      have sM := sN.trans sq2
      generalize upd (upd H4 sp2 (TxO P w sp2 zs2)) q2 (.lst (ys2.map V.str)) = HM at hq1 hq2 hl2 hus2 hd2 sM ⊢
      have pd : psz 14 d ≤ 900 := by omega
      -- due
      refine ⟨_, rfl, l, us2, allP 14 d, true, 14, rfl, SqL.of hl2, hus2, fun e he => allP_say gd.say e he, by decide, by omega, fun H5 t acc ds5 s5 pm5 pw5 nt5 ht5 hacc5 => ⟨t, acc, rfl, .inl ⟨SqL.of ht5, fun t1 nt1 => ?_⟩⟩⟩
      have e1 : Dp K (upd H5 t1 (.tup acc)) (.ref t1) (.tuple (nub ds5)) := .tup (.inl (.inl upd_same)) (dpAll_same (same_new nt1 _) _ _ hacc5)
      have sa := s5.trans (same_new nt1 (.tup acc))
      have hq1 := sa _ _ hq1
      have hq2 := sa _ _ hq2
      have hd2 := dp_same sa _ _ hd2
      have sM := sM.trans sa
      generalize upd H5 t1 (.tup acc) = H6 at e1 hq1 hq2 hd2 sM ⊢
      refine ⟨_, rfl, q1, ys.map V.str, rfl, .inl ⟨SqL.of hq1, fun t2 nt2 => ⟨_, rfl, q2, ys2.map V.str, rfl, .inl ⟨SqL.of (same_new nt2 _ _ _ hq2), fun t3 nt3 => ?_⟩⟩⟩⟩
      have e2 : Dp K (upd H6 t2 (.tup (ys.map V.str))) (.ref t2) (.tuple (ys.map .str)) := .tup (.inl (.inl upd_same)) (dpStrs _)
      have e3 : Dp K (upd (upd H6 t2 (.tup (ys.map V.str))) t3 (.tup (ys2.map V.str))) (.ref t3) (.tuple (ys2.map .str)) := .tup (.inl (.inl upd_same)) (dpStrs _)
      have sb := (same_new nt2 (.tup (ys.map V.str))).trans (same_new nt3 (.tup (ys2.map V.str)))
      have e1 := dp_same sb _ _ e1
      have e2 := dp_same (same_new nt3 (.tup (ys2.map V.str))) _ _ e2
      have hd2 := dp_same sb _ _ hd2
      have sM := sM.trans sb
      generalize upd (upd H6 t2 (.tup (ys.map V.str))) t3 (.tup (ys2.map V.str)) = H7 at e1 e2 e3 hd2 sM ⊢
      refine ⟨_, rfl, x, true, 14, d, rfl, gd.say, by decide, hd2, pd, fun H8 s8 => ⟨zz4, fun du ndu => ?_⟩⟩
      have e1 := dp_same s8 _ _ e1
      have e2 := dp_same s8 _ _ e2
      have e3 := dp_same s8 _ _ e3
      have hd2 := dp_same (s8.trans (same_new ndu (.lst [.ref t1, .ref t2, .ref t3, .int (deep 14 d)]))) _ _ hd2
      have sM := sM.trans (s8.trans (same_new ndu (.lst [.ref t1, .ref t2, .ref t3, .int (deep 14 d)])))
      have dD : Dp K (upd H8 du (.lst [.ref t1, .ref t2, .ref t3, .int (deep 14 d)])) (.ref du) (.list [.tuple (nub ds5), .tuple (ys.map .str), .tuple (ys2.map .str), .int (deep 14 d)]) :=
        .lst (SqL.of upd_same) (dpAll_same (same_new ndu (.lst [.ref t1, .ref t2, .ref t3, .int (deep 14 d)])) _ _ (.cons e1 (.cons e2 (.cons e3 (.cons (.int _) .nil)))))
      generalize upd H8 du (.lst [.ref t1, .ref t2, .ref t3, .int (deep 14 d)]) = HK at dD hd2 sM ⊢
      have mL : ∀ z, z ∈ ys ↔ ∃ e ∈ allP 14 d, isL e z := fun z => yp.mem_iff.trans ((zm z).trans (hxm z))
      have mH : ∀ z, z ∈ ys2 ↔ ∃ e ∈ allP 14 d, isH e z := fun z => yp2.mem_iff.trans ((zm2 z).trans (hhm z))
      refine ⟨_, rfl, x, true, 14, d, rfl, gd.say, hd2, by decide, pd, fun HP tP dsP sP pmP pwP dP => ⟨_, rfl, x, true, 14, d, poolW, rfl, gd.say, dp_same sP _ _ hd2, pd, by decide, fun e he y r => poolL (allP_say gd.say e he) r, fun HL tL ysL sL ndL memL soL hL =>
        ⟨_, rfl, x, true, 14, d, poolW, rfl, gd.say, dp_same (sP.trans sL) _ _ hd2, pd, by decide, fun e he y r => poolH (allP_say gd.say e he) r, fun HH tH ysH sH ndH memH soH hH => ⟨_, rfl, x, true, 14, d, rfl, gd.say, by decide, dp_same (sP.trans (sL.trans sH)) _ _ hd2, pd, fun HE sE => ⟨zz4, fun li nli => ?_⟩⟩⟩⟩⟩
      have eP : dsP = ds5 := perm_sorted (pmP.trans pm5.symm) pwP pw5 fun e he => st_say (allP_say gd.say e (pmP.mem_iff.mp he))
      have eL : ysL = ys := texts_uniq ndL (yp.nodup_iff.mpr znd) (fun z => (memL z).trans (mL z).symm) soL yso
      have eH : ysH = ys2 := texts_uniq ndH (yp2.nodup_iff.mpr znd2) (fun z => (memH z).trans (mH z).symm) soH yso2
      subst eP eL eH
      have sn := same_new nli (.lst [.ref tP, .ref tL, .ref tH, .int (deep 14 d)])
      have dR : Dp K (upd HE li (.lst [.ref tP, .ref tL, .ref tH, .int (deep 14 d)])) (.ref li) (.list [.tuple (nub dsP), .tuple (ysL.map .str), .tuple (ysH.map .str), .int (deep 14 d)]) :=
        .lst (SqL.of upd_same) (dpAll_same sn _ _ (.cons (dp_same (sL.trans (sH.trans sE)) _ _ dP) (.cons (.tup (.inl (.inl ((sH.trans sE) _ _ hL))) (dpStrs _)) (.cons (.tup (.inl (.inl (sE _ _ hH))) (dpStrs _)) (.cons (.int _) .nil)))))
      have sZ := sP.trans (sL.trans (sH.trans (sE.trans sn)))
      have nD := nice_row gd pmP ndL (fun z hz => by
        obtain ⟨e, he, r⟩ := (memL z).mp hz
        exact poolL (allP_say gd.say e he) r) ndH (fun z hz => by
        obtain ⟨e, he, r⟩ := (memH z).mp hz
        exact poolH (allP_say gd.say e he) r)
      have nDl : (PyData.list [.tuple (nub dsP), .tuple (ysL.map .str), .tuple (ysH.map .str), .int (deep 14 d)]).shown.length ≤ sizeLine := Nat.le_trans nD.len (by rw [sizeLine_eq]; omega)
      have nDu : (A.deeper (envOfC "law" (defScope sLaw) s.heap.objs.size f cdv)).units + ((PyData.list [.tuple (nub dsP), .tuple (ysL.map .str), .tuple (ysH.map .str), .int (deep 14 d)]).depth + 1) < cLine := by
        have := nD.dep
        omega
      refine ⟨.ref li, _, rfl, dR, .inr ⟨_, rfl⟩, nD.sh, nD.nd, nDl, nDu, _, rfl, .ref du, _, rfl, dp_same sZ _ _ dD, .inr ⟨_, rfl⟩, nD.sh, nD.nd, nDl, nDu, rfl, _, rfl, ?_⟩
      refine iteNS rfl ?_
      refine ⟨_, rfl, x, d, rfl, dp_same sZ _ _ hd2, hform, nice.sh, nice.nd, hrl, hru, _, rfl, rfl, _, rfl, iteNS rfl ?_⟩
      exact ⟨⟨_, _, _, _, _, _, _, _, rfl⟩, sM.trans sZ⟩
    · exact q _
end
end Ms02

namespace Ms02
open PySem PySem.Spec PyProof.Rows L2
section
variable {P : Program} {w : World} {K : PySem.W.Frag} {mg : Str → Option Value} {base : Heap}
/-- a def called where it is known what runs around: its body read there -/
theorem fn_here {x qual : Str} {st : Stmt} {f : Addr} {fd : FuncData} {N ps : List Str} {k : Nat} {A : Around} {outer : List Env} {s : Shared} {H : Hp} {args : Args} {us : List Value} {vs : List V} {Q : VK} {E : XK}
    (F : Fun K x qual st f fd) (S : FnScope N ps (defScope st)) (hl : vs.length = ps.length) (room : Room (k + 1) A) (e0 : Env0 P w K mg base A outer s H) (bind : BindsTo s fd args (ps.zip us)) (rel : Vals vs us)
    (body : ∀ cdv : Value, Room k (A.deeper (envOfC qual (defScope st) s.heap.objs.size f cdv)) →
      ∃ t, PSs (cxOf CX0 P w K mg base N qual (defScope st) f cdv A outer s H E).nox (defBody st) t ∧ t { nx := fun _ H' => Q .non H', rt := Q } (start N vs) H) :
    codeAny (model P w) A (.call (.ref f) args) (CR CX0 outer P w H s Q E) s := by
  obtain ⟨oc, od, kV, doc, pm, an, cdv, ct, osl, rfl, look, code⟩ := F.ex
  have inK : K.In s.heap := e0.mod.kin.keeps fun b o e => (e0.bs b o e).1
  have noLim : s.heap.NoLimit := e0.mod.nolimit.keeps fun b o e => (e0.bs b o e).1
  have kinds : ∀ z ∈ ps.zip us, (defScope st).names.lookup z.1 = some .local ∨ ((defScope st).names.lookup z.1 = some .cell ∧ ((cellsFrom (s.heap.objs.size + 1) (defScope st).names []).lookup z.1).isSome = true) := by
    rintro ⟨m, v⟩ hz
    rcases S.par m (List.of_mem_zip hz).1 with z | z
    · exact Or.inl z
    · exact Or.inr ⟨z, PySem.W.cellsFrom_some _ _ _ (Or.inl z)⟩
  apply codeAny_call_function room.depth (inK _ _ look) rfl S.co S.gen rfl (PySem.W.codeRec_of inK code)
  apply bind
  apply wpAny_newFunctionEnv_cells S.kind kinds
  intro env he s1 y
  subst he
  constructor
  · exact noLim.keeps y.toInCall.keep
  apply codeAny_func
  obtain ⟨t, ht, hq⟩ := body cdv (room.deeper _)
  have J := inv_start (CX := CX0) (P := P) (w := w) (E := E) S room.hd e0 hl rel y
  apply wpAny_mono (ht.nox.run [] s1 (start N vs) H _ J hq)
  · intro fl s' hs
    cases fl with
    | ret u =>
      obtain ⟨v, σ', H', I, rv, z⟩ := hs
      exact ⟨v, H', I.os, I.bare, I.base, I.hok, rv, z⟩
    | next =>
      obtain ⟨σ', H', I, z⟩ := hs
      exact ⟨V.non, H', I.os, I.bare, I.base, I.hok, rfl, z⟩
    | brk => exact hs.elim fun _ h => h.elim fun _ h => h.2.elim
    | cont => exact hs.elim fun _ h => h.elim fun _ h => h.2.elim
  · intro e s' hs
    exact hs
end
/-- the law's call, from its body where nothing runs around it but the claim's caller -/
theorem call_here {P : Program} {w : World} {K : PySem.W.Frag} {mg mb : Str → Option Value} {fa a : Addr} {s1 : Shared} {vs : List Value} {ns : List Int}
    (KX : K.In s1.heap) (hns : s1.heap.Ns mainGlobals mg) (hb : s1.heap.Ns builtinsNs mb) (hbb : ∀ x : Str, x ≠ "__name__" → mb x = bootBuiltins x) (lim : s1.heap.NoLimit) (hg : s1.gens = #[])
    (ha : s1.heap.get? a = some { cls := .type "list", data := .seq vs.toArray }) (hi : IntsAre vs ns) (hl : ns.length ≤ sizeLine)
    (run : ∀ (base : Heap) (H : Hp), K.In base → base.Ns mainGlobals mg → Env0 P w K mg base callerA [] s1 H → SqL K H a (ns.map V.int) → codeAny (model P w) callerA (.call (.ref fa) ⟨[.ref a], []⟩) (CR CX0 [] P w H s1 (fun v _ => v = .bl true) (fun _ _ _ => False)) s1) :
    codeAny (model P w) callerA (.call (.ref fa) ⟨[.ref a], []⟩) (fun r s' => r = .ok (.ret (.bool true)) ∧ OldK s1.heap s'.heap ∧ s'.os = s1.os ∧ AllBare s'.gens) s1 := by
  have rv := vals_ints hi
  have lv := hi.length
  suffices main : ∃ H : Hp, Only H ∧ SqL K H a (ns.map V.int) ∧ HOk P w H s1.heap ∧ (∀ b, H b ≠ none → b = a ∧ K.lookup a = none) by
    obtain ⟨H, hO, hS, hok, hA⟩ := main
    have free : ∀ {b : Addr} {o : Obj}, s1.heap.get? b = some o → (b = a → K.lookup a = none → False) → (hidT s1.heap H).get? b = some o := by
      intro b o e no
      refine hidT_get e (Classical.byContradiction fun z => ?_)
      exact no (hA b z).1 (hA b z).2
    have nsK : ∀ {b : Addr} {m : Str → Option Value}, s1.heap.Ns b m → (hidT s1.heap H).Ns b m := by
      rintro b m ⟨o, es, ep, e, d, r⟩
      refine ⟨o, es, ep, free e fun z _ => ?_, d, r⟩
      rw [z, ha] at e
      cases e
      cases d
    have kb : K.In (hidT s1.heap H) := by
      intro b o e
      refine free (KX b o e) fun z n => ?_
      rw [z, n] at e
      cases e
    have md : Mod K mg (hidT s1.heap H) := by
      obtain ⟨mc, l1, l2⟩ := lim
      exact ⟨kb, nsK hns, ⟨mb, nsK hb, hbb⟩, ⟨mc, nsK l1, l2⟩⟩
    have none_ : ∀ b : Addr, b ∉ frs ([] : List Env) := fun b z => by cases z
    have e0 : Env0 P w K mg (hidT s1.heap H) callerA [] s1 H :=
      { frames := rfl, mod := md, bs := fun b o e => of_hidT e, bsz := Nat.le_of_eq (hidT_size _ _), funs := trivial, frf := fun b z => absurd z (none_ b), hok := hok, bare := .of_eq hg }
    apply codeAny_mono (run _ H kb (nsK hns) e0 hS)
    intro r s' h
    match r, h with
    | .error e, h => exact False.elim h
    | .ok .next, h => exact False.elim h
    | .ok .brk, h => exact False.elim h
    | .ok .cont, h => exact False.elim h
    | .ok (.ret u), h =>
      obtain ⟨v, H', os, bare, un, hok', r', z⟩ := h
      have z : v = V.bl true := z
      subst z
      cases (show u = Value.bool true from r')
      refine ⟨rfl, OldK.of_keep ?_, os, bare⟩
      intro b o e
      rcases hO b with n | ⟨ob, xs, n⟩
      · exact un.keep b o e n (none_ b) (by simp)
      · have k1 := (hok b _ n).1
        have k2 := (hok' b _ (un.frzs b ob _ n)).1
        rw [k1] at e
        cases e
        exact k2
  cases hk : K.lookup a with
  | some o =>
    have e := KX a o hk
    rw [ha] at e
    cases e
    refine ⟨fun _ => none, fun _ => Or.inl rfl, Or.inr ⟨_, vs.toArray, _, hk, rfl, rfl, rfl, ?_, by simpa using rv⟩, fun b u z => (by cases z), fun b z => absurd rfl z⟩
    rw [List.size_toArray, lv]
    exact hl
  | none =>
    refine ⟨upd (fun _ => none) a (.frz { cls := .type "list", data := .seq vs.toArray } (.lst (ns.map V.int))), fun b => ?_, Or.inl (Or.inr ⟨_, upd_same⟩), fun b u z => ?_, fun b z => ?_⟩
    · by_cases hb : b = a
      · subst hb
        exact Or.inr ⟨_, _, upd_same⟩
      · exact Or.inl (upd_ne hb)
    · by_cases hb : b = a
      · subst hb
        rw [upd_same] at z
        cases z
        refine ⟨ha, ?_, vs, _, rv, ha⟩
        rw [List.length_map]
        exact hl
      · rw [upd_ne hb] at z
        cases z
    · by_cases hb : b = a
      · exact ⟨hb, rfl⟩
      · exact absurd (upd_ne hb) z
end Ms02

namespace Ms02
open PySem PySem.Spec PyProof.Rows L2
section
variable {P : Program} {w : World} {K : PySem.W.Frag} {mg : Str → Option Value} {base : Heap}
theorem no_saying {f : Addr} {fd : FuncData} : FnOk P w K mg base CX0 (0 + 1) f fd ["_law_feed_here", "_law_left", "_law_told"] (spSaying K 0) := by
  have no : ∀ vs H Q E, ¬ spSaying K 0 vs H Q E := fun vs H Q E h => by
    obtain ⟨_, _, _, _, _, _, _, _, _, _, _, _, h1, _⟩ := h
    omega
  exact ⟨fun vs H Q E h => absurd h (no vs H Q E), fun A outer s H args us vs Q E _ _ _ _ h => absurd h (no vs H Q E)⟩
theorem no_depth {f : Addr} {fd : FuncData} {ps : List Str} : FnOk P w K mg base CX0 (0 + 1) f fd ps (spDepth K 0) := by
  have no : ∀ vs H Q E, ¬ spDepth K 0 vs H Q E := fun vs H Q E h => by
    obtain ⟨_, _, n, _, _, h1, h2, _⟩ := h
    cases (show n = 0 by omega)
    exact h1.elim
  exact ⟨fun vs H Q E h => absurd h (no vs H Q E), fun A outer s H args us vs Q E _ _ _ _ h => absurd h (no vs H Q E)⟩
theorem no_lall {f : Addr} {fd : FuncData} {ps : List Str} : FnOk P w K mg base CX0 (0 + 1) f fd ps (spLAll K 0) := by
  have no : ∀ vs H Q E, ¬ spLAll K 0 vs H Q E := fun vs H Q E h => by
    obtain ⟨_, _, n, _, _, h1, h2, _⟩ := h
    cases (show n = 0 by omega)
    exact h1.elim
  exact ⟨fun vs H Q E h => absurd h (no vs H Q E), fun A outer s H args us vs Q E _ _ _ _ h => absurd h (no vs H Q E)⟩
theorem all_saying {f g : Addr} {fd gd : FuncData} (F : Fun K "_law_saying" "_law_saying" sSaying f fd) (D : FnOk P w K mg base CX0 1 g gd ["_law_feed_here", "_law_many"] (spDraw K)) (bD : Binds K gd ["_law_feed_here", "_law_many"] []) (kD : PySem.W.keepIn K (.ref g) = true)
    (mD : mg "_law_draw" = some (.ref g)) (bG : Binds K fd ["_law_feed_here", "_law_left", "_law_told"] []) (mG : mg "_law_saying" = some (.ref f)) (mr : mg "range" = none) (mt : mg "tuple" = none) : ∀ m : Nat, FnOk P w K mg base CX0 (m + 1) f fd ["_law_feed_here", "_law_left", "_law_told"] (spSaying K m)
  | 0 => no_saying
  | m + 1 => ok_saying F D bD kD mD (all_saying F D bD kD mD bG mG mr mt m) bG mG mr mt
theorem all_depth {f g : Addr} {fd gd : FuncData} (F : Fun K "depth_of" "depth_of" sDepth f fd) (D : FnOk P w K mg base CX0 1 g gd ["saying"] (spInner K)) (bD : Binds K gd ["saying"] []) (kD : PySem.W.keepIn K (.ref g) = true) (mD : mg "inner_sayings" = some (.ref g))
    (bG : Binds K fd ["saying"] []) (mG : mg "depth_of" = some (.ref f)) (mx : mg "max" = none) : ∀ m : Nat, FnOk P w K mg base CX0 (m + 1) f fd ["saying"] (spDepth K m)
  | 0 => no_depth
  | m + 1 => ok_depth F D bD kD mD (all_depth F D bD kD mD bG mG mx m) bG mG mx
theorem all_ldeep {f g : Addr} {fd gd : FuncData} (F : Fun K "_law_deep" "_law_deep" sLDeep f fd) (D : FnOk P w K mg base CX0 1 g gd ["_law_s"] (spLInner K)) (bD : Binds K gd ["_law_s"] []) (kD : PySem.W.keepIn K (.ref g) = true) (mD : mg "_law_inner" = some (.ref g))
    (bG : Binds K fd ["_law_s"] []) (mG : mg "_law_deep" = some (.ref f)) (mx : mg "max" = none) : ∀ m : Nat, FnOk P w K mg base CX0 (m + 1) f fd ["_law_s"] (spDepth K m)
  | 0 => no_depth
  | m + 1 => ok_ldeep F D bD kD mD (all_ldeep F D bD kD mD bG mG mx m) bG mG mx
theorem all_lall {f g : Addr} {fd gd : FuncData} (F : Fun K "_law_all_parts" "_law_all_parts" sLAll f fd) (D : FnOk P w K mg base CX0 1 g gd ["_law_s"] (spLInner K)) (bD : Binds K gd ["_law_s"] []) (kD : PySem.W.keepIn K (.ref g) = true) (mD : mg "_law_inner" = some (.ref g))
    (bG : Binds K fd ["_law_s"] []) (mG : mg "_law_all_parts" = some (.ref f)) : ∀ m : Nat, FnOk P w K mg base CX0 (m + 1) f fd ["_law_s"] (spLAll K m)
  | 0 => no_lall
  | m + 1 => ok_lall F D bD kD mD (all_lall F D bD kD mD bG mG m) bG mG
end
/-- what is known of the law's def and of those that it calls -/
def LawAt (P : Program) (w : World) (K : PySem.W.Frag) (mg : Str → Option Value) (fa : Addr) : Prop := ∃ fd : FuncData, Fun K "law" "law" sLaw fa fd ∧ (∀ (s : Shared) (u : Value), BindsTo s fd ⟨[u], []⟩ [("_law_script", u)]) ∧
  ∀ base : Heap, ∃ (fF fS fA fO fD fP fL fH fE : Addr) (dF dS dA dO dD dP dL dH dE : FuncData), Kit P w K mg base fF fS fA fO fD fP fL fH fE dF dS dA dO dD dP dL dH dE
theorem all_mk {l : PySem.W.OpenLaw} {w : World} {K : PySem.W.Frag} {h : Heap} {mg : Str → Option Value} {fa : Addr} (X : K.In h) (G : h.Ns mainGlobals mg) (hfa : mg "law" = some (.ref fa))
    {f1 f2 f3 f4 f5 f6 f7 f8 f9 f10 f11 f12 f13 f14 f15 : Addr} {od1 an1 od2 an2 od3 an3 od4 an4 od5 an5 od6 an6 od7 an7 od8 an8 od9 an9 od10 an10 od11 an11 od12 an12 od13 an13 od14 an14 od15 an15 : Option Addr} {sl1 sl2 sl3 sl4 sl5 sl6 sl7 sl8 sl9 sl10 sl11 sl12 sl13 sl14 sl15 : Array (Option Value)} {oc1 kV1 dc1 pm1 cd1 ct1 oc2 kV2 dc2 pm2 cd2 ct2 oc3 kV3 dc3 pm3 cd3 ct3 oc4 kV4 dc4 pm4 cd4 ct4 oc5 kV5 dc5 pm5 cd5 ct5 oc6 kV6 dc6 pm6 cd6 ct6 oc7 kV7 dc7 pm7 cd7 ct7 oc8 kV8 dc8 pm8 cd8 ct8 oc9 kV9 dc9 pm9 cd9 ct9 oc10 kV10 dc10 pm10 cd10 ct10 oc11 kV11 dc11 pm11 cd11 ct11 oc12 kV12 dc12 pm12 cd12 ct12 oc13 kV13 dc13 pm13 cd13 ct13 oc14 kV14 dc14 pm14 cd14 ct14 oc15 kV15 dc15 pm15 cd15 ct15 : Value}
    (a1 : PySem.W.nsIn K mainGlobals "parts_of_saying" = some (some (.ref f1))) (l1 : K.lookup f1 = some ⟨oc1, od1, .func (PySem.W.fnOf "parts_of_saying" "parts_of_saying" (defArgs sParts) (defBody sParts) (defScope sParts) .none kV1 dc1 pm1 an1 cd1 ct1), sl1⟩) (c1 : PySem.W.codeIn K cd1 "parts_of_saying" = true) (k1 : PySem.W.keepIn K (.ref f1) = true)
    (a2 : PySem.W.nsIn K mainGlobals "letters_of" = some (some (.ref f2))) (l2 : K.lookup f2 = some ⟨oc2, od2, .func (PySem.W.fnOf "letters_of" "letters_of" (defArgs sLetters) (defBody sLetters) (defScope sLetters) .none kV2 dc2 pm2 an2 cd2 ct2), sl2⟩) (c2 : PySem.W.codeIn K cd2 "letters_of" = true) (k2 : PySem.W.keepIn K (.ref f2) = true)
    (a3 : PySem.W.nsIn K mainGlobals "hands_of" = some (some (.ref f3))) (l3 : K.lookup f3 = some ⟨oc3, od3, .func (PySem.W.fnOf "hands_of" "hands_of" (defArgs sHands) (defBody sHands) (defScope sHands) .none kV3 dc3 pm3 an3 cd3 ct3), sl3⟩) (c3 : PySem.W.codeIn K cd3 "hands_of" = true) (k3 : PySem.W.keepIn K (.ref f3) = true)
    (a4 : PySem.W.nsIn K mainGlobals "depth_of" = some (some (.ref f4))) (l4 : K.lookup f4 = some ⟨oc4, od4, .func (PySem.W.fnOf "depth_of" "depth_of" (defArgs sDepth) (defBody sDepth) (defScope sDepth) .none kV4 dc4 pm4 an4 cd4 ct4), sl4⟩) (c4 : PySem.W.codeIn K cd4 "depth_of" = true) (k4 : PySem.W.keepIn K (.ref f4) = true)
    (a5 : PySem.W.nsIn K mainGlobals "inner_sayings" = some (some (.ref f5))) (l5 : K.lookup f5 = some ⟨oc5, od5, .func (PySem.W.fnOf "inner_sayings" "inner_sayings" (defArgs sInner) (defBody sInner) (defScope sInner) .none kV5 dc5 pm5 an5 cd5 ct5), sl5⟩) (c5 : PySem.W.codeIn K cd5 "inner_sayings" = true) (k5 : PySem.W.keepIn K (.ref f5) = true)
    (a6 : PySem.W.nsIn K mainGlobals "every_part" = some (some (.ref f6))) (l6 : K.lookup f6 = some ⟨oc6, od6, .func (PySem.W.fnOf "every_part" "every_part" (defArgs sEvery) (defBody sEvery) (defScope sEvery) .none kV6 dc6 pm6 an6 cd6 ct6), sl6⟩) (c6 : PySem.W.codeIn K cd6 "every_part" = true) (k6 : PySem.W.keepIn K (.ref f6) = true)
    (a7 : PySem.W.nsIn K mainGlobals "rising" = some (some (.ref f7))) (l7 : K.lookup f7 = some ⟨oc7, od7, .func (PySem.W.fnOf "rising" "rising" (defArgs sRising) (defBody sRising) (defScope sRising) .none kV7 dc7 pm7 an7 cd7 ct7), sl7⟩) (c7 : PySem.W.codeIn K cd7 "rising" = true) (k7 : PySem.W.keepIn K (.ref f7) = true)
    (a8 : PySem.W.nsIn K mainGlobals "_law_feed" = some (some (.ref f8))) (l8 : K.lookup f8 = some ⟨oc8, od8, .func (PySem.W.fnOf "_law_feed" "_law_feed" (defArgs sFeed) (defBody sFeed) (defScope sFeed) .none kV8 dc8 pm8 an8 cd8 ct8), sl8⟩) (c8 : PySem.W.codeIn K cd8 "_law_feed" = true) (k8 : PySem.W.keepIn K (.ref f8) = true)
    (a9 : PySem.W.nsIn K mainGlobals "_law_draw" = some (some (.ref f9))) (l9 : K.lookup f9 = some ⟨oc9, od9, .func (PySem.W.fnOf "_law_draw" "_law_draw" (defArgs sDraw) (defBody sDraw) (defScope sDraw) .none kV9 dc9 pm9 an9 cd9 ct9), sl9⟩) (c9 : PySem.W.codeIn K cd9 "_law_draw" = true) (k9 : PySem.W.keepIn K (.ref f9) = true)
    (a10 : PySem.W.nsIn K mainGlobals "_law_saying" = some (some (.ref f10))) (l10 : K.lookup f10 = some ⟨oc10, od10, .func (PySem.W.fnOf "_law_saying" "_law_saying" (defArgs sSaying) (defBody sSaying) (defScope sSaying) .none kV10 dc10 pm10 an10 cd10 ct10), sl10⟩) (c10 : PySem.W.codeIn K cd10 "_law_saying" = true) (k10 : PySem.W.keepIn K (.ref f10) = true)
    (a11 : PySem.W.nsIn K mainGlobals "_law_inner" = some (some (.ref f11))) (l11 : K.lookup f11 = some ⟨oc11, od11, .func (PySem.W.fnOf "_law_inner" "_law_inner" (defArgs sLInner) (defBody sLInner) (defScope sLInner) .none kV11 dc11 pm11 an11 cd11 ct11), sl11⟩) (c11 : PySem.W.codeIn K cd11 "_law_inner" = true) (k11 : PySem.W.keepIn K (.ref f11) = true)
    (a12 : PySem.W.nsIn K mainGlobals "_law_all_parts" = some (some (.ref f12))) (l12 : K.lookup f12 = some ⟨oc12, od12, .func (PySem.W.fnOf "_law_all_parts" "_law_all_parts" (defArgs sLAll) (defBody sLAll) (defScope sLAll) .none kV12 dc12 pm12 an12 cd12 ct12), sl12⟩) (c12 : PySem.W.codeIn K cd12 "_law_all_parts" = true) (k12 : PySem.W.keepIn K (.ref f12) = true)
    (a13 : PySem.W.nsIn K mainGlobals "_law_deep" = some (some (.ref f13))) (l13 : K.lookup f13 = some ⟨oc13, od13, .func (PySem.W.fnOf "_law_deep" "_law_deep" (defArgs sLDeep) (defBody sLDeep) (defScope sLDeep) .none kV13 dc13 pm13 an13 cd13 ct13), sl13⟩) (c13 : PySem.W.codeIn K cd13 "_law_deep" = true) (k13 : PySem.W.keepIn K (.ref f13) = true)
    (a14 : PySem.W.nsIn K mainGlobals "_law_once" = some (some (.ref f14))) (l14 : K.lookup f14 = some ⟨oc14, od14, .func (PySem.W.fnOf "_law_once" "_law_once" (defArgs sLOnce) (defBody sLOnce) (defScope sLOnce) .none kV14 dc14 pm14 an14 cd14 ct14), sl14⟩) (c14 : PySem.W.codeIn K cd14 "_law_once" = true) (k14 : PySem.W.keepIn K (.ref f14) = true)
    (a15 : PySem.W.nsIn K mainGlobals "law" = some (some (.ref f15))) (l15 : K.lookup f15 = some ⟨oc15, od15, .func (PySem.W.fnOf "law" "law" (defArgs sLaw) (defBody sLaw) (defScope sLaw) .none kV15 dc15 pm15 an15 cd15 ct15), sl15⟩) (c15 : PySem.W.codeIn K cd15 "law" = true) (k15 : PySem.W.keepIn K (.ref f15) = true)
    (z1 : PySem.W.nsIn K mainGlobals "range" = some none) (z2 : PySem.W.nsIn K mainGlobals "repr" = some none) (z3 : PySem.W.nsIn K mainGlobals "tuple" = some none) (z4 : PySem.W.nsIn K mainGlobals "sorted" = some none) (z5 : PySem.W.nsIn K mainGlobals "set" = some none) (z6 : PySem.W.nsIn K mainGlobals "max" = some none) (z7 : PySem.W.nsIn K mainGlobals "len" = some none) (z8 : PySem.W.nsIn K mainGlobals "list" = some none) : LawAt l.prog w K mg fa := by
  have e := hfa.symm.trans (PySem.W.mg_of X G a15)
  cases e
  have F1 := fun_mk (st := sParts) l1 c1 k1
  have b1 := F1.binds (ps := ["saying"]) fun _ _ _ _ _ _ us hl => match us, hl with | [_], _ => rfl
  have m1 := PySem.W.mg_of X G a1
  have F2 := fun_mk (st := sLetters) l2 c2 k2
  have b2 := F2.binds (ps := ["saying"]) fun _ _ _ _ _ _ us hl => match us, hl with | [_], _ => rfl
  have m2 := PySem.W.mg_of X G a2
  have F3 := fun_mk (st := sHands) l3 c3 k3
  have b3 := F3.binds (ps := ["saying"]) fun _ _ _ _ _ _ us hl => match us, hl with | [_], _ => rfl
  have m3 := PySem.W.mg_of X G a3
  have F4 := fun_mk (st := sDepth) l4 c4 k4
  have b4 := F4.binds (ps := ["saying"]) fun _ _ _ _ _ _ us hl => match us, hl with | [_], _ => rfl
  have m4 := PySem.W.mg_of X G a4
  have F5 := fun_mk (st := sInner) l5 c5 k5
  have b5 := F5.binds (ps := ["saying"]) fun _ _ _ _ _ _ us hl => match us, hl with | [_], _ => rfl
  have m5 := PySem.W.mg_of X G a5
  have F6 := fun_mk (st := sEvery) l6 c6 k6
  have b6 := F6.binds (ps := ["saying"]) fun _ _ _ _ _ _ us hl => match us, hl with | [_], _ => rfl
  have m6 := PySem.W.mg_of X G a6
  have F7 := fun_mk (st := sRising) l7 c7 k7
  have b7 := F7.binds (ps := ["sayings"]) fun _ _ _ _ _ _ us hl => match us, hl with | [_], _ => rfl
  have m7 := PySem.W.mg_of X G a7
  have F8 := fun_mk (st := sFeed) l8 c8 k8
  have b8 := F8.binds (ps := ["_law_script"]) fun _ _ _ _ _ _ us hl => match us, hl with | [_], _ => rfl
  have m8 := PySem.W.mg_of X G a8
  have F9 := fun_mk (st := sDraw) l9 c9 k9
  have b9 := F9.binds (ps := ["_law_feed_here", "_law_many"]) fun _ _ _ _ _ _ us hl => match us, hl with | [_, _], _ => rfl
  have m9 := PySem.W.mg_of X G a9
  have F10 := fun_mk (st := sSaying) l10 c10 k10
  have b10 := F10.binds (ps := ["_law_feed_here", "_law_left", "_law_told"]) fun _ _ _ _ _ _ us hl => match us, hl with | [_, _, _], _ => rfl
  have m10 := PySem.W.mg_of X G a10
  have F11 := fun_mk (st := sLInner) l11 c11 k11
  have b11 := F11.binds (ps := ["_law_s"]) fun _ _ _ _ _ _ us hl => match us, hl with | [_], _ => rfl
  have m11 := PySem.W.mg_of X G a11
  have F12 := fun_mk (st := sLAll) l12 c12 k12
  have b12 := F12.binds (ps := ["_law_s"]) fun _ _ _ _ _ _ us hl => match us, hl with | [_], _ => rfl
  have m12 := PySem.W.mg_of X G a12
  have F13 := fun_mk (st := sLDeep) l13 c13 k13
  have b13 := F13.binds (ps := ["_law_s"]) fun _ _ _ _ _ _ us hl => match us, hl with | [_], _ => rfl
  have m13 := PySem.W.mg_of X G a13
  have F14 := fun_mk (st := sLOnce) l14 c14 k14
  have b14 := F14.binds (ps := ["_law_some"]) fun _ _ _ _ _ _ us hl => match us, hl with | [_], _ => rfl
  have m14 := PySem.W.mg_of X G a14
  have F15 := fun_mk (st := sLaw) l15 c15 k15
  have n1 := PySem.W.mg_none_of X G z1
  have n2 := PySem.W.mg_none_of X G z2
  have n3 := PySem.W.mg_none_of X G z3
  have n4 := PySem.W.mg_none_of X G z4
  have n5 := PySem.W.mg_none_of X G z5
  have n6 := PySem.W.mg_none_of X G z6
  have n7 := PySem.W.mg_none_of X G z7
  have n8 := PySem.W.mg_none_of X G z8
  refine ⟨_, F15, fun s u => .of_eq rfl, fun base => ?_⟩
  have D : FnOk l.prog w K mg base CX0 (0 + 1) f9 _ _ _ := ok_draw F9 n7
  have I : FnOk l.prog w K mg base CX0 (0 + 1) f5 _ _ _ := ok_inner F5
  have LI : FnOk l.prog w K mg base CX0 (0 + 1) f11 _ _ _ := ok_linner F11 n8
  have Ev : FnOk l.prog w K mg base CX0 (1 + 1) f6 _ _ _ := ok_every (k := 1) F6 I b5 k5 m5
  have Ri : FnOk l.prog w K mg base CX0 (1 + 1) f7 _ _ _ := ok_rising (k := 1) F7 n4 n3
  exact ⟨f8, f10, f12, f14, f13, f1, f2, f3, f4, _, _, _, _, _, _, _, _, _, { F := ok_feed (k := 0) F8, S := all_saying F10 D b9 k9 m9 b10 m10 n1 n3 10, A := (all_lall F12 LI b11 k11 m11 b12 m12 28).mono (by decide), O := ok_lonce (k := 0) F14 n4, D := (all_ldeep F13 LI b11 k11 m11 b13 m13 n6 28).mono (by decide), Pp := ok_parts (k := 2) F1 Ev b6 k6 m6 Ri b7 k7 m7, L := ok_letters (k := 2) F2 Ev b6 k6 m6 n4 n3, Hh := ok_hands (k := 2) F3 Ev b6 k6 m6 n4 n3, Ee := (all_depth F4 I b5 k5 m5 b4 m4 n6 28).mono (by decide), bF := b8, bS := b10, bA := b12, bO := b14, bD := b13, bP := b1, bL := b2, bH := b3, bE := b4, kF := k8, kS := k10, kA := k12, kO := k14, kD := k13, kP := k1, kL := k2, kH := k3, kE := k4, mF := m8, mS := m10, mA := m12, mO := m14, mD := m13, mP := m1, mL := m2, mH := m3, mE := m4, mr := n1, mp := n2, mt := n3, ms := n4, me := n5 }⟩
theorem walk {l : PySem.W.OpenLaw} {q : Program} {loose : List Str} {XP : (Str → Option Value) → Heap → Prop} {YP : World → Heap → Prop} {d : DefRec} {K : Params → PySem.W.Frag} (hn : l.most = some 63) (hdf : d.params.defaults = [])
    (hY : ∀ (w : World) (h : Heap), YP w h → (K w.params).In h)
    (F : ∀ (w : World) (mg : Str → Option Value) (fa : Addr) (h : Heap), (K w.params).In h → h.Ns mainGlobals mg → mg d.name = some (.ref fa) → LawAt l.prog w (K w.params) mg fa) :
    PySem.W.WalkO q loose XP YP l.row.toRowW d [] (fun f vs => PySem.call f vs) := by
  refine Att.attach_call hn hdf fun w s₀ s₁ mg mb fa o pm cd doc a vs ns G Y ho hd hcd hmg hobj hints hlen hg => ?_
  have KX := hY w _ Y
  obtain ⟨fd, FL, hb, kits⟩ := F w mg fa _ KX G.T.g hmg
  refine call_here KX G.T.g G.T.b G.T.builtins G.T.nolimit hg hobj hints (Nat.le_trans hlen (by decide)) fun base H kb nb e0 hS => ?_
  obtain ⟨fF, fS, fA, fO, fD, fP, fL, fH, fE, dF, dS, dA, dO, dD, dP, dL, dH, dE, kit⟩ := kits base
  exact fn_here (k := 30) (us := [.ref a]) (vs := [.ref a]) (ps := ["_law_script"]) FL scLaw rfl ⟨rfl, by decide, by decide⟩ e0 (hb s₁ (.ref a)) (.cons rfl .nil) fun cdv hr => law_body (outer := []) (Q := fun v _ => v = .bl true) (E := fun _ _ _ => False) kit rfl hr ⟨a, ns, rfl, hS, hlen, fun _ => rfl⟩
end Ms02

open PySem PySem.W PyProof.Rows
set_option maxRecDepth 100000 in
set_option maxHeartbeats 0 in
theorem PySem.Challenge.cw_mustmays_k02_parts_told_holds : PySem.Challenge.rw_mustmays_k02_parts_told.Holds := by
  w_on; o_law; k_head; (case hw => w_witness2)
  k_fill
  refine Ms02.walk (l := PySem.Challenge.rw_mustmays_k02_parts_told) rfl rfl (fun w h Y => PySem.W.kIn_of Y) ?F
  case F =>
    intro w mg fa h KX G hmg
    refine' Ms02.all_mk KX G hmg ?a1 ?l1 ?c1 ?k1 ?a2 ?l2 ?c2 ?k2 ?a3 ?l3 ?c3 ?k3 ?a4 ?l4 ?c4 ?k4 ?a5 ?l5 ?c5 ?k5 ?a6 ?l6 ?c6 ?k6 ?a7 ?l7 ?c7 ?k7 ?a8 ?l8 ?c8 ?k8 ?a9 ?l9 ?c9 ?k9 ?a10 ?l10 ?c10 ?k10 ?a11 ?l11 ?c11 ?k11 ?a12 ?l12 ?c12 ?k12 ?a13 ?l13 ?c13 ?k13 ?a14 ?l14 ?c14 ?k14 ?a15 ?l15 ?c15 ?k15 ?z1 ?z2 ?z3 ?z4 ?z5 ?z6 ?z7 ?z8
    (case a1 => k_is); (case l1 => k_is); (case c1 => k_is); (case k1 => k_is)
    (case a2 => k_is); (case l2 => k_is); (case c2 => k_is); (case k2 => k_is)
    (case a3 => k_is); (case l3 => k_is); (case c3 => k_is); (case k3 => k_is)
    (case a4 => k_is); (case l4 => k_is); (case c4 => k_is); (case k4 => k_is)
    (case a5 => k_is); (case l5 => k_is); (case c5 => k_is); (case k5 => k_is)
    (case a6 => k_is); (case l6 => k_is); (case c6 => k_is); (case k6 => k_is)
    (case a7 => k_is); (case l7 => k_is); (case c7 => k_is); (case k7 => k_is)
    (case a8 => k_is); (case l8 => k_is); (case c8 => k_is); (case k8 => k_is)
    (case a9 => k_is); (case l9 => k_is); (case c9 => k_is); (case k9 => k_is)
    (case a10 => k_is); (case l10 => k_is); (case c10 => k_is); (case k10 => k_is)
    (case a11 => k_is); (case l11 => k_is); (case c11 => k_is); (case k11 => k_is)
    (case a12 => k_is); (case l12 => k_is); (case c12 => k_is); (case k12 => k_is)
    (case a13 => k_is); (case l13 => k_is); (case c13 => k_is); (case k13 => k_is)
    (case a14 => k_is); (case l14 => k_is); (case c14 => k_is); (case k14 => k_is)
    (case a15 => k_is); (case l15 => k_is); (case c15 => k_is); (case k15 => k_is)
    (case z1 => k_is)
    (case z2 => k_is)
    (case z3 => k_is)
    (case z4 => k_is)
    (case z5 => k_is)
    (case z6 => k_is)
    (case z7 => k_is)
    (case z8 => k_is)
