import PyProof.Rows.All
import Wide.All
import OpenK.AllK
import Wide.FinOn
import HandS.ForMost
import HandS.Exc
import HandS.ExcOwn
import HandS.WordsExc
import HandS.Wide
import HandS.WideBits
import HandS.Flow
import HandS.Deep
import HandS.TupAny
import HandS.IsInst
import PyProof.Rows.InDataRows
import KE.SortData
import KE.KDictPairs
import PyProof.ReprRoads
import PyProof.CallFns
import HandS.TupMul
import HandS.SetTxtIn
import HandS.TupLe
import HandS.SortRule
import KE.DatumOrd
import PyProof.AutoSeq1
import HandS.Small
import HandS.More
import HandS.Codes
import HandS.CallSlots
import HandS.Star
import HandS.Style
import HandS.Text
import HandS.Strs
import HandS.SetTxt0
import HandS.Set
import HandS.SetBool
import HandS.Zip
import HandS.MapObj
import KE.KDictZip
import KE.BitLaws
import HandS.DictComp
import KE.GoesMore
import KE.GoesEnum
import HandS.Conv
import HandS.ExcInit
import HandS.TryOnly
import HandS.TryMany
import HandS.ExcField
import HandS.ExcIs
import PySem.Challenge.RW_mustmays_k09_whole_any_parting_row
set_option Elab.async false
set_option linter.all false
set_option maxRecDepth 100000
set_option autoImplicit false
/-! a small mirror of the language: plain data by value, what is written by places -/
namespace Mok09
open PySem PySem.Spec PyProof.Rows L2
/-- a value of the mirror: plain data, the place of a thing that may be written -/
inductive W where
  | d (x : PyData)
  | r (n : Nat)
  /-- the script: read alone -/
  | s (ns : List Int)
/-- what a field may hold: plain data, a list, a dict of the instance's own -/
inductive FV where
  | d (x : PyData)
  | l (xs : List PyData)
  | k (kvs : List (PyData × PyData))
/-- a thing that may be written -/
inductive MO where
  /-- let go: nothing is known of it any more -/
  | dead
  | l (xs : List PyData)
  | k (kvs : List (PyData × PyData))
  /-- an instance: the name of its class, its fields -/
  | o (x : Str) (fs : List (Str × PyData))
  /-- an instance whose fields may hold lists, dicts of its own -/
  | q (x : Str) (gs : List (Str × FV))
abbrev Mem := List MO
/-- an exception: its class, its fields -/
structure Xc where
  cls : Str
  fs : List (Str × PyData)
inductive Res (α : Type) where
  | ok (a : α) (μ : Mem)
  | exc (x : Xc) (μ : Mem)
  | bad
def bnd {α β : Type} (r : Res α) (f : α → Mem → Res β) : Res β := match r with
  | .ok a μ => f a μ
  | .exc x μ => .exc x μ
  | .bad => .bad
@[simp] theorem bnd_ok {α β : Type} {a : α} {μ : Mem} {f : α → Mem → Res β} : bnd (.ok a μ) f = f a μ := rfl
@[simp] theorem bnd_exc {α β : Type} {x : Xc} {μ : Mem} {f : α → Mem → Res β} : bnd (.exc x μ) f = .exc x μ := rfl
@[simp] theorem bnd_bad {α β : Type} {f : α → Mem → Res β} : bnd .bad f = .bad := rfl
abbrev Env := List (Option W)
abbrev DE := Env → Mem → Res W
abbrev DT := Env → Mem → Res Bool
abbrev DA := Env → Mem → Res (List W)
inductive SR where
  | nx (ρ : Env) (μ : Mem)
  | rt (w : W) (μ : Mem)
  | bk (ρ : Env) (μ : Mem)
  | ct (ρ : Env) (μ : Mem)
  | exc (x : Xc) (ρ : Env) (μ : Mem)
  | bad
abbrev DS := Env → Mem → SR
/-! ### what stands where -/
/-- the addresses of a thing that may be written, its own first; none: let go -/
abbrev Fp := Option (List Addr)
def fps (m : List Fp) : List Addr := (m.filterMap id).flatten
/-- where our things are: those that have a place, and those that are being made (nobody sees them) -/
structure Ms where
  v : List Fp
  h : List Addr
abbrev VL (m : Ms) : Addr → Prop := fun a => a ∈ fps m.v
abbrev Live (m : Ms) : Addr → Prop := fun a => a ∈ fps m.v ∨ a ∈ m.h
def Ms.add (m : Ms) (p : Addr) : Ms := { m with v := m.v ++ [some [p]] }
def Ms.del (m : Ms) (n : Nat) : Ms := { m with v := m.v.set n none }
def Ms.cut (m : Ms) (n : Nat) : Ms := { m with v := m.v.take n }
def Ms.hide (m : Ms) (p : Addr) : Ms := { m with h := p :: m.h }
theorem fps_iff {m : List Fp} {a : Addr} : a ∈ fps m ↔ ∃ l, some l ∈ m ∧ a ∈ l := by
  unfold fps
  simp only [List.mem_flatten, List.mem_filterMap, id_eq, exists_eq_right]
theorem fps_append (m t : List Fp) : fps (m ++ t) = fps m ++ fps t := by simp [fps]
theorem fps_one (l : List Addr) : fps [some l] = l := by simp [fps]
def Chg : HO → Prop
  | .lst _ => True
  | .dK _ => True
  | .dT _ => True
  | .set _ _ => True
  | .ins _ _ _ => True
  | .ext _ => True
  | _ => False
/-- how things go on, as data sees it -/
structure Keeps (L : Addr → Prop) (H : Hp) (L' : Addr → Prop) (H' : Hp) : Prop where
  keep : ∀ b o, H b = some o → (L b → ¬ Chg o) → H' b = some o
  new : ∀ b, L' b → ¬ L b → H b = none
structure Ext (m : Ms) (H : Hp) (m' : Ms) (H' : Hp) : Prop where
  pre : ∀ n : Nat, ∀ l, m.v[n]? = some (some l) → m'.v[n]? = some none ∨ ∃ l', m'.v[n]? = some (some l') ∧ l'.head? = l.head?
  pre0 : ∀ n : Nat, m.v[n]? = some none → m'.v[n]? = some none
  hid : m'.h = m.h
  keep : ∀ b o, H b = some o → (VL m b → ¬ Chg o) → H' b = some o
  new : ∀ b, VL m' b → ¬ VL m b → H b = none
/-- the same, but that what nobody sees may turn -/
structure Exw (m : Ms) (H : Hp) (m' : Ms) (H' : Hp) : Prop where
  pre : ∀ n : Nat, ∀ l, m.v[n]? = some (some l) → m'.v[n]? = some none ∨ ∃ l', m'.v[n]? = some (some l') ∧ l'.head? = l.head?
  pre0 : ∀ n : Nat, m.v[n]? = some none → m'.v[n]? = some none
  ks : Keeps (Live m) H (Live m') H'
theorem Ext.ks {m m' : Ms} {H H' : Hp} (e : Ext m H m' H') : Keeps (Live m) H (Live m') H' :=
  ⟨fun b o h n => e.keep b o h fun q => n (.inl q), fun b h n => by
    rcases h with h | h
    · exact e.new b h fun q => n (.inl q)
    · rw [e.hid] at h
      exact (n (.inr h)).elim⟩
theorem Keeps.refl (L : Addr → Prop) (H : Hp) : Keeps L H L H := ⟨fun _ _ h _ => h, fun _ h n => (n h).elim⟩
theorem Ext.refl (m : Ms) (H : Hp) : Ext m H m H := ⟨fun n l h => .inr ⟨l, h, rfl⟩, fun _ h => h, rfl, fun _ _ h _ => h, fun _ h n => (n h).elim⟩
theorem Keeps.notlive {L L' : Addr → Prop} {H H' : Hp} (e : Keeps L H L' H') {b : Addr} {o : HO} (h : H b = some o) (n : ¬ L b) : ¬ L' b := fun q => by
  have := e.new b q n
  rw [h] at this
  cases this
theorem Ext.w {m m' : Ms} {H H' : Hp} (e : Ext m H m' H') : Exw m H m' H' := ⟨e.pre, e.pre0, e.ks⟩
theorem Keeps.trans {L L1 L2 : Addr → Prop} {H H1 H2 : Hp} (a : Keeps L H L1 H1) (b : Keeps L1 H1 L2 H2) : Keeps L H L2 H2 where
  keep := fun c o h n => b.keep c o (a.keep c o h n) fun q => by
    by_cases hc : L c
    · exact n hc
    · exact (a.notlive h hc q).elim
  new := fun c hc n => by
    by_cases h1 : L1 c
    · exact a.new c h1 n
    · have z := b.new c hc h1
      cases q : H c with
      | none => rfl
      | some o =>
        rw [a.keep c o q fun k => (n k).elim] at z
        cases z
theorem Exw.refl (m : Ms) (H : Hp) : Exw m H m H := (Ext.refl m H).w
theorem Exw.trans {m m1 m2 : Ms} {H H1 H2 : Hp} (a : Exw m H m1 H1) (b : Exw m1 H1 m2 H2) : Exw m H m2 H2 where
  pre := fun n l h => by
    rcases a.pre n l h with h1 | ⟨l1, h1, e1⟩
    · exact .inl (b.pre0 n h1)
    · rcases b.pre n l1 h1 with h2 | ⟨l2, h2, e2⟩
      · exact .inl h2
      · exact .inr ⟨l2, h2, e2.trans e1⟩
  pre0 := fun n h => b.pre0 n (a.pre0 n h)
  ks := a.ks.trans b.ks
/-- a new thing that nobody sees -/
theorem Exw.hide {m : Ms} {H : Hp} {p : Addr} (hp : H p = none) (o : HO) : Exw m H (m.hide p) (upd H p o) :=
  ⟨fun n l h => .inr ⟨l, h, rfl⟩, fun _ h => h, fun b u h _ => by rw [upd_ne (ne_of_none h hp)]; exact h, fun b h n => by
    rcases h with h | h
    · exact (n (.inl h)).elim
    · rcases List.mem_cons.mp h with h | h
      · rw [h]
        exact hp
      · exact (n (.inr h)).elim⟩
/-- what nobody sees is written -/
theorem Exw.puth {m : Ms} {H : Hp} {p : Addr} {o u : HO} (hp : p ∈ m.h) (h : H p = some o) (c : Chg o) : Exw m H m (upd H p u) :=
  ⟨fun n l h => .inr ⟨l, h, rfl⟩, fun _ h => h, fun b v q n => by
    by_cases e : b = p
    · subst e
      rw [h] at q
      cases q
      exact (n (.inr hp) c).elim
    · rw [upd_ne e]
      exact q, fun _ h n => (n h).elim⟩
section
variable {m m' m1 m2 : Ms} {H H' H1 H2 : Hp}
theorem Ext.notvl (e : Ext m H m' H') {b : Addr} {o : HO} (h : H b = some o) (n : ¬ VL m b) : ¬ VL m' b := fun q => by
  have := e.new b q n
  rw [h] at this
  cases this
theorem Ext.trans (a : Ext m H m1 H1) (b : Ext m1 H1 m2 H2) : Ext m H m2 H2 where
  pre := fun n l h => by
    rcases a.pre n l h with h1 | ⟨l1, h1, e1⟩
    · exact .inl (b.pre0 n h1)
    · rcases b.pre n l1 h1 with h2 | ⟨l2, h2, e2⟩
      · exact .inl h2
      · exact .inr ⟨l2, h2, e2.trans e1⟩
  pre0 := fun n h => b.pre0 n (a.pre0 n h)
  hid := b.hid.trans a.hid
  keep := fun c o h n => b.keep c o (a.keep c o h n) fun q => by
    by_cases hc : VL m c
    · exact n hc
    · exact (a.notvl h hc q).elim
  new := fun c hc n => by
    by_cases h1 : VL m1 c
    · exact a.new c h1 n
    · have z := b.new c hc h1
      cases q : H c with
      | none => rfl
      | some o =>
        rw [a.keep c o q fun k => (n k).elim] at z
        cases z
/-- a new thing, by value -/
theorem Ext.laid {p : Addr} (hp : H p = none) (o : HO) : Ext m H m (upd H p o) :=
  ⟨fun n l h => .inr ⟨l, h, rfl⟩, fun _ h => h, rfl, fun b u h _ => by rw [upd_ne (ne_of_none h hp)]; exact h, fun _ h n => (n h).elim⟩
theorem mem_get {α : Type} {l : List α} {n : Nat} {x : α} (t : List α) (h : l[n]? = some x) : (l ++ t)[n]? = some x := by
  rw [List.getElem?_append_left]
  · exact h
  · exact (List.getElem?_eq_some_iff.mp h).1
/-- a new thing, by place -/
theorem Ext.made {p : Addr} (hp : H p = none) (o : HO) : Ext m H (m.add p) (upd H p o) :=
  ⟨fun n l h => .inr ⟨l, mem_get _ h, rfl⟩, fun n h => mem_get _ h, rfl, fun b u h _ => by rw [upd_ne (ne_of_none h hp)]; exact h, fun b h n => by
    unfold VL Ms.add at h
    rw [fps_append, List.mem_append] at h
    rcases h with h | h
    · exact (n h).elim
    · rw [fps_one, List.mem_singleton] at h
      rw [h]
      exact hp⟩
/-- a thing of ours is written -/
theorem Ext.put {p : Addr} {o u : HO} (hp : VL m p) (h : H p = some o) (c : Chg o) : Ext m H m (upd H p u) :=
  ⟨fun n l h => .inr ⟨l, h, rfl⟩, fun _ h => h, rfl, fun b v q n => by
    by_cases e : b = p
    · subst e
      rw [h] at q
      cases q
      exact (n hp c).elim
    · rw [upd_ne e]
      exact q, fun _ h n => (n h).elim⟩
theorem fps_set_mem {m : List Fp} {n : Nat} {a : Addr} (h : a ∈ fps (m.set n none)) : a ∈ fps m := by
  rw [fps_iff] at h ⊢
  obtain ⟨l, h, q⟩ := h
  rw [List.mem_iff_getElem?] at h
  obtain ⟨i, h⟩ := h
  rw [List.getElem?_set] at h
  split at h
  · split at h <;> cases h
  · exact ⟨l, List.mem_of_getElem? h, q⟩
/-- a thing is let go -/
theorem Ext.letgo (n : Nat) : Ext m H (m.del n) H where
  pre := fun j l h => by
    have hj := (List.getElem?_eq_some_iff.mp h).1
    unfold Ms.del
    by_cases e : n = j
    · subst e
      exact .inl (by rw [List.getElem?_set_self hj])
    · exact .inr ⟨l, by rw [List.getElem?_set_ne e]; exact h, rfl⟩
  pre0 := fun j h => by
    have hj := (List.getElem?_eq_some_iff.mp h).1
    unfold Ms.del
    by_cases e : n = j
    · subst e
      rw [List.getElem?_set_self hj]
    · rw [List.getElem?_set_ne e]
      exact h
  hid := rfl
  keep := fun _ _ h _ => h
  new := fun b h k => (k (fps_set_mem h)).elim
theorem fps_take_mem {m : List Fp} {n : Nat} {a : Addr} (h : a ∈ fps (m.take n)) : a ∈ fps m := by
  rw [fps_iff] at h ⊢
  obtain ⟨l, h, q⟩ := h
  exact ⟨l, List.mem_of_mem_take h, q⟩
/-- what was made is forgotten -/
theorem Ext.drop (e : Ext m H m' H') : Ext m H (m'.cut m.v.length) H' where
  pre := fun n l h => by
    have hn : n < m.v.length := (List.getElem?_eq_some_iff.mp h).1
    unfold Ms.cut
    rw [List.getElem?_take_of_lt hn]
    exact e.pre n l h
  pre0 := fun n h => by
    have hn : n < m.v.length := (List.getElem?_eq_some_iff.mp h).1
    unfold Ms.cut
    rw [List.getElem?_take_of_lt hn]
    exact e.pre0 n h
  hid := e.hid
  keep := e.keep
  new := fun b h n => e.new b (fps_take_mem h) n
end
/-! ### data -/
/-- a list by value: nobody writes it -/
def LsV (L : Addr → Prop) (H : Hp) (a : Addr) (xs : List V) : Prop := H a = some (.lst xs) ∧ ¬ L a
theorem LsV.sq {K : PySem.W.Frag} {L : Addr → Prop} {H : Hp} {a : Addr} {xs : List V} (h : LsV L H a xs) : SqL K H a xs := .inl (.inl h.1)
/-- a list that is read alone -/
def LsR (K : PySem.W.Frag) (H : Hp) (a : Addr) (xs : List V) : Prop := (∃ o, H a = some (.frz o (.lst xs))) ∨
    ∃ (o : Obj) (its : Array Value) (n : Nat), K.lookup a = some o ∧ o.cls = .type "list" ∧ o.dict = none ∧ o.data = .seq its n ∧ its.size ≤ sizeLine ∧ Vals xs its.toList
theorem LsR.sq {K : PySem.W.Frag} {H : Hp} {a : Addr} {xs : List V} (h : LsR K H a xs) : SqL K H a xs := h.elim (fun h => .inl (.inr h)) .inr
theorem rd_keeps {L L' : Addr → Prop} {H H' : Hp} {a : Addr} {u : HO} (e : Keeps L H L' H') (h : Rd H a u) (n : L a → ¬ Chg u) : Rd H' a u := by
  rcases h with h | ⟨o, h⟩
  · exact .inl (e.keep a _ h n)
  · exact .inr ⟨o, e.keep a _ h fun _ z => z⟩
theorem rd_notlive {L L' : Addr → Prop} {H H' : Hp} {a : Addr} {u : HO} (e : Keeps L H L' H') (h : Rd H a u) (n : ¬ L a) : ¬ L' a := by
  rcases h with h | ⟨o, h⟩
  · exact e.notlive h n
  · exact e.notlive h n
theorem LsV.stay {L L' : Addr → Prop} {H H' : Hp} {a : Addr} {xs : List V} (e : Keeps L H L' H') (h : LsV L H a xs) : LsV L' H' a xs := ⟨e.keep _ _ h.1 fun z => (h.2 z).elim, e.notlive h.1 h.2⟩
theorem LsR.stay {K : PySem.W.Frag} {L L' : Addr → Prop} {H H' : Hp} {a : Addr} {xs : List V} (e : Keeps L H L' H') (h : LsR K H a xs) : LsR K H' a xs := by
  rcases h with ⟨o, h⟩ | h
  · exact .inl ⟨o, e.keep a _ h fun _ z => z⟩
  · exact .inr h
theorem sqT_stay {K : PySem.W.Frag} {L L' : Addr → Prop} {H H' : Hp} {a : Addr} {xs : List V} (e : Keeps L H L' H') (h : SqT K H a xs) : SqT K H' a xs := h.elim (fun h => .inl (rd_keeps e h fun _ z => z)) .inr
/-- a tuple whose object is known -/
def TpR (K : PySem.W.Frag) (H : Hp) (a : Addr) (xs : List V) : Prop := (∃ o : Obj, H a = some (.frz o (.tup xs)) ∧ o.dict = none) ∨
    ∃ (o : Obj) (its : Array Value) (n : Nat), K.lookup a = some o ∧ o.cls = .type "tuple" ∧ o.dict = none ∧ o.data = .seq its n ∧ its.size ≤ sizeLine ∧ Vals xs its.toList
theorem TpR.sq {K : PySem.W.Frag} {H : Hp} {a : Addr} {xs : List V} (h : TpR K H a xs) : SqT K H a xs := by
  rcases h with ⟨o, h, _⟩ | ⟨o, its, n, h1, h2, _, h3⟩
  · exact .inl (.inr ⟨o, h⟩)
  · exact .inr ⟨o, its, n, h1, h2, h3⟩
theorem TpR.stay {K : PySem.W.Frag} {L L' : Addr → Prop} {H H' : Hp} {a : Addr} {xs : List V} (e : Keeps L H L' H') (h : TpR K H a xs) : TpR K H' a xs := by
  rcases h with ⟨o, h, n⟩ | h
  · exact .inl ⟨o, e.keep a _ h fun _ z => z, n⟩
  · exact .inr h
theorem TpR.new {K : PySem.W.Frag} {H : Hp} {p : Addr} {xs : List V} {o : Obj} (n : o.dict = none) : TpR K (upd H p (.frz o (.tup xs))) p xs := .inl ⟨o, upd_same, n⟩
def keyD : PyData → Option Key
  | .int i => some (.inl i)
  | .str x => some (.inr x)
  | _ => none
mutual
inductive Dv (K : PySem.W.Frag) (L : Addr → Prop) (H : Hp) : V → PyData → Prop
  | non : Dv K L H .non .none
  | bl (b : Bool) : Dv K L H (.bl b) (.bool b)
  | int (i : Int) : Dv K L H (.int i) (.int i)
  | str (x : Str) : Dv K L H (.str x) (.str x)
  | lst {a : Addr} {xs : List V} {ds : List PyData} : LsV L H a xs → DvAll K L H xs ds → Dv K L H (.ref a) (.list ds)
  | tup {a : Addr} {xs : List V} {ds : List PyData} : TpR K H a xs → DvAll K L H xs ds → Dv K L H (.ref a) (.tuple ds)
  | dK {a : Addr} {us : List (Key × V)} {kvs : List (PyData × PyData)} : Rd H a (.dK us) → ¬ L a → DvK K L H us kvs → Dv K L H (.ref a) (.dict kvs)
inductive DvAll (K : PySem.W.Frag) (L : Addr → Prop) (H : Hp) : List V → List PyData → Prop
  | nil : DvAll K L H [] []
  | cons {v : V} {vs : List V} {d : PyData} {ds : List PyData} : Dv K L H v d → DvAll K L H vs ds → DvAll K L H (v :: vs) (d :: ds)
inductive DvK (K : PySem.W.Frag) (L : Addr → Prop) (H : Hp) : List (Key × V) → List (PyData × PyData) → Prop
  | nil : DvK K L H [] []
  | cons {k : Key} {v : V} {us : List (Key × V)} {x y : PyData} {kvs : List (PyData × PyData)} : keyD x = some k → Dv K L H v y → DvK K L H us kvs → DvK K L H ((k, v) :: us) ((x, y) :: kvs)
end
mutual
theorem Dv.dp {K : PySem.W.Frag} {L : Addr → Prop} {H : Hp} {v : V} {d : PyData} (h : Dv K L H v d) (nd : PyData.canLay0 d = true) : Dp K H v d := by
  cases h with
  | non => exact .non
  | bl b => exact .bl b
  | int i => exact .int i
  | str x => exact .str x
  | lst hs ha => exact .lst hs.sq (DvAll.dp ha (by simpa [PyData.canLay0] using nd))
  | tup hs ha => exact .tup hs.sq (DvAll.dp ha (by simpa [PyData.canLay0] using nd))
  | dK _ _ _ => simp [PyData.canLay0] at nd
theorem DvAll.dp {K : PySem.W.Frag} {L : Addr → Prop} {H : Hp} {vs : List V} {ds : List PyData} (h : DvAll K L H vs ds) (nd : PyData.canLayAll0 ds = true) : DpAll K H vs ds := by
  cases h with
  | nil => exact .nil
  | cons h1 h2 =>
    simp [PyData.canLayAll0] at nd
    exact .cons (Dv.dp h1 nd.1) (DvAll.dp h2 nd.2)
end
mutual
theorem Dv.stay' {K : PySem.W.Frag} {L L' : Addr → Prop} {H H' : Hp} (e : Keeps L H L' H') {v : V} {d : PyData} (h : Dv K L H v d) : Dv K L' H' v d := by
  cases h with
  | non => exact .non
  | bl b => exact .bl b
  | int i => exact .int i
  | str x => exact .str x
  | lst hs ha => exact .lst (hs.stay e) (DvAll.stay' e ha)
  | tup hs ha => exact .tup (hs.stay e) (DvAll.stay' e ha)
  | dK r n hk => exact .dK (rd_keeps e r fun z => (n z).elim) (rd_notlive e r n) (DvK.stay' e hk)
theorem DvAll.stay' {K : PySem.W.Frag} {L L' : Addr → Prop} {H H' : Hp} (e : Keeps L H L' H') {vs : List V} {ds : List PyData} (h : DvAll K L H vs ds) : DvAll K L' H' vs ds := by
  cases h with
  | nil => exact .nil
  | cons h1 h2 => exact .cons (Dv.stay' e h1) (DvAll.stay' e h2)
theorem DvK.stay' {K : PySem.W.Frag} {L L' : Addr → Prop} {H H' : Hp} (e : Keeps L H L' H') {us : List (Key × V)} {ds : List (PyData × PyData)} (h : DvK K L H us ds) : DvK K L' H' us ds := by
  cases h with
  | nil => exact .nil
  | cons h0 h1 h2 => exact .cons h0 (Dv.stay' e h1) (DvK.stay' e h2)
end
mutual
/-- what is live is less -/
theorem Dv.less' {K : PySem.W.Frag} {L L' : Addr → Prop} {H : Hp} (e : ∀ b, L' b → L b) {v : V} {d : PyData} (h : Dv K L H v d) : Dv K L' H v d := Dv.stay' ⟨fun _ _ h _ => h, fun b h n => (n (e b h)).elim⟩ h
end
section
variable {K : PySem.W.Frag} {L L' : Addr → Prop} {H H' : Hp}
theorem Dv.stay {d : PyData} {v : V} (h : Dv K L H v d) (e : Keeps L H L' H') : Dv K L' H' v d := Dv.stay' e h
theorem DvAll.stay {ds : List PyData} {vs : List V} (h : DvAll K L H vs ds) (e : Keeps L H L' H') : DvAll K L' H' vs ds := DvAll.stay' e h
theorem keeps_less (e : ∀ b, L' b → L b) : Keeps L H L' H := ⟨fun _ _ h _ => h, fun b h n => (n (e b h)).elim⟩
theorem DvAll.len {ds : List PyData} {vs : List V} (h : DvAll K L H vs ds) : vs.length = ds.length := by
  induction ds generalizing vs with
  | nil => cases h; rfl
  | cons d ds ih =>
    cases h with
    | cons h1 h2 => simp [ih h2]
theorem DvAll.get {ds : List PyData} {vs : List V} {i : Nat} {d : PyData} (h : DvAll K L H vs ds) (e : ds[i]? = some d) : ∃ v, vs[i]? = some v ∧ Dv K L H v d := by
  induction ds generalizing vs i with
  | nil => simp at e
  | cons x ds ih =>
    cases h with
    | cons h1 h2 =>
      cases i with
      | zero =>
        simp only [List.getElem?_cons_zero, Option.some.injEq] at e
        subst e
        exact ⟨_, rfl, h1⟩
      | succ i => exact ih (i := i) h2 (by simpa using e)
theorem DvAll.get' {ds : List PyData} {vs : List V} {i : Nat} {v : V} (h : DvAll K L H vs ds) (e : vs[i]? = some v) : ∃ d, ds[i]? = some d ∧ Dv K L H v d := by
  have hl := h.len
  have hi : i < vs.length := (List.getElem?_eq_some_iff.mp e).1
  have hd : ds[i]? = some (ds[i]'(by omega)) := List.getElem?_eq_getElem (by omega)
  obtain ⟨v', e', r⟩ := h.get hd
  rw [e] at e'
  cases e'
  exact ⟨_, hd, r⟩
theorem DvAll.app {ds es : List PyData} {us vs : List V} (h : DvAll K L H us ds) (k : DvAll K L H vs es) : DvAll K L H (us ++ vs) (ds ++ es) := by
  induction ds generalizing us with
  | nil => cases h; exact k
  | cons d ds ih =>
    cases h with
    | cons a b => exact .cons a (ih b)
theorem DvAll.one {v : V} {d : PyData} (h : Dv K L H v d) : DvAll K L H [v] [d] := .cons h .nil
theorem DvAll.take {ds : List PyData} {vs : List V} (n : Nat) (h : DvAll K L H vs ds) : DvAll K L H (vs.take n) (ds.take n) := by
  induction ds generalizing vs n with
  | nil => cases h; simpa using DvAll.nil
  | cons d ds ih =>
    cases h with
    | cons a b =>
      cases n with
      | zero => simpa using DvAll.nil
      | succ n => exact .cons a (ih n b)
theorem DvAll.drop {ds : List PyData} {vs : List V} (n : Nat) (h : DvAll K L H vs ds) : DvAll K L H (vs.drop n) (ds.drop n) := by
  induction ds generalizing vs n with
  | nil => cases h; simpa using DvAll.nil
  | cons d ds ih =>
    cases n with
    | zero => simpa using h
    | succ n =>
      cases h with
      | cons a b => exact ih n b
theorem DvAll.rev {ds : List PyData} {vs : List V} (h : DvAll K L H vs ds) : DvAll K L H vs.reverse ds.reverse := by
  induction ds generalizing vs with
  | nil => cases h; exact .nil
  | cons d ds ih =>
    cases h with
    | cons a b =>
      rw [List.reverse_cons, List.reverse_cons]
      exact (ih b).app (.one a)
theorem DvAll.set {ds : List PyData} {vs : List V} {d : PyData} {v : V} (n : Nat) (h : DvAll K L H vs ds) (r : Dv K L H v d) : DvAll K L H (vs.set n v) (ds.set n d) := by
  induction ds generalizing vs n with
  | nil => cases h; exact .nil
  | cons x ds ih =>
    cases h with
    | cons a b =>
      cases n with
      | zero => exact .cons r b
      | succ n => exact .cons a (ih n b)
theorem DvAll.mem {ds : List PyData} {vs : List V} {v : V} (h : DvAll K L H vs ds) (hv : v ∈ vs) : ∃ d ∈ ds, Dv K L H v d := by
  obtain ⟨i, hi⟩ := List.mem_iff_getElem?.mp hv
  obtain ⟨d, h1, h2⟩ := h.get' hi
  exact ⟨d, List.mem_of_getElem? h1, h2⟩
end
/-! ### values, memory, slots -/
def RV (K : PySem.W.Frag) (m : Ms) (H : Hp) : W → V → Prop
  | .d x, v => Dv K (Live m) H v x
  | .r n, v => m.v[n]? = some none ∨ ∃ l a, m.v[n]? = some (some l) ∧ l.head? = some a ∧ v = .ref a
  | .s ns, v => ∃ a, v = .ref a ∧ LsR K H a (ns.map V.int)
abbrev RVs (K : PySem.W.Frag) (m : Ms) (H : Hp) : List W → List V → Prop := Paired (RV K m H)
theorem RV.extw {K : PySem.W.Frag} {m m' : Ms} {H H' : Hp} {w : W} {v : V} (h : RV K m H w v) (e : Exw m H m' H') : RV K m' H' w v := by
  cases w with
  | d x => exact Dv.stay h e.ks
  | r n =>
    rcases h with h | ⟨l, a, h1, h2, h3⟩
    · exact .inl (e.pre0 n h)
    · rcases e.pre n l h1 with h4 | ⟨l', h4, h5⟩
      · exact .inl h4
      · exact .inr ⟨l', a, h4, h5.trans h2, h3⟩
  | s ns =>
    obtain ⟨a, h1, h2⟩ := h
    exact ⟨a, h1, h2.stay e.ks⟩
theorem RVs.extw {K : PySem.W.Frag} {m m' : Ms} {H H' : Hp} {ws : List W} {vs : List V} (h : RVs K m H ws vs) (e : Exw m H m' H') : RVs K m' H' ws vs := Paired.mapP h fun _ _ r => RV.extw r e
theorem RV.ext {K : PySem.W.Frag} {m m' : Ms} {H H' : Hp} {w : W} {v : V} (h : RV K m H w v) (e : Ext m H m' H') : RV K m' H' w v := RV.extw h e.w
theorem RVs.ext {K : PySem.W.Frag} {m m' : Ms} {H H' : Hp} {ws : List W} {vs : List V} (h : RVs K m H ws vs) (e : Ext m H m' H') : RVs K m' H' ws vs := RVs.extw h e.w
/-- a dict as it lies -/
def DkR (K : PySem.W.Frag) (m : Ms) (H : Hp) (a : Addr) (kvs : List (PyData × PyData)) : Prop := ∃ us, H a = some (.dK us) ∧ DvK K (Live m) H us kvs
/-- fields as they lie -/
def FsR (K : PySem.W.Frag) (m : Ms) (H : Hp) (us : List (Str × V)) (fs : List (Str × PyData)) : Prop := Paired (fun (p : Str × V) (q : Str × PyData) => p.1 = q.1 ∧ Dv K (Live m) H p.2 q.2) us fs
theorem FsR.keeps {K : PySem.W.Frag} {m m' : Ms} {H H' : Hp} {us : List (Str × V)} {fs : List (Str × PyData)} (h : FsR K m H us fs) (e : Keeps (Live m) H (Live m') H') : FsR K m' H' us fs := Paired.mapP h fun _ _ q => ⟨q.1, Dv.stay' e q.2⟩
/-- fields as they lie, with the addresses of the lists and dicts -/
inductive GsR (K : PySem.W.Frag) (m : Ms) (H : Hp) : List (Str × V) → List (Str × FV) → List Addr → Prop
  | nil : GsR K m H [] [] []
  | d {f : Str} {v : V} {y : PyData} {us : List (Str × V)} {gs : List (Str × FV)} {bs : List Addr} : Dv K (Live m) H v y → GsR K m H us gs bs → GsR K m H ((f, v) :: us) ((f, .d y) :: gs) bs
  | l {f : Str} {b : Addr} {vs : List V} {xs : List PyData} {us : List (Str × V)} {gs : List (Str × FV)} {bs : List Addr} : H b = some (.lst vs) → DvAll K (Live m) H vs xs → GsR K m H us gs bs → GsR K m H ((f, .ref b) :: us) ((f, .l xs) :: gs) (b :: bs)
  | k {f : Str} {b : Addr} {ks : List (Key × V)} {kvs : List (PyData × PyData)} {us : List (Str × V)} {gs : List (Str × FV)} {bs : List Addr} : H b = some (.dK ks) → DvK K (Live m) H ks kvs → GsR K m H us gs bs → GsR K m H ((f, .ref b) :: us) ((f, .k kvs) :: gs) (b :: bs)
theorem GsR.keeps {K : PySem.W.Frag} {m m' : Ms} {H H' : Hp} {us : List (Str × V)} {gs : List (Str × FV)} {bs : List Addr} (h : GsR K m H us gs bs) (e : Keeps (Live m) H (Live m') H') (hh : ∀ b ∈ bs, ∀ u, H b = some u → H' b = some u) : GsR K m' H' us gs bs := by
  induction h with
  | nil => exact .nil
  | d h1 _ ih => exact .d (Dv.stay' e h1) (ih hh)
  | l h1 h2 _ ih => exact .l (hh _ (by simp) _ h1) (DvAll.stay' e h2) (ih fun b hb => hh b (List.mem_cons_of_mem _ hb))
  | k h1 h2 _ ih => exact .k (hh _ (by simp) _ h1) (DvK.stay' e h2) (ih fun b hb => hh b (List.mem_cons_of_mem _ hb))
theorem GsR.there {K : PySem.W.Frag} {m : Ms} {H : Hp} {us : List (Str × V)} {gs : List (Str × FV)} {bs : List Addr} (h : GsR K m H us gs bs) : ∀ b ∈ bs, ∃ u, H b = some u ∧ Chg u := by
  induction h with
  | nil => intro b hb; cases hb
  | d _ _ ih => exact ih
  | l h1 _ _ ih =>
    intro b hb
    rcases List.mem_cons.mp hb with rfl | hb
    · exact ⟨_, h1, trivial⟩
    · exact ih b hb
  | k h1 _ _ ih =>
    intro b hb
    rcases List.mem_cons.mp hb with rfl | hb
    · exact ⟨_, h1, trivial⟩
    · exact ih b hb
def ObR (K : PySem.W.Frag) (m : Ms) (H : Hp) (p : Fp) : MO → Prop
  | .dead => p = none
  | .l xs => ∃ a vs, p = some [a] ∧ H a = some (.lst vs) ∧ DvAll K (Live m) H vs xs
  | .k kvs => ∃ a, p = some [a] ∧ DkR K m H a kvs
  | .o x fs => ∃ a C dx us, p = some [a] ∧ PySem.W.nsIn K mainGlobals x = some (some (.ref C)) ∧ H a = some (.ins C dx us) ∧ FsR K m H us fs
  | .q x gs => ∃ a C dx us bs, p = some (a :: bs) ∧ PySem.W.nsIn K mainGlobals x = some (some (.ref C)) ∧ H a = some (.ins C dx us) ∧ GsR K m H us gs bs
structure RH (K : PySem.W.Frag) (m : Ms) (H : Hp) (μ : Mem) : Prop where
  nd : (fps m.v).Nodup
  len : m.v.length = μ.length
  hid : ∀ b ∈ m.h, (∃ o, H b = some o) ∧ b ∉ fps m.v
  at_ : ∀ (n : Nat) (p : Fp) (o : MO), m.v[n]? = some p → μ[n]? = some o → ObR K m H p o
structure EnvR (K : PySem.W.Frag) (m : Ms) (H : Hp) (ρ : Env) (σ : L2.St) : Prop where
  len : ρ.length = σ.length
  at_ : ∀ (i : Nat) (w : W), ρ[i]? = some (some w) → ∃ v : V, σ[i]? = some (some v) ∧ RV K m H w v
section
variable {K : PySem.W.Frag} {m m' : Ms} {H H' : Hp} {μ μ' : Mem} {ρ : Env} {σ : L2.St}
theorem EnvR.extw (h : EnvR K m H ρ σ) (e : Exw m H m' H') : EnvR K m' H' ρ σ := ⟨h.len, fun i w q => by
  obtain ⟨v, h1, h2⟩ := h.at_ i w q
  exact ⟨v, h1, h2.extw e⟩⟩
theorem EnvR.ext (h : EnvR K m H ρ σ) (e : Ext m H m' H') : EnvR K m' H' ρ σ := h.extw e.w
theorem EnvR.set (h : EnvR K m H ρ σ) {w : W} {v : V} (r : RV K m H w v) (i : Nat) : EnvR K m H (ρ.set i (some w)) (σ.set i (some v)) := ⟨by simp [h.len], fun j w' q => by
  by_cases e : i = j
  · subst e
    have hi : i < ρ.length := by
      have := (List.getElem?_eq_some_iff.mp q).1
      simpa using this
    rw [List.getElem?_set_self hi] at q
    cases q
    exact ⟨v, by rw [List.getElem?_set_self (by rw [← h.len]; exact hi)], r⟩
  · rw [List.getElem?_set_ne e] at q
    rw [List.getElem?_set_ne e]
    exact h.at_ j w' q⟩
theorem EnvR.forget (h : EnvR K m H ρ σ) (i : Nat) (x : Option V) : EnvR K m H (ρ.set i none) (σ.set i x) := ⟨by simp [h.len], fun j w' q => by
  by_cases e : i = j
  · subst e
    have hi : i < ρ.length := by
      have := (List.getElem?_eq_some_iff.mp q).1
      simpa using this
    rw [List.getElem?_set_self hi] at q
    cases q
  · rw [List.getElem?_set_ne e] at q
    rw [List.getElem?_set_ne e]
    exact h.at_ j w' q⟩
theorem RH.get (h : RH K m H μ) {n : Nat} {o : MO} (e : μ[n]? = some o) : ∃ p, m.v[n]? = some p ∧ ObR K m H p o := by
  have hn : n < m.v.length := by
    have := (List.getElem?_eq_some_iff.mp e).1
    rw [h.len]
    exact this
  exact ⟨m.v[n], List.getElem?_eq_getElem hn, h.at_ n _ o (List.getElem?_eq_getElem hn) e⟩
theorem DkR.keeps {a : Addr} {kvs : List (PyData × PyData)} (h : DkR K m H a kvs) (e : Keeps (Live m) H (Live m') H') (hh : ∀ u, H a = some u → H' a = some u) : DkR K m' H' a kvs := by
  obtain ⟨us, h1, h2⟩ := h
  exact ⟨us, hh _ h1, DvK.stay' e h2⟩
theorem ObR.keeps {p : Fp} {o : MO} (h : ObR K m H p o) (e : Keeps (Live m) H (Live m') H') (hh : ∀ l, p = some l → ∀ a ∈ l, ∀ u, H a = some u → H' a = some u) : ObR K m' H' p o := by
  cases o with
  | dead => exact h
  | l xs =>
    obtain ⟨a, vs, h0, h1, h2⟩ := h
    exact ⟨a, vs, h0, hh _ h0 a (by simp) _ h1, h2.stay e⟩
  | k kvs =>
    obtain ⟨a, h0, h1⟩ := h
    exact ⟨a, h0, h1.keeps e (hh _ h0 a (by simp))⟩
  | o x fs =>
    obtain ⟨a, C, dx, us, h0, h1, h2, h3⟩ := h
    exact ⟨a, C, dx, us, h0, h1, hh _ h0 a (by simp) _ h2, h3.keeps e⟩
  | q x gs =>
    obtain ⟨a, C, dx, us, bs, h0, h1, h2, h3⟩ := h
    exact ⟨a, C, dx, us, bs, h0, h1, hh _ h0 a (by simp) _ h2, h3.keeps e fun b hb => hh _ h0 b (List.mem_cons_of_mem _ hb)⟩
theorem ObR.there {p : Fp} {o : MO} {l : List Addr} (h : ObR K m H p o) (e : p = some l) : ∀ a ∈ l, ∃ u, H a = some u ∧ Chg u := by
  cases o with
  | dead => rw [show p = none from h] at e; cases e
  | l xs =>
    obtain ⟨a, vs, h0, h1, h2⟩ := h
    rw [h0] at e
    cases e
    intro b hb
    rw [List.mem_singleton.mp hb]
    exact ⟨_, h1, trivial⟩
  | k kvs =>
    obtain ⟨a, h0, h1⟩ := h
    rw [h0] at e
    cases e
    intro b hb
    rw [List.mem_singleton.mp hb]
    obtain ⟨us, h1, _⟩ := h1
    exact ⟨_, h1, trivial⟩
  | o x fs =>
    obtain ⟨a, C, dx, us, h0, h1, h2, h3⟩ := h
    rw [h0] at e
    cases e
    intro b hb
    rw [List.mem_singleton.mp hb]
    exact ⟨_, h2, trivial⟩
  | q x gs =>
    obtain ⟨a, C, dx, us, bs, h0, h1, h2, h3⟩ := h
    rw [h0] at e
    cases e
    intro b hb
    rcases List.mem_cons.mp hb with rfl | hb
    · exact ⟨_, h2, trivial⟩
    · exact h3.there b hb
theorem RH.there (h : RH K m H μ) {a : Addr} (ha : VL m a) : ∃ u, H a = some u ∧ Chg u := by
  obtain ⟨l, hl, q⟩ := fps_iff.mp ha
  obtain ⟨n, hn⟩ := List.mem_iff_getElem?.mp hl
  have hlt : n < μ.length := by
    rw [← h.len]
    exact (List.getElem?_eq_some_iff.mp hn).1
  exact (h.at_ n _ _ hn (List.getElem?_eq_getElem hlt)).there rfl a q
/-- a place that isn't there yet is none of ours -/
theorem RH.notin (h : RH K m H μ) {p : Addr} (hp : H p = none) : ¬ Live m p := fun hm => by
  rcases hm with hm | hm
  · obtain ⟨u, q, _⟩ := h.there hm
    rw [hp] at q
    cases q
  · obtain ⟨⟨u, q⟩, _⟩ := h.hid p hm
    rw [hp] at q
    cases q
theorem RH.notvl (h : RH K m H μ) {p : Addr} (hp : H p = none) : ¬ VL m p := fun q => h.notin hp (.inl q)
theorem RH.hide (h : RH K m H μ) {p : Addr} (hp : H p = none) (o : HO) : RH K (m.hide p) (upd H p o) μ :=
  ⟨h.nd, h.len, fun b hb => by
    rcases List.mem_cons.mp hb with hb | hb
    · rw [hb]
      exact ⟨⟨_, upd_same⟩, fun z => h.notin hp (.inl z)⟩
    · refine ⟨?_, (h.hid b hb).2⟩
      obtain ⟨u, q⟩ := (h.hid b hb).1
      exact ⟨u, by rw [upd_ne (ne_of_none q hp)]; exact q⟩, fun n q u h1 h2 => (h.at_ n q u h1 h2).keeps (Exw.hide hp o).ks fun l _ a _ u q => by rw [upd_ne (ne_of_none q hp)]; exact q⟩
theorem upd_there {p b : Addr} {o : HO} (h : ∃ u, H b = some u) : ∃ u, upd H p o b = some u := by
  by_cases e : b = p
  · subst e
    exact ⟨_, upd_same⟩
  · rw [upd_ne e]
    exact h
theorem RH.laid (h : RH K m H μ) {p : Addr} (hp : H p = none) (o : HO) : RH K m (upd H p o) μ :=
  ⟨h.nd, h.len, fun b hb => ⟨upd_there (h.hid b hb).1, (h.hid b hb).2⟩, fun n q u h1 h2 => (h.at_ n q u h1 h2).keeps (Ext.laid hp o).ks fun l _ a _ u q => by rw [upd_ne (ne_of_none q hp)]; exact q⟩
theorem RH.made (h : RH K m H μ) {p : Addr} (hp : H p = none) {u : HO} {o : MO} (ho : ObR K (m.add p) (upd H p u) (some [p]) o) : RH K (m.add p) (upd H p u) (μ ++ [o]) := by
  have np := h.notvl hp
  refine ⟨?_, by simp [Ms.add, h.len], fun b hb => ⟨upd_there (h.hid b hb).1, fun z => ?_⟩, fun n q o' h1 h2 => ?_⟩
  · unfold Ms.add
    rw [fps_append, fps_one, List.nodup_append]
    exact ⟨h.nd, by simp, fun a ha b hb => by
      rw [List.mem_singleton.mp hb]
      rintro rfl
      exact np ha⟩
  · unfold Ms.add at z
    rw [fps_append, fps_one, List.mem_append] at z
    rcases z with z | z
    · exact (h.hid b hb).2 z
    · rw [List.mem_singleton.mp z] at hb
      exact h.notin hp (.inr hb)
  · unfold Ms.add at h1
    by_cases hn : n < m.v.length
    · rw [List.getElem?_append_left hn] at h1
      rw [List.getElem?_append_left (by rw [← h.len]; exact hn)] at h2
      refine (h.at_ n q o' h1 h2).keeps (Ext.made hp u).ks fun l hl a ha v e => ?_
      rw [upd_ne (ne_of_none e hp)]
      exact e
    · have e : n = m.v.length := by
        have := (List.getElem?_eq_some_iff.mp h1).1
        simp at this
        omega
      subst e
      rw [List.getElem?_append_right (Nat.le_refl _)] at h1
      rw [h.len, List.getElem?_append_right (Nat.le_refl _)] at h2
      simp only [Nat.sub_self, List.getElem?_cons_zero, Option.some.injEq] at h1 h2
      subst h1
      subst h2
      exact ho
theorem nodup_apart : ∀ {m : List Fp} {i j : Nat} {l k : List Addr} {a : Addr}, (fps m).Nodup → m[i]? = some (some l) → m[j]? = some (some k) → a ∈ l → a ∈ k → i = j
  | [], _, _, _, _, _, _, h, _, _, _ => by simp at h
  | x :: m, 0, 0, _, _, _, _, _, _, _, _ => rfl
  | x :: m, 0, j + 1, l, k, a, n, h1, h2, h3, h4 => by
    simp only [List.getElem?_cons_zero, Option.some.injEq] at h1
    simp only [List.getElem?_cons_succ] at h2
    subst h1
    have e : fps (some l :: m) = l ++ fps m := by simp [fps]
    rw [e, List.nodup_append] at n
    exact absurd rfl (n.2.2 a h3 a (fps_iff.mpr ⟨k, List.mem_of_getElem? h2, h4⟩))
  | x :: m, i + 1, 0, l, k, a, n, h1, h2, h3, h4 => by
    simp only [List.getElem?_cons_zero, Option.some.injEq] at h2
    simp only [List.getElem?_cons_succ] at h1
    subst h2
    have e : fps (some k :: m) = k ++ fps m := by simp [fps]
    rw [e, List.nodup_append] at n
    exact absurd rfl (n.2.2 a h4 a (fps_iff.mpr ⟨l, List.mem_of_getElem? h1, h3⟩))
  | x :: m, i + 1, j + 1, l, k, a, n, h1, h2, h3, h4 => by
    simp only [List.getElem?_cons_succ] at h1 h2
    have n' : (fps m).Nodup := by
      cases x with
      | none => simpa [fps] using n
      | some l =>
        have e : fps (some l :: m) = l ++ fps m := by simp [fps]
        rw [e, List.nodup_append] at n
        exact n.2.1
    rw [nodup_apart n' h1 h2 h3 h4]
theorem vl_at {n : Nat} {l : List Addr} {a : Addr} (h : m.v[n]? = some (some l)) (ha : a ∈ l) : VL m a := fps_iff.mpr ⟨l, List.mem_of_getElem? h, ha⟩
/-- a thing of ours is written -/
theorem RH.put (h : RH K m H μ) {n : Nat} {p : Addr} {u v : HO} {o : MO} (hp : m.v[n]? = some (some [p])) (hu : H p = some u) (cu : Chg u) (ho : ObR K m (upd H p v) (some [p]) o) : RH K m (upd H p v) (μ.set n o) := by
  have hn : n < m.v.length := (List.getElem?_eq_some_iff.mp hp).1
  refine ⟨h.nd, by simp [h.len], fun b hb => ⟨upd_there (h.hid b hb).1, (h.hid b hb).2⟩, fun j q o' h1 h2 => ?_⟩
  by_cases e : n = j
  · subst e
    rw [hp] at h1
    cases h1
    rw [List.getElem?_set_self (by rw [← h.len]; exact hn)] at h2
    cases h2
    exact ho
  · rw [List.getElem?_set_ne e] at h2
    refine (h.at_ j q o' h1 h2).keeps (Ext.put (vl_at hp (by simp)) hu cu).ks fun l hl a ha w q => ?_
    subst hl
    have ne : a ≠ p := fun z => by
      subst z
      exact e (nodup_apart h.nd hp h1 (by simp) ha)
    rw [upd_ne ne]
    exact q
/-- what nobody sees is written -/
theorem RH.puth (h : RH K m H μ) {p : Addr} {u v : HO} (hp : p ∈ m.h) (hu : H p = some u) (cu : Chg u) : RH K m (upd H p v) μ := by
  refine ⟨h.nd, h.len, fun b hb => ⟨upd_there (h.hid b hb).1, (h.hid b hb).2⟩, fun j q o' h1 h2 => ?_⟩
  refine (h.at_ j q o' h1 h2).keeps (Exw.puth hp hu cu).ks fun l hl a ha w q => ?_
  subst hl
  have ne : a ≠ p := fun z => by
    subst z
    exact (h.hid a hp).2 (vl_at h1 ha)
  rw [upd_ne ne]
  exact q
theorem fps_set_none : ∀ {m : List Fp} {n : Nat}, (fps (m.set n none)).Sublist (fps m)
  | [], _ => by simp
  | none :: m, 0 => by simp [fps]
  | some l :: m, 0 => by simp [fps]
  | none :: m, n + 1 => by
    have := fps_set_none (m := m) (n := n)
    simpa [fps] using this
  | some l :: m, n + 1 => by
    have := fps_set_none (m := m) (n := n)
    simp only [fps, List.set_cons_succ, List.filterMap_cons, id_eq, List.flatten_cons] at this ⊢
    exact this.append_left l
/-- a thing of ours is let go -/
theorem RH.letgo (h : RH K m H μ) (n : Nat) : RH K (m.del n) H (μ.set n .dead) := by
  refine ⟨h.nd.sublist fps_set_none, by simp [Ms.del, h.len], fun b hb => ⟨(h.hid b hb).1, fun z => (h.hid b hb).2 (fps_set_mem z)⟩, fun j q o' h1 h2 => ?_⟩
  unfold Ms.del at h1
  by_cases e : n = j
  · subst e
    have hj := (List.getElem?_eq_some_iff.mp h1).1
    have hk := (List.getElem?_eq_some_iff.mp h2).1
    simp only [List.length_set] at hj hk
    rw [List.getElem?_set_self hj] at h1
    rw [List.getElem?_set_self hk] at h2
    cases h1
    cases h2
    exact rfl
  · rw [List.getElem?_set_ne e] at h1 h2
    exact (h.at_ j q o' h1 h2).keeps (Ext.letgo n).ks fun _ _ _ _ _ q => q
theorem fps_take {m : List Fp} {n : Nat} : (fps (m.take n)).Sublist (fps m) := by
  have e : fps m = fps (m.take n) ++ fps (m.drop n) := by rw [← fps_append, List.take_append_drop]
  rw [e]
  exact List.sublist_append_left _ _
/-- what was made is forgotten -/
theorem RH.drop {m2 : Ms} {μ2 : Mem} (h : RH K m2 H' μ2) (n : Nat) : RH K (m2.cut n) H' (μ2.take n) := by
  refine ⟨h.nd.sublist fps_take, by simp [Ms.cut, h.len], fun b hb => ⟨(h.hid b hb).1, fun z => (h.hid b hb).2 (fps_take_mem z)⟩, fun j q o h1 h2 => ?_⟩
  unfold Ms.cut at h1
  have h1' : m2.v[j]? = some q := by
    rw [List.getElem?_take] at h1
    split at h1
    · exact h1
    · cases h1
  have h2' : μ2[j]? = some o := by
    rw [List.getElem?_take] at h2
    split at h2
    · exact h2
    · cases h2
  exact (h.at_ j q o h1' h2').keeps (keeps_less fun b hb => hb.elim (fun z => .inl (fps_take_mem z)) .inr) fun _ _ _ _ _ q => q
end
/-- an exception as it lies -/
structure XcR (K : PySem.W.Frag) (cls : Str → Option Addr) (m : Ms) (H : Hp) (x : Xc) (c : Value) (d : Option Addr) : Prop where
  cls : ∃ a, cls x.cls = some a ∧ c = .ref a
  ex : ∃ dx us, d = some dx ∧ H dx = some (.xd us) ∧ Paired (fun (p : Str × V) (q : Str × PyData) => p.1 = q.1 ∧ Dv K (Live m) H p.2 q.2) us x.fs
end Mok09

set_option autoImplicit false
namespace Mok09
open PySem PySem.Spec PyProof.Rows L2
/-! ### tuples whose object is known -/
section
variable {X : Cx} {es : List Expr} {t : TA} {pos : Pos}
def tTupF (t : TA) : TE := fun σ H Q => t σ H fun xs H1 => xs.length ≤ sizeLine ∧ ∀ p o, o.dict = none → H1 p = none → Q (.ref p) (upd H1 p (.frz o (.tup xs)))
theorem pe_tupF {x1} (h : PA X es t) : PE X (.Tuple es x1 pos) (tTupF t) := by
  refine ⟨fun pins s σ H Q I hq => ?_⟩
  refine wpAny_Tuple_spliced (thn (h.run pos pins s σ H _ I hq) fun us s1 ⟨xs, H1, I1, r, z, q⟩ => ⟨by rw [← r.length]; exact z, ?_⟩)
  have hf : H1 s1.heap.objs.size = none := I1.hok.fresh (Nat.le_refl _)
  have ob : (s1.heap.push { cls := .type "tuple", data := .seq us.toArray }).get? s1.heap.objs.size = some { cls := .type "tuple", data := .seq us.toArray } := Heap.get?_push_size _ rfl
  refine ⟨.ref s1.heap.objs.size, upd H1 s1.heap.objs.size (.frz { cls := .type "tuple", data := .seq us.toArray } (.tup xs)), I1.laid (t' := s1.toks) (fun b u e => Heap.get?_push_of_some _ e) (Nat.le_refl _) ?_, rfl, q _ _ rfl hf⟩
  exact ⟨ob, z, us, r, ⟨_, ob, rfl, _, rfl⟩⟩
/-- t + u -/
def rCatF (K : PySem.W.Frag) : R2 := fun x y H Q => ∃ a b xs ys, x = .ref a ∧ y = .ref b ∧ SqT K H a xs ∧ SqT K H b ys ∧ xs.length + ys.length ≤ sizeLine ∧
  (xs = [] → Q (.ref b) H) ∧ (xs ≠ [] → ys = [] → Q (.ref a) H) ∧ (xs ≠ [] → ys ≠ [] → ∀ p o, o.dict = none → H p = none → Q (.ref p) (upd H p (.frz o (.tup (xs ++ ys)))))
theorem op_catF : OpR X (binaryOp .Add) (rCatF X.K) := by
  intro pins s σ H x y v u Q I rx ry h
  obtain ⟨a, b, xs, ys, rfl, rfl, ha, hb, hz, q0, q1, q2⟩ := h
  cases rx
  cases ry
  obtain ⟨its, r1, p1, _⟩ := I.tuple ha
  obtain ⟨its2, r2, p2, _⟩ := I.tuple hb
  by_cases hx : xs = []
  · subst hx
    cases r1
    exact cat_tup0 p1 p2 ⟨.ref b, H, I, rfl, q0 rfl⟩
  · refine HT.cat_tup p1 p2 (fun z => hx (r1.nil_iff.mp z)) (fun z => ⟨.ref a, H, I, rfl, q1 hx (r2.nil_iff.mp z)⟩) (fun z => ?_) (by rw [← r1.length, ← r2.length]; exact hz)
    refine ⟨.ref s.heap.objs.size, _, I.laid (t' := s.toks) (o := .frz { cls := .type "tuple", data := .seq (its ++ its2).toArray } (.tup (xs ++ ys))) (fun b ob q => Heap.get?_push_of_some _ q) (Nat.le_refl _) ?_, rfl, q2 hx (fun w => z (r2.nil_iff.mpr w)) _ _ rfl (I.hok.fresh (Nat.le_refl _))⟩
    exact ⟨Heap.get?_push_size _ rfl, by rw [List.length_append]; exact hz, _, r1.append r2, IsTup.new _ _⟩
/-- t[lo:hi]: the whole of it is t itself -/
def rSlF (K : PySem.W.Frag) : V → Option Int → Option Int → Hp → VK → Prop := fun x lo hi H Q => ∃ a xs, x = .ref a ∧ SqT K H a xs ∧
  (HT.sIx xs.length 0 lo = 0 ∧ HT.sIx xs.length xs.length hi = xs.length → Q (.ref a) H) ∧ (¬ (HT.sIx xs.length 0 lo = 0 ∧ HT.sIx xs.length xs.length hi = xs.length) → ∀ p o, o.dict = none → H p = none → Q (.ref p) (upd H p (.frz o (.tup (cutV xs lo hi)))))
theorem sl_tupF : SlR X (rSlF X.K) := by
  intro pins s σ H x v vl vu lo hi sl Q I rx hs pl pu h
  obtain ⟨a, xs, rfl, hx, q1, q2⟩ := h
  cases rx
  obtain ⟨its, r, ht, hz⟩ := I.tuple hx
  have hlen : its.toArray.size = xs.length := by rw [List.size_toArray]; exact r.length.symm
  refine ⟨"tuple", _, PyProof.Rows.slot_tuple_getitem.lookup, ht.typeIs, ?_⟩
  by_cases hw : HT.sIx xs.length 0 lo = 0 ∧ HT.sIx xs.length xs.length hi = xs.length
  · exact getItem_tuple_whole ht hs pl pu (by rw [hlen]; exact hw) ⟨.ref a, H, I, rfl, q1 hw⟩
  · refine HT.getItem_tuple_cut ht hs pl pu (by rw [hlen]; exact hw) ?_ (by rw [hlen]; exact hz)
    rw [hlen]
    refine ⟨.ref s.heap.objs.size, _, I.laid (t' := s.toks) (o := .frz { cls := .type "tuple", data := .seq ((its.toArray.toList.drop (HT.sIx xs.length 0 lo)).take (HT.sIx xs.length xs.length hi - HT.sIx xs.length 0 lo)).toArray } (.tup (cutV xs lo hi))) (fun b ob q => Heap.get?_push_of_some _ q) (Nat.le_refl _) ?_, rfl, q2 hw _ _ rfl (I.hok.fresh (Nat.le_refl _))⟩
    exact ⟨Heap.get?_push_size _ rfl, Nat.le_trans (cutV_length xs lo hi) hz, _, (r.drop (HT.sIx xs.length 0 lo)).take (HT.sIx xs.length xs.length hi - HT.sIx xs.length 0 lo), IsTup.new _ _⟩
/-- tuple(xs) -/
theorem call_tupleF : CallR X (.type "tuple") (fun xs H Q => ∃ p ys, xs = [.ref p] ∧ ((SqL X.K H p ys ∧ ∀ l o, o.dict = none → H l = none → Q (.ref l) (upd H l (.frz o (.tup ys)))) ∨ (SqT X.K H p ys ∧ Q (.ref p) H))) := by
  intro pins s σ H xs us Q I r h
  obtain ⟨p, ys, rfl, h⟩ := h
  obtain ⟨u, rfl, rx⟩ := vals1 r
  cases rx
  rcases h with ⟨hq, q⟩ | ⟨hq, q⟩
  · obtain ⟨its, r', pl, hz⟩ := I.list hq
    have hlen := r'.length
    refine call_tuple_list pl.isList (fun h' kp => ?_) (by simp only [List.size_toArray] <;> omega)
    have I1 : Inv X pins σ H { s with heap := h' } := I.kept (t' := s.toks) kp
    have ob : (h'.push { cls := .type "tuple", data := .seq its.toArray }).get? h'.objs.size = some { cls := .type "tuple", data := .seq its.toArray } := Heap.get?_push_size _ rfl
    refine ⟨.ref h'.objs.size, _, I1.laid (t' := s.toks) (fun b o e => Heap.get?_push_of_some _ e) (Nat.le_refl _) ?_, rfl, q _ { cls := .type "tuple", data := .seq its.toArray } rfl (I1.hok.fresh (Nat.le_refl _))⟩
    exact ⟨ob, hz, its, r', IsTup.new _ _⟩
  · obtain ⟨its, r', pl, hz⟩ := I.tuple hq
    exact call_tuple_same pl ⟨.ref p, H, I, rfl, q⟩
end
/-! ### what is wanted behind a step of the mirror -/
abbrev Ct := Str → Option Addr
def Gd {α : Type} (K : PySem.W.Frag) (ct : Ct) (Z : WX) (m : Ms) (σ : L2.St) (H : Hp) (r : Res α) (P : α → Mem → Ms → Hp → Prop) : Prop := match r with
  | .ok a μ => ∀ m' H', Ext m H m' H' → RH K m' H' μ → P a μ m' H'
  | .exc x μ => ∀ m' H' cls d, Ext m H m' H' → RH K m' H' μ → XcR K ct m' H' x cls d → Z cls d σ H'
  | .bad => False
section
variable {K : PySem.W.Frag} {ct : Ct} {Z : WX} {m m1 : Ms} {σ : L2.St} {H H1 : Hp}
theorem Gd.ext {α : Type} {r : Res α} {P : α → Mem → Ms → Hp → Prop} (h : Gd K ct Z m σ H r P) (e : Ext m H m1 H1) : Gd K ct Z m1 σ H1 r P := by
  cases r with
  | ok a μ => exact fun m' H' e' => h m' H' (e.trans e')
  | exc x μ => exact fun m' H' cls d e' => h m' H' cls d (e.trans e')
  | bad => exact h
theorem Gd.mono {α : Type} {r : Res α} {P P' : α → Mem → Ms → Hp → Prop} (h : Gd K ct Z m σ H r P) (k : ∀ a μ m' H', Ext m H m' H' → RH K m' H' μ → P a μ m' H' → P' a μ m' H') : Gd K ct Z m σ H r P' := by
  cases r with
  | ok a μ => exact fun m' H' e hh => k a μ m' H' e hh (h m' H' e hh)
  | exc x μ => exact h
  | bad => exact h
theorem Gd.bnd {α β : Type} {r : Res α} {f : α → Mem → Res β} {P : β → Mem → Ms → Hp → Prop} (h : Gd K ct Z m σ H (bnd r f) P) : Gd K ct Z m σ H r (fun a μ m' H' => Gd K ct Z m' σ H' (f a μ) P) := by
  cases r with
  | ok a μ => exact fun m' H' e _ => Gd.ext h e
  | exc x μ => exact h
  | bad => exact h
end
abbrev PV (K : PySem.W.Frag) (Q : VK) : W → Mem → Ms → Hp → Prop := fun w _ m' H' => ∀ v, RV K m' H' w v → Q v H'
abbrev PVs (K : PySem.W.Frag) (Q : List V → Hp → Prop) : List W → Mem → Ms → Hp → Prop := fun ws _ m' H' => ∀ vs, RVs K m' H' ws vs → Q vs H'
abbrev PB (Q : Bool → Hp → Prop) : Bool → Mem → Ms → Hp → Prop := fun b _ _ H' => Q b H'
def tE (K : PySem.W.Frag) (ct : Ct) (Z : WX) (d : DE) : TE := fun σ H Q => ∃ m ρ μ, EnvR K m H ρ σ ∧ RH K m H μ ∧ Gd K ct Z m σ H (d ρ μ) (PV K Q)
def tT (K : PySem.W.Frag) (ct : Ct) (Z : WX) (d : DT) : TT := fun σ H Q => ∃ m ρ μ, EnvR K m H ρ σ ∧ RH K m H μ ∧ Gd K ct Z m σ H (d ρ μ) (PB Q)
def tA (K : PySem.W.Frag) (ct : Ct) (Z : WX) (d : DA) : TA := fun σ H Q => ∃ m ρ μ, EnvR K m H ρ σ ∧ RH K m H μ ∧ Gd K ct Z m σ H (d ρ μ) (PVs K Q)
/-- what is wanted behind a statement of the mirror -/
def Gs (K : PySem.W.Frag) (ct : Ct) (Z : WX) (D : Ends) (m : Ms) (H : Hp) (r : SR) : Prop := match r with
  | .nx ρ μ => ∀ m' σ' H', Ext m H m' H' → RH K m' H' μ → EnvR K m' H' ρ σ' → D.nx σ' H'
  | .bk ρ μ => ∀ m' σ' H', Ext m H m' H' → RH K m' H' μ → EnvR K m' H' ρ σ' → D.bk σ' H'
  | .ct ρ μ => ∀ m' σ' H', Ext m H m' H' → RH K m' H' μ → EnvR K m' H' ρ σ' → D.ct σ' H'
  | .rt w μ => ∀ m' H' v, Ext m H m' H' → RH K m' H' μ → RV K m' H' w v → D.rt v H'
  | .exc x ρ μ => ∀ m' σ' H' cls d, Ext m H m' H' → RH K m' H' μ → EnvR K m' H' ρ σ' → XcR K ct m' H' x cls d → Z cls d σ' H'
  | .bad => False
def tS (K : PySem.W.Frag) (ct : Ct) (Z : WX) (d : DS) : TS := fun D σ H => ∃ m ρ μ, EnvR K m H ρ σ ∧ RH K m H μ ∧ Gs K ct Z D m H (d ρ μ)
theorem Gs.ext {K : PySem.W.Frag} {ct : Ct} {Z : WX} {D : Ends} {m m1 : Ms} {H H1 : Hp} {r : SR} (h : Gs K ct Z D m H r) (e : Ext m H m1 H1) : Gs K ct Z D m1 H1 r := by
  cases r with
  | nx ρ μ => exact fun m' σ' H' e' => h m' σ' H' (e.trans e')
  | bk ρ μ => exact fun m' σ' H' e' => h m' σ' H' (e.trans e')
  | ct ρ μ => exact fun m' σ' H' e' => h m' σ' H' (e.trans e')
  | rt w μ => exact fun m' H' v e' => h m' H' v (e.trans e')
  | exc x ρ μ => exact fun m' σ' H' cls d e' => h m' σ' H' cls d (e.trans e')
  | bad => exact h
/-! ### the judgements -/
structure ME (X : Cx) (ct : Ct) (Z : WX) (e : Expr) (d : DE) : Prop where
  pe : PE X e (tE X.K ct Z d)
structure MT (X : Cx) (ct : Ct) (Z : WX) (e : Expr) (d : DT) : Prop where
  pt : PT X e (tT X.K ct Z d)
structure MW (X : Cx) (ct : Ct) (Z : WX) (e : Expr) (d : DT) : Prop where
  pw : PW X e (tT X.K ct Z d)
structure MA (X : Cx) (ct : Ct) (Z : WX) (es : List Expr) (d : DA) : Prop where
  pa : PA X es (tA X.K ct Z d)
structure MS (X : Cx) (ct : Ct) (Z : WX) (st : Stmt) (d : DS) : Prop where
  ps : PS X st (tS X.K ct Z d)
structure MSs (X : Cx) (ct : Ct) (Z : WX) (st : List Stmt) (d : DS) : Prop where
  pss : PSs X st (tS X.K ct Z d)
section
variable {X : Cx} {ct : Ct} {Z : WX}
theorem MW.mt {e : Expr} {d : DT} (h : MW X ct Z e d) : MT X ct Z e d := ⟨h.pw.pt⟩
theorem pe_imp {e : Expr} {t t' : TE} (h : PE X e t) (k : ∀ σ H Q, t' σ H Q → t σ H Q) : PE X e t' := ⟨fun pins s σ H Q I q => h.run pins s σ H Q I (k σ H Q q)⟩
theorem pt_imp {e : Expr} {t t' : TT} (h : PT X e t) (k : ∀ σ H Q, t' σ H Q → t σ H Q) : PT X e t' := ⟨fun pins s σ H Q I q => h.run pins s σ H Q I (k σ H Q q)⟩
theorem pw_imp {e : Expr} {t t' : TT} (h : PW X e t) (k : ∀ σ H Q, t' σ H Q → t σ H Q) : PW X e t' := ⟨fun wh pins s σ H Q I q => h.run wh pins s σ H Q I (k σ H Q q)⟩
theorem pa_imp {es : List Expr} {t t' : TA} (h : PA X es t) (k : ∀ σ H Q, t' σ H Q → t σ H Q) : PA X es t' := ⟨fun pos pins s σ H Q I q => h.run pos pins s σ H Q I (k σ H Q q)⟩
theorem ps_imp {st : Stmt} {t t' : TS} (h : PS X st t) (k : ∀ D σ H, t' D σ H → t D σ H) : PS X st t' := ⟨fun pins s σ H D I q => h.run pins s σ H D I (k D σ H q)⟩
theorem pss_imp {st : List Stmt} {t t' : TS} (h : PSs X st t) (k : ∀ D σ H, t' D σ H → t D σ H) : PSs X st t' := ⟨fun pins s σ H D I q => h.run pins s σ H D I (k D σ H q)⟩
/-! ### names, constants -/
def dV (i : Nat) : DE := fun ρ μ => match ρ[i]? with
  | some (some w) => .ok w μ
  | _ => .bad
def dC (x : PyData) : DE := fun _ μ => .ok (.d x) μ
theorem mV (i : Nat) {x : Str} {pos : Pos} (hN : X.N[i]? = some x := by rfl) (hv : Vis X.env.scope x := by first | exact Or.inl rfl | exact Or.inr (Or.inl rfl) | exact Or.inr (Or.inr rfl)) (hd : (x == ("__debug__" : Str)) = false := by decide)
    (hcd : (x == ("__classdict__" : Str)) = false := by decide) : ME X ct Z (.Name x pos) (dV i) := by
  refine ⟨pe_imp (pe_var hN hv hd hcd) fun σ H Q h => ?_⟩
  obtain ⟨m, ρ, μ, he, hh, g⟩ := h
  unfold dV at g
  split at g
  · rename_i w q
    obtain ⟨v, h1, h2⟩ := he.at_ i w q
    exact ⟨v, h1, g m H (.refl m H) hh v h2⟩
  · exact g.elim
theorem mConst {e : Expr} {v : V} {x : PyData} (h : PE X e (tC v)) (r : ∀ L H, Dv X.K L H v x) : ME X ct Z e (dC x) := by
  refine ⟨pe_imp h fun σ H Q h => ?_⟩
  obtain ⟨m, ρ, μ, he, hh, g⟩ := h
  exact g m H (.refl m H) hh v (r _ H)
theorem mI {i : Int} {j : Nat} {pos : Pos} : ME X ct Z (.Constant (.int i) j pos) (dC (.int i)) := mConst pe_int fun _ _ => .int i
theorem mB {b : Bool} {j : Nat} {pos : Pos} : ME X ct Z (.Constant (.bool b) j pos) (dC (.bool b)) := mConst pe_bl fun _ _ => .bl b
theorem mN {j : Nat} {pos : Pos} : ME X ct Z (.Constant .none j pos) (dC .none) := mConst pe_non fun _ _ => .non
theorem mS {x : Str} {j : Nat} {pos : Pos} : ME X ct Z (.Constant (.str x) j pos) (dC (.str x)) := mConst pe_str fun _ _ => .str x
/-! ### operations: how many values in, one out; they raise nothing -/
abbrev Op := List W → Mem → Option (W × Mem)
def ofO : Option (W × Mem) → Res W
  | some (w, μ) => .ok w μ
  | none => .bad
def GdO (K : PySem.W.Frag) (m : Ms) (H : Hp) (r : Option (W × Mem)) (Q : VK) : Prop := match r with
  | some (w, μ) => ∀ m' H' v, Ext m H m' H' → RH K m' H' μ → RV K m' H' w v → Q v H'
  | none => False
/-- the reading of an operation by values -/
def rN (K : PySem.W.Frag) (f : Op) (vs : List V) (H : Hp) (Q : VK) : Prop := ∃ m μ ws, RVs K m H ws vs ∧ RH K m H μ ∧ GdO K m H (f ws μ) Q
theorem rN_of {K : PySem.W.Frag} {f : Op} {m : Ms} {σ : L2.St} {H : Hp} {μ : Mem} {ws : List W} {vs : List V} {Q : VK} (g : Gd K ct Z m σ H (ofO (f ws μ)) (PV K Q)) (r : RVs K m H ws vs) (hh : RH K m H μ) : rN K f vs H Q := by
  refine ⟨m, μ, ws, r, hh, ?_⟩
  unfold GdO
  cases e : f ws μ with
  | none => rw [e] at g; exact g
  | some p => rw [e] at g; exact fun m' H' v e' h' r' => g m' H' e' h' v r'
def dP1 (f : Op) (da : DE) : DE := fun ρ μ => bnd (da ρ μ) fun x μ1 => ofO (f [x] μ1)
def dP2 (f : Op) (da db : DE) : DE := fun ρ μ => bnd (da ρ μ) fun x μ1 => bnd (db ρ μ1) fun y μ2 => ofO (f [x, y] μ2)
def dPn (f : Op) (da : DA) : DE := fun ρ μ => bnd (da ρ μ) fun xs μ1 => ofO (f xs μ1)
def dPm (f : Op) (da : DE) (db : DA) : DE := fun ρ μ => bnd (da ρ μ) fun x μ1 => bnd (db ρ μ1) fun ys μ2 => ofO (f (x :: ys) μ2)
theorem t1_of {da : DE} {f : Op} {σ : L2.St} {H : Hp} {Q : VK} (h : tE X.K ct Z (dP1 f da) σ H Q) : tE X.K ct Z da σ H fun v H1 => rN X.K f [v] H1 Q := by
  obtain ⟨m, ρ, μ, he, hh, g⟩ := h
  exact ⟨m, ρ, μ, he, hh, (Gd.bnd g).mono fun a μ1 m1 H1 e1 h1 g1 v r1 => rN_of g1 (.cons r1 .nil) h1⟩
theorem t2_of {da db : DE} {f : Op} {σ : L2.St} {H : Hp} {Q : VK} (h : tE X.K ct Z (dP2 f da db) σ H Q) :
    tE X.K ct Z da σ H fun v H1 => tE X.K ct Z db σ H1 fun u H2 => rN X.K f [v, u] H2 Q := by
  obtain ⟨m, ρ, μ, he, hh, g⟩ := h
  refine ⟨m, ρ, μ, he, hh, (Gd.bnd g).mono fun a μ1 m1 H1 e1 h1 g1 v r1 => ⟨m1, ρ, μ1, he.ext e1, h1, (Gd.bnd g1).mono fun b μ2 m2 H2 e2 h2 g2 u r2 => ?_⟩⟩
  exact rN_of g2 (.cons (r1.ext e2) (.cons r2 .nil)) h2
theorem tn_of {da : DA} {f : Op} {σ : L2.St} {H : Hp} {Q : VK} (h : tE X.K ct Z (dPn f da) σ H Q) : tA X.K ct Z da σ H fun vs H1 => rN X.K f vs H1 Q := by
  obtain ⟨m, ρ, μ, he, hh, g⟩ := h
  exact ⟨m, ρ, μ, he, hh, (Gd.bnd g).mono fun a μ1 m1 H1 e1 h1 g1 v r1 => rN_of g1 r1 h1⟩
/-- a binary operation as the mirror reads it -/
def Op2R (X : Cx) (op : Value → Value → Sem Value) (f : Op) : Prop := OpR X op fun v u H Q => rN X.K f [v, u] H Q
def Op1R (X : Cx) (op : Value → Sem Value) (f : Op) : Prop := UnR X op fun v H Q => rN X.K f [v] H Q
theorem mUn {op : UnaryOp} {a : Expr} {pos : Pos} {f : Op} {da : DE} (ho : Op1R X (unaryOp op) f) (ha : ME X ct Z a da) : ME X ct Z (.UnaryOp op a pos) (dP1 f da) :=
  ⟨pe_imp (pe_un ho ha.pe) fun _ _ _ h => t1_of h⟩
theorem mBin {op : Operator} {a b : Expr} {pos : Pos} {f : Op} {da db : DE} (ho : Op2R X (binaryOp op) f) (ha : ME X ct Z a da) (hb : ME X ct Z b db) : ME X ct Z (.BinOp a op b pos) (dP2 f da db) :=
  ⟨pe_imp (pe_op ho ha.pe hb.pe) fun _ _ _ h => t2_of h⟩
theorem mCmp {op : CmpOp} {a b : Expr} {pos : Pos} {f : Op} {da db : DE} (ho : Op2R X (compareOp op) f) (ha : ME X ct Z a da) (hb : ME X ct Z b db) (hm : behindInMarks op b = false := by first | exact nomark _ | rfl) : ME X ct Z (.Compare a [op] [b] pos) (dP2 f da db) :=
  ⟨pe_imp (pe_cmpR ho ha.pe hb.pe hm) fun _ _ _ h => t2_of h⟩
/-! ### tests -/
/-- a value's truth -/
def truthD : PyData → Option Bool
  | .none => some false
  | .bool b => some b
  | .int i => some (i != 0)
  | .str x => if x.length ≤ sizeLine then some ((x.length : Int) != 0) else none
  | .list xs => some (!xs.isEmpty)
  | .tuple xs => some (!xs.isEmpty)
  | .dict _ => none
def truth : W → Mem → Option Bool
  | .d x, _ => truthD x
  | .r n, μ => match μ[n]? with
    | some (.l xs) => some (!xs.isEmpty)
    | _ => none
  | .s _, _ => none
theorem DvAll.empty {K : PySem.W.Frag} {L : Addr → Prop} {H : Hp} {vs : List V} {ds : List PyData} (h : DvAll K L H vs ds) : (!ds.isEmpty) = !vs.isEmpty := by
  cases h <;> rfl
theorem truth_ok {K : PySem.W.Frag} {m : Ms} {H : Hp} {μ : Mem} {w : W} {v : V} {b : Bool} (r : RV K m H w v) (hh : RH K m H μ) (e : truth w μ = some b) : TruV K v H b := by
  cases w with
  | d x =>
    cases r with
    | non => cases e; exact rfl
    | bl b => cases e; exact rfl
    | int i => cases e; exact rfl
    | str x =>
      simp only [truth, truthD] at e
      split at e
      · cases e; exact ⟨by assumption, rfl⟩
      · cases e
    | lst hs ha => cases e; exact .inl ⟨_, hs.sq, ha.empty⟩
    | tup hs ha => cases e; exact .inr (.inl ⟨_, hs.sq, ha.empty⟩)
    | dK _ _ _ => cases e
  | r n =>
    simp only [truth] at e
    split at e
    · rename_i xs q
      cases e
      obtain ⟨p, h1, a, vs, rfl, h2, h3⟩ := hh.get q
      rcases r with r | ⟨l, a', r1, r2, rfl⟩
      · rw [h1] at r; cases r
      · rw [h1] at r1
        cases r1
        cases r2
        exact .inl ⟨vs, .inl (.inl h2), h3.empty⟩
    · cases e
  | s ns => cases e
def asB (w : W) (μ : Mem) : Res Bool := match truth w μ with
  | some b => .ok b μ
  | none => .bad
def dTv (da : DE) : DT := fun ρ μ => bnd (da ρ μ) asB
theorem asB_ok {w : W} {v : V} {μ : Mem} {m : Ms} {σ : L2.St} {H : Hp} {K : PySem.W.Frag} {P : Bool → Mem → Ms → Hp → Prop} (g : Gd K ct Z m σ H (asB w μ) P) (r : RV K m H w v) (hh : RH K m H μ) : ∃ b, TruV K v H b ∧ truth w μ = some b ∧ P b μ m H := by
  unfold asB at g
  cases e : truth w μ with
  | none => rw [e] at g; exact g.elim
  | some b => rw [e] at g; exact ⟨b, truth_ok r hh e, rfl, g m H (.refl m H) hh⟩
theorem tTv_of {da : DE} {σ : L2.St} {H : Hp} {Q : Bool → Hp → Prop} (h : tT X.K ct Z (dTv da) σ H Q) : tE X.K ct Z da σ H fun v H1 => ∃ c, TruV X.K v H1 c ∧ Q c H1 := by
  obtain ⟨m, ρ, μ, he, hh, g⟩ := h
  refine ⟨m, ρ, μ, he, hh, (Gd.bnd g).mono fun a μ1 m1 H1 e1 h1 g1 v r1 => ?_⟩
  obtain ⟨b, h2, _, q⟩ := asB_ok g1 r1 h1
  exact ⟨b, h2, q⟩
theorem mTv {e : Expr} {da : DE} (h : ME X ct Z e da) (he : ∀ whole, isTrue e X.env whole = (do let v ← whole; standAt e.pos; holding [v] (truthy v)) := by intro _; rfl) : MT X ct Z e (dTv da) :=
  ⟨pt_imp (pt_truth h.pe he) fun _ _ _ h => tTv_of h⟩
/-- the truth of a comparison: a truth it must be -/
def asBl : W → Mem → Res Bool
  | .d (.bool b), μ => .ok b μ
  | _, _ => .bad
def dTb (da : DE) : DT := fun ρ μ => bnd (da ρ μ) asBl
theorem asBl_ok {w : W} {μ : Mem} {m : Ms} {σ : L2.St} {H : Hp} {K : PySem.W.Frag} {P : Bool → Mem → Ms → Hp → Prop} (g : Gd K ct Z m σ H (asBl w μ) P) (hh : RH K m H μ) : ∃ b, w = .d (.bool b) ∧ P b μ m H := by
  cases w with
  | d x =>
    cases x with
    | bool b => exact ⟨b, rfl, g m H (.refl m H) hh⟩
    | _ => exact g.elim
  | _ => exact g.elim
theorem tTb_of {da : DE} {σ : L2.St} {H : Hp} {Q : Bool → Hp → Prop} (h : tT X.K ct Z (dTb da) σ H Q) : tE X.K ct Z da σ H fun v H1 => ∃ c, v = .bl c ∧ Q c H1 := by
  obtain ⟨m, ρ, μ, he, hh, g⟩ := h
  refine ⟨m, ρ, μ, he, hh, (Gd.bnd g).mono fun a μ1 m1 H1 e1 h1 g1 v r1 => ?_⟩
  obtain ⟨b, rfl, q⟩ := asBl_ok g1 h1
  cases r1
  exact ⟨b, rfl, q⟩
theorem mTcmp {op : CmpOp} {a b : Expr} {pos : Pos} {f : Op} {da db : DE} (ho : Op2R X (compareOp op) f) (ha : ME X ct Z a da) (hb : ME X ct Z b db) (hm : behindInMarks op b = false := by first | exact nomark _ | rfl) :
    MT X ct Z (.Compare a [op] [b] pos) (dTb (dP2 f da db)) :=
  ⟨pt_imp (pt_cmpR ho ha.pe hb.pe hm) fun σ H Q h => t2_of (tTb_of h)⟩
/-- a < b < c -/
def dChain (f f' : Op) (da db dc : DE) : DE := fun ρ μ => bnd (da ρ μ) fun x μ1 => bnd (db ρ μ1) fun y μ2 => bnd (ofO (f [x, y] μ2)) fun z μ3 =>
  bnd (asBl z μ3) fun k μ4 => if k = true then bnd (dc ρ μ4) fun u μ5 => ofO (f' [y, u] μ5) else .ok (.d (.bool false)) μ4
theorem tchain_of {da db dc : DE} {f f' : Op} {σ : L2.St} {H : Hp} {Q : VK} (h : tE X.K ct Z (dChain f f' da db dc) σ H Q) :
    tChain (fun v u H Q => rN X.K f [v, u] H Q) (fun v u H Q => rN X.K f' [v, u] H Q) (tE X.K ct Z da) (tE X.K ct Z db) (tE X.K ct Z dc) σ H Q := by
  obtain ⟨m, ρ, μ, he, hh, g⟩ := h
  refine ⟨m, ρ, μ, he, hh, (Gd.bnd g).mono fun a μ1 m1 H1 e1 h1 g1 v r1 => ⟨m1, ρ, μ1, he.ext e1, h1, (Gd.bnd g1).mono fun b μ2 m2 H2 e2 h2 g2 u r2 => ?_⟩⟩
  refine ⟨m2, μ2, [a, b], .cons (r1.ext e2) (.cons r2 .nil), h2, ?_⟩
  unfold GdO
  cases e : f [a, b] μ2 with
  | none => rw [e] at g2; exact g2
  | some p =>
    rw [e] at g2
    obtain ⟨p1, p2⟩ := p
    intro m3 H3 z e3 h3 r3
    obtain ⟨k, rfl, g3⟩ : ∃ k, p1 = .d (.bool k) ∧ Gd X.K ct Z m3 σ H3 (if k = true then bnd (dc ρ p2) fun u μ5 => ofO (f' [b, u] μ5) else .ok (.d (.bool false)) p2) (PV X.K Q) := by
      have q : Gd X.K ct Z m2 σ H2 (bnd (asBl p1 p2) fun k μ4 => if k = true then bnd (dc ρ μ4) fun u μ5 => ofO (f' [b, u] μ5) else .ok (.d (.bool false)) μ4) (PV X.K Q) := g2
      exact asBl_ok (Gd.bnd (Gd.ext q e3)) h3
    cases r3
    refine ⟨k, rfl, ?_⟩
    cases k with
    | true =>
      rw [if_pos rfl] at g3 ⊢
      exact ⟨m3, ρ, p2, (he.ext (e1.trans e2)).ext e3, h3, (Gd.bnd g3).mono fun c μ5 m5 H5 e5 h5 g5 u' r5 => rN_of g5 (.cons ((r2.ext e3).ext e5) (.cons r5 .nil)) h5⟩
    | false =>
      rw [if_neg (by decide)] at g3 ⊢
      exact g3 m3 H3 (.refl _ _) h3 _ (.bl false)
theorem mChain {op op' : CmpOp} {a b c : Expr} {pos : Pos} {f f' : Op} {da db dc : DE} (ho : Op2R X (compareOp op) f) (ho' : Op2R X (compareOp op') f') (ha : ME X ct Z a da) (hb : ME X ct Z b db) (hc : ME X ct Z c dc)
    (hm : lastMarks [op, op'] [b, c] = false := by rfl) : ME X ct Z (.Compare a [op, op'] [b, c] pos) (dChain f f' da db dc) := ⟨pe_imp (pe_chain ho ho' ha.pe hb.pe hc.pe hm) fun _ _ _ h => tchain_of h⟩
theorem mTchain {op op' : CmpOp} {a b c : Expr} {pos : Pos} {f f' : Op} {da db dc : DE} (ho : Op2R X (compareOp op) f) (ho' : Op2R X (compareOp op') f') (ha : ME X ct Z a da) (hb : ME X ct Z b db) (hc : ME X ct Z c dc)
    (hm : lastMarks [op, op'] [b, c] = false := by rfl) : MT X ct Z (.Compare a [op, op'] [b, c] pos) (dTb (dChain f f' da db dc)) := ⟨pt_imp (pt_chain ho ho' ha.pe hb.pe hc.pe hm) fun _ _ _ h => tchain_of (tTb_of h)⟩
def dNot (da : DT) : DT := fun ρ μ => bnd (da ρ μ) fun b μ1 => .ok (!b) μ1
theorem mNot {a : Expr} {pos : Pos} {da : DT} (ha : MT X ct Z a da) : MT X ct Z (.UnaryOp .Not a pos) (dNot da) := by
  refine ⟨pt_imp (pt_not ha.pt) fun σ H Q h => ?_⟩
  obtain ⟨m, ρ, μ, he, hh, g⟩ := h
  exact ⟨m, ρ, μ, he, hh, (Gd.bnd g).mono fun b μ1 m1 H1 e1 h1 g1 => g1 m1 H1 (.refl _ _) h1⟩
def dAnd (da db : DT) : DT := fun ρ μ => bnd (da ρ μ) fun b μ1 => if b = true then db ρ μ1 else .ok false μ1
def dOr (da db : DT) : DT := fun ρ μ => bnd (da ρ μ) fun b μ1 => if b = true then .ok true μ1 else db ρ μ1
theorem mAnd1 {a : Expr} {pos : Pos} {da : DT} (ha : MT X ct Z a da) : MW X ct Z (.BoolOp .And [a] pos) da := ⟨pw_and1 ha.pt⟩
theorem mOr1 {a : Expr} {pos : Pos} {da : DT} (ha : MT X ct Z a da) : MW X ct Z (.BoolOp .Or [a] pos) da := ⟨pw_or1 ha.pt⟩
theorem mAnd {a b : Expr} {rest : List Expr} {pos : Pos} {da db : DT} (ha : MT X ct Z a da) (hb : MW X ct Z (.BoolOp .And (b :: rest) pos) db) : MW X ct Z (.BoolOp .And (a :: b :: rest) pos) (dAnd da db) := by
  refine ⟨pw_imp (pw_and ha.pt hb.pw) fun σ H Q h => ?_⟩
  obtain ⟨m, ρ, μ, he, hh, g⟩ := h
  refine ⟨m, ρ, μ, he, hh, (Gd.bnd g).mono fun b μ1 m1 H1 e1 h1 g1 => ?_⟩
  cases b with
  | true => exact ⟨m1, ρ, μ1, he.ext e1, h1, g1⟩
  | false => exact g1 m1 H1 (.refl _ _) h1
theorem mOr {a b : Expr} {rest : List Expr} {pos : Pos} {da db : DT} (ha : MT X ct Z a da) (hb : MW X ct Z (.BoolOp .Or (b :: rest) pos) db) : MW X ct Z (.BoolOp .Or (a :: b :: rest) pos) (dOr da db) := by
  refine ⟨pw_imp (pw_or ha.pt hb.pw) fun σ H Q h => ?_⟩
  obtain ⟨m, ρ, μ, he, hh, g⟩ := h
  refine ⟨m, ρ, μ, he, hh, (Gd.bnd g).mono fun b μ1 m1 H1 e1 h1 g1 => ?_⟩
  cases b with
  | false => exact ⟨m1, ρ, μ1, he.ext e1, h1, g1⟩
  | true => exact g1 m1 H1 (.refl _ _) h1
def dIf (dc : DT) (da db : DE) : DE := fun ρ μ => bnd (dc ρ μ) fun b μ1 => if b = true then da ρ μ1 else db ρ μ1
theorem mIf {c a b : Expr} {pos : Pos} {dc : DT} {da db : DE} (hc : MT X ct Z c dc) (ha : ME X ct Z a da) (hb : ME X ct Z b db) : ME X ct Z (.IfExp c a b pos) (dIf dc da db) := by
  refine ⟨pe_imp (pe_ifExp hc.pt ha.pe hb.pe) fun σ H Q h => ?_⟩
  obtain ⟨m, ρ, μ, he, hh, g⟩ := h
  refine ⟨m, ρ, μ, he, hh, (Gd.bnd g).mono fun b μ1 m1 H1 e1 h1 g1 => ?_⟩
  cases b with
  | true => exact ⟨m1, ρ, μ1, he.ext e1, h1, g1⟩
  | false => exact ⟨m1, ρ, μ1, he.ext e1, h1, g1⟩
/-- and, or as values -/
def dAndV (da db : DE) : DE := fun ρ μ => bnd (da ρ μ) fun w μ1 => bnd (asB w μ1) fun b μ2 => if b = true then db ρ μ2 else .ok w μ2
def dOrV (da db : DE) : DE := fun ρ μ => bnd (da ρ μ) fun w μ1 => bnd (asB w μ1) fun b μ2 => if b = true then .ok w μ2 else db ρ μ2
theorem mAndV1 {a : Expr} {pos : Pos} {op : BoolOp} {da : DE} (ha : ME X ct Z a da) : ME X ct Z (.BoolOp op [a] pos) da := ⟨pe_one ha.pe⟩
theorem mAndV {a b : Expr} {rest : List Expr} {pos : Pos} {da db : DE} (ha : ME X ct Z a da) (hb : ME X ct Z (.BoolOp .And (b :: rest) pos) db) : ME X ct Z (.BoolOp .And (a :: b :: rest) pos) (dAndV da db) := by
  refine ⟨pe_imp (pe_andT ha.pe hb.pe) fun σ H Q h => ?_⟩
  obtain ⟨m, ρ, μ, he, hh, g⟩ := h
  refine ⟨m, ρ, μ, he, hh, (Gd.bnd g).mono fun w μ1 m1 H1 e1 h1 g1 v r1 => ?_⟩
  obtain ⟨b, tr, _, q⟩ := asB_ok (Gd.bnd g1) r1 h1
  refine ⟨b, tr, ?_⟩
  cases b with
  | true => exact ⟨m1, ρ, μ1, he.ext e1, h1, q⟩
  | false => exact q m1 H1 (.refl _ _) h1 _ r1
theorem mOrV {a b : Expr} {rest : List Expr} {pos : Pos} {da db : DE} (ha : ME X ct Z a da) (hb : ME X ct Z (.BoolOp .Or (b :: rest) pos) db) : ME X ct Z (.BoolOp .Or (a :: b :: rest) pos) (dOrV da db) := by
  refine ⟨pe_imp (pe_orT ha.pe hb.pe) fun σ H Q h => ?_⟩
  obtain ⟨m, ρ, μ, he, hh, g⟩ := h
  refine ⟨m, ρ, μ, he, hh, (Gd.bnd g).mono fun w μ1 m1 H1 e1 h1 g1 v r1 => ?_⟩
  obtain ⟨b, tr, _, q⟩ := asB_ok (Gd.bnd g1) r1 h1
  refine ⟨b, tr, ?_⟩
  cases b with
  | false => exact ⟨m1, ρ, μ1, he.ext e1, h1, q⟩
  | true => exact q m1 H1 (.refl _ _) h1 _ r1
def dNotV (da : DE) : DE := fun ρ μ => bnd (dTv da ρ μ) fun b μ1 => .ok (.d (.bool !b)) μ1
theorem mNotV {a : Expr} {pos : Pos} {da : DE} (ha : ME X ct Z a da) : ME X ct Z (.UnaryOp .Not a pos) (dNotV da) := by
  refine ⟨pe_imp (pe_notT ha.pe) fun σ H Q h => ?_⟩
  obtain ⟨m, ρ, μ, he, hh, g⟩ := h
  refine ⟨m, ρ, μ, he, hh, ?_⟩
  have g' := Gd.bnd (show Gd X.K ct Z m σ H (bnd (bnd (da ρ μ) asB) _) _ from g)
  refine (Gd.bnd g').mono fun a μ1 m1 H1 e1 h1 g1 v r1 => ?_
  obtain ⟨b, tr, _, q⟩ := asB_ok g1 r1 h1
  exact ⟨b, tr, q m1 H1 (.refl _ _) h1 _ (.bl _)⟩
/-! ### argument lists, displays -/
def dNil : DA := fun _ μ => .ok [] μ
def dCons (da : DE) (dr : DA) : DA := fun ρ μ => bnd (da ρ μ) fun x μ1 => bnd (dr ρ μ1) fun xs μ2 => .ok (x :: xs) μ2
theorem mNil : MA X ct Z [] dNil := ⟨pa_imp pa_nil fun σ H Q ⟨m, ρ, μ, he, hh, g⟩ => g m H (.refl _ _) hh [] .nil⟩
theorem mCons {e : Expr} {es : List Expr} {da : DE} {dr : DA} (ha : ME X ct Z e da) (hr : MA X ct Z es dr) (hs : starEach (e :: es) X.env = (false, eval e X.env) :: starEach es X.env := by rfl) : MA X ct Z (e :: es) (dCons da dr) := by
  refine ⟨pa_imp (pa_cons ha.pe hr.pa hs) fun σ H Q h => ?_⟩
  obtain ⟨m, ρ, μ, he, hh, g⟩ := h
  refine ⟨m, ρ, μ, he, hh, (Gd.bnd g).mono fun a μ1 m1 H1 e1 h1 g1 v r1 => ⟨m1, ρ, μ1, he.ext e1, h1, (Gd.bnd g1).mono fun bs μ2 m2 H2 e2 h2 g2 us r2 => ?_⟩⟩
  exact g2 m2 H2 (.refl _ _) h2 _ (.cons (r1.ext e2) r2)
/-- what a list or a tuple has -/
def viewL : W → Mem → Option (List PyData)
  | .d (.list xs), _ => some xs
  | .d (.tuple xs), _ => some xs
  | .r n, μ => match μ[n]? with
    | some (.l xs) => some xs
    | _ => none
  | _, _ => none
theorem ref_at {K : PySem.W.Frag} {m : Ms} {H : Hp} {μ : Mem} {n : Nat} {v : V} {o : MO} (r : RV K m H (.r n) v) (hh : RH K m H μ) (e : μ[n]? = some o) (hd : o ≠ .dead) : ∃ l a, m.v[n]? = some (some l) ∧ l.head? = some a ∧ v = .ref a ∧ ObR K m H (some l) o := by
  obtain ⟨p, h1, h2⟩ := hh.get e
  rcases r with r | ⟨l, a, r1, r2, r3⟩
  · rw [h1] at r
    cases r
    cases o with
    | dead => exact (hd rfl).elim
    | l xs => obtain ⟨_, _, q, _⟩ := h2; cases q
    | k xs => obtain ⟨_, q, _⟩ := h2; cases q
    | o x fs => obtain ⟨_, _, _, _, q, _⟩ := h2; cases q
    | q x gs => obtain ⟨_, _, _, _, _, q, _⟩ := h2; cases q
  · rw [h1] at r1
    cases r1
    exact ⟨l, a, h1, r2, r3, h2⟩
theorem lst_at {K : PySem.W.Frag} {m : Ms} {H : Hp} {μ : Mem} {n : Nat} {v : V} {xs : List PyData} (r : RV K m H (.r n) v) (hh : RH K m H μ) (e : μ[n]? = some (.l xs)) : ∃ a vs, m.v[n]? = some (some [a]) ∧ v = .ref a ∧ H a = some (.lst vs) ∧ DvAll K (Live m) H vs xs := by
  obtain ⟨l, a, h1, h2, h3, a', vs, h4, h5, h6⟩ := ref_at r hh e (by intro z; cases z)
  cases h4
  cases h2
  exact ⟨_, vs, h1, h3, h5, h6⟩
theorem view_ok {K : PySem.W.Frag} {m : Ms} {H : Hp} {μ : Mem} {w : W} {v : V} {xs : List PyData} (r : RV K m H w v) (hh : RH K m H μ) (e : viewL w μ = some xs) : ∃ a vs, v = .ref a ∧ (SqL K H a vs ∨ SqT K H a vs) ∧ DvAll K (Live m) H vs xs := by
  cases w with
  | d x =>
    cases r with
    | lst hs ha => cases e; exact ⟨_, _, rfl, .inl hs.sq, ha⟩
    | tup hs ha => cases e; exact ⟨_, _, rfl, .inr hs.sq, ha⟩
    | _ => cases e
  | r n =>
    simp only [viewL] at e
    split at e
    · rename_i ys q
      cases e
      obtain ⟨a, vs, h1, rfl, h2, h3⟩ := lst_at r hh q
      exact ⟨a, vs, rfl, .inl (.inl (.inl h2)), h3⟩
    · cases e
  | s ns => cases e
def dStar (da : DE) (dr : DA) : DA := fun ρ μ => bnd (da ρ μ) fun x μ1 => match viewL x μ1 with
  | some ys => bnd (dr ρ μ1) fun xs μ2 => .ok (ys.map W.d ++ xs) μ2
  | none => .bad
theorem rvs_map {K : PySem.W.Frag} {m : Ms} {H : Hp} {vs : List V} {xs : List PyData} (h : DvAll K (Live m) H vs xs) : RVs K m H (xs.map W.d) vs := by
  induction xs generalizing vs with
  | nil => cases h; exact .nil
  | cons x xs ih =>
    cases h with
    | cons a b => exact .cons a (ih b)
theorem rvs_app {K : PySem.W.Frag} {m : Ms} {H : Hp} {xs ys : List W} {us vs : List V} (h : RVs K m H xs us) (k : RVs K m H ys vs) : RVs K m H (xs ++ ys) (us ++ vs) := by
  induction h with
  | nil => exact k
  | cons a _ ih => exact .cons a ih
/-- all are plain -/
def datas : List W → Option (List PyData)
  | [] => some []
  | .d x :: r => (datas r).map (x :: ·)
  | _ :: _ => none
@[simp] theorem datas_map : ∀ xs : List PyData, datas (xs.map W.d) = some xs
  | [] => rfl
  | x :: xs => by simp [datas, datas_map xs]
theorem datas_all {K : PySem.W.Frag} {m : Ms} {H : Hp} {ws : List W} {vs : List V} {xs : List PyData} (r : RVs K m H ws vs) (h : datas ws = some xs) : DvAll K (Live m) H vs xs := by
  induction r generalizing xs with
  | nil => cases h; exact .nil
  | @cons w v ws vs a b ih =>
    cases w with
    | d x =>
      simp only [datas, Option.map_eq_some_iff] at h
      obtain ⟨ys, h1, rfl⟩ := h
      exact .cons a (ih h1)
    | r n => simp [datas] at h
    | s n => simp [datas] at h
def sz (n : Nat) : Bool := decide (n ≤ sizeLine)
theorem sz_le {n : Nat} (h : sz n = true) : n ≤ sizeLine := of_decide_eq_true h
def mkT (xs : List PyData) (μ : Mem) : Option (W × Mem) := if sz xs.length = true then some (.d (.tuple xs), μ) else none
/-- a new list, by place if it is to be written -/
def mkL (own : Bool) (xs : List PyData) (μ : Mem) : Option (W × Mem) := if sz xs.length = true then (if own = true then some (.r μ.length, μ ++ [.l xs]) else some (.d (.list xs), μ)) else none
def opTup : Op := fun ws μ => (datas ws).bind fun xs => mkT xs μ
def opLst (own : Bool) : Op := fun ws μ => (datas ws).bind fun xs => mkL own xs μ
section
variable {K : PySem.W.Frag} {m : Ms} {H : Hp} {σ : L2.St} {μ : Mem} {Q : VK} {vs : List V} {ws : List W} {xs : List PyData}
/-- a new tuple, a new list -/
theorem tup_new (hh : RH K m H μ) (ha : DvAll K (Live m) H vs xs) (g : GdO K m H (mkT xs μ) Q) {p : Addr} {o : Obj} (hd : o.dict = none) (hp : H p = none) : vs.length ≤ sizeLine ∧ Q (.ref p) (upd H p (.frz o (.tup vs))) := by
  unfold mkT at g
  split at g
  · rename_i hz
    exact ⟨by rw [ha.len]; exact sz_le hz, g m _ _ (.laid hp _) (hh.laid hp _) (.tup (.new hd) (ha.stay (Ext.laid hp _).ks))⟩
  · exact g.elim
theorem lst_new {own : Bool} (hh : RH K m H μ) (ha : DvAll K (Live m) H vs xs) (g : GdO K m H (mkL own xs μ) Q) {p : Addr} (hp : H p = none) : vs.length ≤ sizeLine ∧ Q (.ref p) (upd H p (.lst vs)) := by
  unfold mkL at g
  split at g
  · rename_i hz
    refine ⟨by rw [ha.len]; exact sz_le hz, ?_⟩
    split at g
    · refine g _ _ _ (.made hp _) (hh.made hp ⟨p, vs, rfl, upd_same, ha.stay (Ext.made hp _).ks⟩) (.inr ⟨[p], p, ?_, rfl, rfl⟩)
      unfold Ms.add
      rw [← hh.len, List.getElem?_append_right (Nat.le_refl _)]
      simp
    · exact g m _ _ (.laid hp _) (hh.laid hp _) (.lst ⟨upd_same, hh.notin hp⟩ (ha.stay (Ext.laid hp _).ks))
  · exact g.elim
theorem tup_len (hh : RH K m H μ) (ha : DvAll K (Live m) H vs xs) (g : GdO K m H (mkT xs μ) Q) : vs.length ≤ sizeLine := by
  unfold mkT at g
  split at g
  · rename_i hz
    rw [ha.len]; exact sz_le hz
  · exact g.elim
theorem lst_len {own : Bool} (hh : RH K m H μ) (ha : DvAll K (Live m) H vs xs) (g : GdO K m H (mkL own xs μ) Q) : vs.length ≤ sizeLine := by
  unfold mkL at g
  split at g
  · rename_i hz
    rw [ha.len]; exact sz_le hz
  · exact g.elim
end
theorem mTup {x1} {es : List Expr} {pos : Pos} {da : DA} (h : MA X ct Z es da) : ME X ct Z (.Tuple es x1 pos) (dPn opTup da) := by
  refine ⟨pe_imp (pe_tupF h.pa) fun _ _ _ h => ?_⟩
  obtain ⟨m, ρ, μ, he, hh, g⟩ := tn_of h
  refine ⟨m, ρ, μ, he, hh, g.mono fun ws μ1 m1 H1 e1 h1 g1 vs r1 => ?_⟩
  obtain ⟨m2, μ2, ws2, r2, h2, g2⟩ := g1 vs r1
  unfold opTup at g2
  cases e : datas ws2 with
  | none => rw [e] at g2; exact g2.elim
  | some xs =>
    rw [e] at g2
    have ha := datas_all r2 e
    exact ⟨tup_len h2 ha g2, fun p o hd hp => (tup_new h2 ha g2 hd hp).2⟩
theorem mLst {es : List Expr} {pos : Pos} {own : Bool} {da : DA} (h : MA X ct Z es da) : ME X ct Z (.List es pos) (dPn (opLst own) da) := by
  refine ⟨pe_imp (pe_lst h.pa) fun _ _ _ h => ?_⟩
  obtain ⟨m, ρ, μ, he, hh, g⟩ := tn_of h
  refine ⟨m, ρ, μ, he, hh, g.mono fun ws μ1 m1 H1 e1 h1 g1 vs r1 => ?_⟩
  obtain ⟨m2, μ2, ws2, r2, h2, g2⟩ := g1 vs r1
  unfold opLst at g2
  cases e : datas ws2 with
  | none => rw [e] at g2; exact g2.elim
  | some xs =>
    rw [e] at g2
    have ha := datas_all r2 e
    exact ⟨lst_len h2 ha g2, fun p hp => (lst_new h2 ha g2 hp).2⟩
/-! ### letting go: from now on the thing is plain data -/
def frzW : W → Mem → Option (PyData × Mem)
  | .d x, μ => some (x, μ)
  | .r n, μ => match μ[n]? with
    | some (.l xs) => some (.list xs, μ.set n .dead)
    | some (.k kvs) => some (.dict kvs, μ.set n .dead)
    | _ => none
  | .s _, _ => none
def dFrz (da : DE) : DE := fun ρ μ => bnd (da ρ μ) fun w μ1 => match frzW w μ1 with
  | some (x, μ2) => .ok (.d x) μ2
  | none => .bad
theorem notlive_frz {m : Ms} {K : PySem.W.Frag} {H : Hp} {μ : Mem} (hh : RH K m H μ) {n : Nat} {a : Addr} (h : m.v[n]? = some (some [a])) : ¬ Live (m.del n) a := fun q => by
  rcases q with q | q
  · obtain ⟨l, hl, ha⟩ := fps_iff.mp q
    obtain ⟨i, hi⟩ := List.mem_iff_getElem?.mp hl
    unfold Ms.del at hi
    by_cases e : n = i
    · subst e
      have := (List.getElem?_eq_some_iff.mp h).1
      rw [List.getElem?_set_self this] at hi
      cases hi
    · rw [List.getElem?_set_ne e] at hi
      exact e (nodup_apart hh.nd h hi (by simp) ha)
  · exact (hh.hid a q).2 (vl_at h (by simp))
theorem frz_ok {K : PySem.W.Frag} {m : Ms} {H : Hp} {μ μ' : Mem} {w : W} {v : V} {x : PyData} (r : RV K m H w v) (hh : RH K m H μ) (e : frzW w μ = some (x, μ')) : ∃ m', Ext m H m' H ∧ RH K m' H μ' ∧ Dv K (Live m') H v x := by
  cases w with
  | d y => cases e; exact ⟨m, .refl _ _, hh, r⟩
  | r n =>
    simp only [frzW] at e
    split at e
    · rename_i xs q
      cases e
      obtain ⟨a, vs, h1, rfl, h2, h3⟩ := lst_at r hh q
      exact ⟨_, .letgo n, hh.letgo n, .lst ⟨h2, notlive_frz hh h1⟩ (h3.stay (Ext.letgo n).ks)⟩
    · rename_i kvs q
      cases e
      obtain ⟨l, a, h1, h2, rfl, a', h4, h5⟩ := ref_at r hh q (by intro z; cases z)
      cases h4
      cases h2
      refine ⟨_, .letgo n, hh.letgo n, ?_⟩
      obtain ⟨us, h6, h7⟩ := h5
      exact .dK (.inl h6) (notlive_frz hh h1) (DvK.stay' (Ext.letgo n).ks h7)
    · cases e
  | s ns => cases e
end
end Mok09

set_option autoImplicit false
namespace Mok09
open PySem PySem.Spec PyProof.Rows L2
section
variable {X : Cx} {ct : Ct} {Z : WX}
/-! ### statements -/
def sNext : DS := fun ρ μ => .nx ρ μ
def sSeq (a b : DS) : DS := fun ρ μ => match a ρ μ with
  | .nx ρ1 μ1 => b ρ1 μ1
  | r => r
def sRet (d : DE) : DS := fun ρ μ => match d ρ μ with
  | .ok w μ1 => .rt w μ1
  | .exc x μ1 => .exc x ρ μ1
  | .bad => .bad
def sRetN : DS := fun _ μ => .rt (.d .none) μ
def sSet (i : Nat) (d : DE) : DS := fun ρ μ => match d ρ μ with
  | .ok w μ1 => .nx (ρ.set i (some w)) μ1
  | .exc x μ1 => .exc x ρ μ1
  | .bad => .bad
def sExpr (d : DE) : DS := fun ρ μ => match d ρ μ with
  | .ok _ μ1 => .nx ρ μ1
  | .exc x μ1 => .exc x ρ μ1
  | .bad => .bad
def sIf (c : DT) (a b : DS) : DS := fun ρ μ => match c ρ μ with
  | .ok t μ1 => if t = true then a ρ μ1 else b ρ μ1
  | .exc x μ1 => .exc x ρ μ1
  | .bad => .bad
def sBreak : DS := fun ρ μ => .bk ρ μ
def sCont : DS := fun ρ μ => .ct ρ μ
theorem msNil : MSs X ct Z [] sNext := ⟨pss_imp pss_nil fun D σ H ⟨m, ρ, μ, he, hh, g⟩ => g m σ H (.refl _ _) hh he⟩
theorem msBreak {pos : Pos} : MS X ct Z (.Break pos) sBreak := ⟨ps_imp ps_break fun D σ H ⟨m, ρ, μ, he, hh, g⟩ => g m σ H (.refl _ _) hh he⟩
theorem msCons {st : Stmt} {rest : List Stmt} {a b : DS} (h1 : MS X ct Z st a) (h2 : MSs X ct Z rest b) : MSs X ct Z (st :: rest) (sSeq a b) := by
  refine ⟨pss_imp (pss_cons h1.ps h2.pss) fun D σ H h => ?_⟩
  obtain ⟨m, ρ, μ, he, hh, g⟩ := h
  refine ⟨m, ρ, μ, he, hh, ?_⟩
  unfold sSeq at g
  cases q : a ρ μ with
  | nx ρ1 μ1 =>
    rw [q] at g
    exact fun m' σ' H' e h' hρ => ⟨m', ρ1, μ1, hρ, h', Gs.ext g e⟩
  | rt w μ1 => rw [q] at g; exact g
  | bk ρ1 μ1 => rw [q] at g; exact g
  | ct ρ1 μ1 => rw [q] at g; exact g
  | exc x ρ1 μ1 => rw [q] at g; exact g
  | bad => rw [q] at g; exact g
theorem msOne {st : Stmt} {a : DS} (h1 : MS X ct Z st a) : MSs X ct Z [st] a := ⟨pss_one h1.ps⟩
theorem msRet {e : Expr} {pos : Pos} {d : DE} (h : ME X ct Z e d) : MS X ct Z (.Return (some e) pos) (sRet d) := by
  refine ⟨ps_imp (ps_ret h.pe) fun D σ H q => ?_⟩
  obtain ⟨m, ρ, μ, he, hh, g⟩ := q
  refine ⟨m, ρ, μ, he, hh, ?_⟩
  unfold sRet at g
  cases q : d ρ μ with
  | ok w μ1 => rw [q] at g; exact fun m' H' e h' v r => g m' H' v e h' r
  | exc x μ1 => rw [q] at g; exact fun m' H' cls dd e h' r => g m' σ H' cls dd e h' (he.ext e) r
  | bad => rw [q] at g; exact g
theorem tSet_of {i : Nat} {d : DE} {D : Ends} {σ : L2.St} {H : Hp} (q : tS X.K ct Z (sSet i d) D σ H) : tE X.K ct Z d σ H fun v H1 => D.nx (σ.set i (some v)) H1 := by
  obtain ⟨m, ρ, μ, he, hh, g⟩ := q
  refine ⟨m, ρ, μ, he, hh, ?_⟩
  unfold sSet at g
  cases q : d ρ μ with
  | ok w μ1 => rw [q] at g; exact fun m' H' e h' v r => g m' _ H' e h' ((he.ext e).set r i)
  | exc x μ1 => rw [q] at g; exact fun m' H' cls dd e h' r => g m' σ H' cls dd e h' (he.ext e) r
  | bad => rw [q] at g; exact g
theorem msSet {i : Nat} {x : Str} {e : Expr} {pos pos' : Pos} {d : DE} (hN : X.N.Nodup) (h : ME X ct Z e d) (hi : X.N[i]? = some x := by rfl) (hx : Loc X.env.scope x := by first | exact Or.inl rfl | exact Or.inr rfl)
    (hs : swapsWith e (some (.Name x pos')) pos.line X.env = pure false := by rfl) (hf : X.fn x = true ∨ X.env.scope.names.lookup x = some .local := by first | exact Or.inr rfl | exact Or.inl rfl) :
    MS X ct Z (.Assign [.Name x pos'] e pos) (sSet i d) :=
  ⟨ps_imp (ps_set hN hi hx h.pe hs hf) fun D σ H q => tSet_of q⟩
theorem msExpr {e : Expr} {pos : Pos} {d : DE} (h : ME X ct Z e d) (hs : swapsWith e none pos.line X.env = pure false := by rfl) : MS X ct Z (.Expr e pos) (sExpr d) := by
  refine ⟨ps_imp (ps_expr h.pe hs) fun D σ H q => ?_⟩
  obtain ⟨m, ρ, μ, he, hh, g⟩ := q
  refine ⟨m, ρ, μ, he, hh, ?_⟩
  unfold sExpr at g
  cases q : d ρ μ with
  | ok w μ1 => rw [q] at g; exact fun m' H' e h' v r => g m' σ H' e h' (he.ext e)
  | exc x μ1 => rw [q] at g; exact fun m' H' cls dd e h' r => g m' σ H' cls dd e h' (he.ext e) r
  | bad => rw [q] at g; exact g
theorem msIf {c : Expr} {a b : List Stmt} {pos : Pos} {dc : DT} {da db : DS} (hc : MT X ct Z c dc) (ha : MSs X ct Z a da) (hb : MSs X ct Z b db) : MS X ct Z (.If c a b pos) (sIf dc da db) := by
  refine ⟨ps_imp (ps_if hc.pt ha.pss hb.pss) fun D σ H q => ?_⟩
  obtain ⟨m, ρ, μ, he, hh, g⟩ := q
  refine ⟨m, ρ, μ, he, hh, ?_⟩
  unfold sIf at g
  cases q : dc ρ μ with
  | ok t μ1 =>
    rw [q] at g
    intro m' H' e h'
    cases t with
    | true => exact ⟨m', ρ, μ1, he.ext e, h', Gs.ext g e⟩
    | false => exact ⟨m', ρ, μ1, he.ext e, h', Gs.ext g e⟩
  | exc x μ1 => rw [q] at g; exact fun m' H' cls dd e h' r => g m' σ H' cls dd e h' (he.ext e) r
  | bad => rw [q] at g; exact g
/-! ### targets -/
/-- how a target takes plain data; vs: the slots that it writes -/
def tG (K : PySem.W.Frag) (g : PyData → Env → Option Env) (vs : List Nat) : TG := fun v σ H Q => ∃ m ρ ρ' x, EnvR K m H ρ σ ∧ Dv K (Live m) H v x ∧ g x ρ = some ρ' ∧
  ∀ σ', EnvR K m H ρ' σ' → σ'.length = σ.length → (∀ j, j ∉ vs → σ'[j]? = σ[j]?) → Q σ' H
def tGs (K : PySem.W.Frag) (g : List PyData → Env → Option Env) (vs : List Nat) : TGs := fun us σ H Q => ∃ m ρ ρ' xs, EnvR K m H ρ σ ∧ DvAll K (Live m) H us xs ∧ g xs ρ = some ρ' ∧
  ∀ σ', EnvR K m H ρ' σ' → σ'.length = σ.length → (∀ j, j ∉ vs → σ'[j]? = σ[j]?) → Q σ' H
structure MG (X : Cx) (tg : Expr) (g : PyData → Env → Option Env) (vs : List Nat) : Prop where
  pg : PG X tg (tG X.K g vs)
structure MGs (X : Cx) (tgs : List Expr) (g : List PyData → Env → Option Env) (vs : List Nat) : Prop where
  pgs : PGs X tgs (tGs X.K g vs)
theorem pg_imp {tg : Expr} {t t' : TG} (h : PG X tg t) (k : ∀ v σ H Q, t' v σ H Q → t v σ H Q) : PG X tg t' := ⟨fun pins s σ H v u Q I r q => h.run pins s σ H v u Q I r (k v σ H Q q)⟩
theorem pgs_imp {tg : List Expr} {t t' : TGs} (h : PGs X tg t) (k : ∀ v σ H Q, t' v σ H Q → t v σ H Q) : PGs X tg t' := ⟨fun pins s σ H v u Q I r q => h.run pins s σ H v u Q I r (k v σ H Q q)⟩
def gN (i : Nat) : PyData → Env → Option Env := fun x ρ => some (ρ.set i (some (.d x)))
theorem mgN (i : Nat) {x : Str} {pos : Pos} (hN : X.N.Nodup) (hi : X.N[i]? = some x := by rfl) (hx : Loc X.env.scope x := by first | exact Or.inl rfl | exact Or.inr rfl) (hf : X.fn x = true ∨ X.env.scope.names.lookup x = some .local := by first | exact Or.inl rfl | exact Or.inr rfl) : MG X (.Name x pos) (gN i) [i] := by
  refine ⟨pg_imp (pg_name hN hi hx hf) fun v σ H Q h => ?_⟩
  obtain ⟨m, ρ, ρ', x, he, r, e, k⟩ := h
  cases e
  exact k _ (he.set (w := .d x) r i) (by simp) fun j hj => List.getElem?_set_ne fun z => hj (by simp [z])
def gNil' : List PyData → Env → Option Env
  | [], ρ => some ρ
  | _ :: _, _ => none
def gCons' (g : PyData → Env → Option Env) (gs : List PyData → Env → Option Env) : List PyData → Env → Option Env
  | [], _ => none
  | x :: xs, ρ => (g x ρ).bind (gs xs)
theorem mgsNil : MGs X [] gNil' [] := by
  refine ⟨pgs_imp pgs_nil fun us σ H Q h => ?_⟩
  obtain ⟨m, ρ, ρ', xs, he, r, e, k⟩ := h
  cases r with
  | nil =>
    cases e
    exact ⟨rfl, k σ he rfl fun _ _ => rfl⟩
  | cons _ _ => cases e
theorem mgsCons {e : Expr} {es : List Expr} {g : PyData → Env → Option Env} {gs : List PyData → Env → Option Env} {vs us : List Nat} (h1 : MG X e g vs) (h2 : MGs X es gs us)
    (hs : (assignEach (e :: es) X.env).map (·.2) = assign e X.env :: (assignEach es X.env).map (·.2) := by rfl) : MGs X (e :: es) (gCons' g gs) (vs ++ us) := by
  refine ⟨pgs_imp (pgs_cons h1.pg h2.pgs hs) fun ys σ H Q h => ?_⟩
  obtain ⟨m, ρ, ρ', xs, he, r, e, k⟩ := h
  cases r with
  | nil => cases e
  | cons a b =>
    rename_i v vr x xr
    simp only [gCons', Option.bind_eq_some_iff] at e
    obtain ⟨ρ1, e1, e2⟩ := e
    refine ⟨v, vr, rfl, m, ρ, ρ1, _, he, a, e1, fun σ1 he1 l1 q1 => ?_⟩
    refine ⟨m, ρ1, ρ', _, he1, b, e2, fun σ2 he2 l2 q2 => ?_⟩
    exact k σ2 he2 (l2.trans l1) fun j hj => by
      rw [List.mem_append, not_or] at hj
      rw [q2 j hj.2, q1 j hj.1]
def gT (n : Nat) (gs : List PyData → Env → Option Env) : PyData → Env → Option Env
  | .tuple xs, ρ => if xs.length = n then gs xs ρ else none
  | _, _ => none
theorem mgT {es : List Expr} {k n : Nat} {pos : Pos} {gs : List PyData → Env → Option Env} {vs : List Nat} (hc : X.calm = true) (h : MGs X es gs vs) (hn : (assignEach es X.env).length = n := by rfl)
    (hst : (assignEach es X.env).findIdx? (·.1) = none := by rfl) : MG X (.Tuple es k pos) (gT n gs) vs := by
  refine ⟨pg_imp (pg_tup hc h.pgs hn hst) fun v σ H Q h => ?_⟩
  obtain ⟨m, ρ, ρ', x, he, r, e, k⟩ := h
  cases r with
  | tup hq ha =>
    rename_i a us xs
    simp only [gT] at e
    split at e
    · rename_i hl
      exact ⟨a, us, rfl, hq.sq, by rw [ha.len, hl], m, ρ, ρ', xs, he, ha, e, k⟩
    · cases e
  | _ => cases e
/-- target = value -/
def sAsg (g : PyData → Env → Option Env) (d : DE) : DS := fun ρ μ => match d ρ μ with
  | .ok (.d x) μ1 => match g x ρ with
    | some ρ1 => .nx ρ1 μ1
    | none => .bad
  | .ok _ _ => .bad
  | .exc x μ1 => .exc x ρ μ1
  | .bad => .bad
theorem msAsg {tg e : Expr} {pos : Pos} {g : PyData → Env → Option Env} {vs : List Nat} {d : DE} (h : ME X ct Z e d) (hg : MG X tg g vs) (hs : swapsWithSole [tg] e pos.line X.env = pure false := by rfl) (hw : swappedStores [tg] e X.env = pure none := by rfl)
    (h1 : (assignEach [tg] X.env).map (·.2) = [assign tg X.env] := by rfl) : MS X ct Z (.Assign [tg] e pos) (sAsg g d) := by
  refine ⟨ps_imp (ps_asg h.pe hg.pg hs hw h1) fun D σ H z => ?_⟩
  obtain ⟨m, ρ, μ, he, hh, gg⟩ := z
  refine ⟨m, ρ, μ, he, hh, ?_⟩
  unfold sAsg at gg
  cases ed : d ρ μ with
  | ok w μ1 =>
    rw [ed] at gg
    cases w with
    | d x =>
      intro m' H' e h' v r
      dsimp only at gg
      split at gg
      · rename_i ρ1 eg
        exact ⟨m', ρ, ρ1, x, he.ext e, r, eg, fun σ' he' _ _ => gg m' σ' H' e h' he'⟩
      · exact gg.elim
    | r n => exact gg.elim
    | s n => exact gg.elim
  | exc x μ1 => rw [ed] at gg; exact fun m' H' cls dd e h' r => gg m' σ H' cls dd e h' (he.ext e) r
  | bad => rw [ed] at gg; exact gg
/-- a, b = x, y -/
def sPar (i j : Nat) (d : DA) : DS := fun ρ μ => match d ρ μ with
  | .ok [a, b] μ1 => .nx ((ρ.set i (some a)).set j (some b)) μ1
  | .ok _ _ => .bad
  | .exc x μ1 => .exc x ρ μ1
  | .bad => .bad
theorem msPar {i j : Nat} {x y : Str} {a b : Expr} {px py pt pt2 pos : Pos} {kt k2 : Nat} {d : DA} (hc : X.calm = true) (hN : X.N.Nodup) (h : MA X ct Z [a, b] d) (hi : X.N[i]? = some x := by rfl) (hj : X.N[j]? = some y := by rfl) (hij : i ≠ j := by decide)
    (hx : X.env.scope.names.lookup x = some .local := by rfl) (hy : X.env.scope.names.lookup y = some .local := by rfl) (hw : swappedStores [.Tuple [.Name x px, .Name y py] kt pt] (.Tuple [a, b] k2 pt2) X.env = pure (some [x, y]) := by rfl)
    : MS X ct Z (.Assign [.Tuple [.Name x px, .Name y py] kt pt] (.Tuple [a, b] k2 pt2) pos) (sPar i j d) := by
  refine ⟨ps_imp (ps_par hc hN hi hj hij hx hy h.pa hw) fun D σ H q => ?_⟩
  obtain ⟨m, ρ, μ, he, hh, g⟩ := q
  refine ⟨m, ρ, μ, he, hh, ?_⟩
  unfold sPar at g
  cases ed : d ρ μ with
  | ok ws μ1 =>
    rw [ed] at g
    intro m' H' e h' vs r
    cases r with
    | nil => exact g.elim
    | cons r1 t =>
      cases t with
      | nil => exact g.elim
      | cons r2 t =>
        cases t with
        | nil => exact ⟨_, _, rfl, g m' _ H' e h' (((he.ext e).set r1 i).set r2 j)⟩
        | cons _ _ => exact g.elim
  | exc x μ1 => rw [ed] at g; exact fun m' H' cls dd e h' r => g m' σ H' cls dd e h' (he.ext e) r
  | bad => rw [ed] at g; exact g
/-! ### while -/
def whl (c : DT) (b : DS) : Nat → DS
  | 0, _, _ => .bad
  | n + 1, ρ, μ => match c ρ μ with
    | .ok true μ1 => match b ρ μ1 with
      | .nx ρ2 μ2 => whl c b n ρ2 μ2
      | .ct ρ2 μ2 => whl c b n ρ2 μ2
      | .bk ρ2 μ2 => .nx ρ2 μ2
      | r => r
    | .ok false μ1 => .nx ρ μ1
    | .exc x μ1 => .exc x ρ μ1
    | .bad => .bad
theorem msWhile {c : Expr} {body : List Stmt} {pos : Pos} {dc : DT} {db : DS} (n : Nat) (hp : PassesOwn (model X.prog X.w) X.A X.env X.xe) (hc : MT X ct Z c dc) (hb : MSs X ct Z body db) : MS X ct Z (.While c body [] pos) (whl dc db n) := by
  refine ⟨ps_imp (ps_while hp hc.pt hb.pss) fun D σ H q => ?_⟩
  refine ⟨fun k σ' H' => ∃ m ρ μ, EnvR X.K m H' ρ σ' ∧ RH X.K m H' μ ∧ Gs X.K ct Z D m H' (whl dc db k ρ μ), ⟨n, q⟩, fun k σ' H' h => ?_⟩
  obtain ⟨m, ρ, μ, he, hh, g⟩ := h
  cases k with
  | zero => exact g.elim
  | succ k =>
    refine ⟨m, ρ, μ, he, hh, ?_⟩
    simp only [whl] at g
    cases q : dc ρ μ with
    | ok t μ1 =>
      rw [q] at g
      intro m1 H1 e1 h1
      cases t with
      | true =>
        refine iteT ⟨fun σ2 H2 => ∃ m ρ μ, EnvR X.K m H2 ρ σ2 ∧ RH X.K m H2 μ ∧ Gs X.K ct Z D m H2 (whl dc db k ρ μ), fun σ2 H2 z => ⟨k, Nat.lt_succ_self _, z⟩, m1, ρ, μ1, he.ext e1, h1, ?_⟩
        dsimp only at g
        cases q2 : db ρ μ1 with
        | nx ρ2 μ2 => rw [q2] at g; exact fun m' σ' H' e h' hρ => ⟨m', ρ2, μ2, hρ, h', Gs.ext g (e1.trans e)⟩
        | ct ρ2 μ2 => rw [q2] at g; exact fun m' σ' H' e h' hρ => ⟨m', ρ2, μ2, hρ, h', Gs.ext g (e1.trans e)⟩
        | bk ρ2 μ2 => rw [q2] at g; exact fun m' σ' H' e h' hρ => g m' σ' H' (e1.trans e) h' hρ
        | rt w μ2 => rw [q2] at g; exact fun m' H' v e h' r => g m' H' v (e1.trans e) h' r
        | exc x ρ2 μ2 => rw [q2] at g; exact fun m' σ' H' cls d e h' hρ r => g m' σ' H' cls d (e1.trans e) h' hρ r
        | bad => rw [q2] at g; exact g
      | false => exact iteF (g m1 σ' H1 e1 h1 (he.ext e1))
    | exc x μ1 => rw [q] at g; exact fun m' H' cls dd e h' r => g m' σ' H' cls dd e h' (he.ext e) r
    | bad => rw [q] at g; exact g
end
end Mok09

set_option autoImplicit false
namespace Mok09
open PySem PySem.Spec PyProof.Rows L2
section
variable {X : Cx} {ct : Ct} {Z : WX}
/-! ### what is walked -/
abbrev Src := List PyData × Option Nat
/-- the thing that is walked stands as it was -/
def live (s : Src) (μ : Mem) : Prop := match s.2 with
  | none => True
  | some n => μ[n]? = some (.l s.1)
structure Srv (K : PySem.W.Frag) (J : It) (m0 : Ms) (H0 : Hp) (s : Src) : Prop where
  stop : ∀ m H μ, Exw m0 H0 m H → RH K m H μ → live s μ → J.stop s.1.length H
  go : ∀ i m H μ, i < s.1.length → Exw m0 H0 m H → RH K m H μ → live s μ → J.go i H
  yld : ∀ i m H μ x H', Exw m0 H0 m H → RH K m H μ → live s μ → i < s.1.length → J.yld i H x H' → ∃ d, s.1[i]? = some d ∧ Dv K (Live m) H' x d ∧ Ext m H m H' ∧ RH K m H' μ
theorem Srv.later {K : PySem.W.Frag} {J : It} {m0 m1 : Ms} {H0 H1 : Hp} {s : Src} (v : Srv K J m0 H0 s) (e : Exw m0 H0 m1 H1) : Srv K J m1 H1 s :=
  ⟨fun m H μ e' => v.stop m H μ (e.trans e'), fun i m H μ hi e' => v.go i m H μ hi (e.trans e'), fun i m H μ x H' e' => v.yld i m H μ x H' (e.trans e')⟩
abbrev DI := Env → Mem → Res Src
def tI (K : PySem.W.Frag) (ct : Ct) (Z : WX) (d : DI) : TI := fun σ H R => ∃ m ρ μ, EnvR K m H ρ σ ∧ RH K m H μ ∧ Gd K ct Z m σ H (d ρ μ) (fun s μ' m' H' => ∀ J, Srv K J m' H' s → R J H')
structure MI (X : Cx) (ct : Ct) (Z : WX) (tg it : Expr) (d : DI) : Prop where
  pi : PI X tg it (tI X.K ct Z d)
theorem pi_imp {tg it : Expr} {t t' : TI} (h : PI X tg it t) (k : ∀ σ H Q, t' σ H Q → t σ H Q) : PI X tg it t' := ⟨fun pins s σ H Q I q => h.run pins s σ H Q I (k σ H Q q)⟩
theorem pi_or {tg it : Expr} {t t' : TI} (h : PI X tg it t) (h' : PI X tg it t') : PI X tg it (fun σ H Q => t σ H Q ∨ t' σ H Q) := ⟨fun pins s σ H Q I q => q.elim (h.run pins s σ H Q I) (h'.run pins s σ H Q I)⟩
/-- any list or tuple -/
def iV : W → Mem → Res Src
  | .d (.list xs), μ => .ok (xs, none) μ
  | .d (.tuple xs), μ => .ok (xs, none) μ
  | .r n, μ => match μ[n]? with
    | some (.l xs) => .ok (xs, some n) μ
    | _ => .bad
  | _, _ => .bad
def dI (f : W → Mem → Res Src) (d : DE) : DI := fun ρ μ => bnd (d ρ μ) f
theorem srv_lst {K : PySem.W.Frag} {a : Addr} {m : Ms} {H : Hp} {us : List V} {xs : List PyData} (hq : LsV (Live m) H a us) (ha : DvAll K (Live m) H us xs) : Srv K (Itl K a) m H (xs, none) where
  stop := fun m' H' μ e hh _ => ⟨us, (hq.stay e.ks).sq, Nat.le_of_eq ha.len⟩
  go := fun i m' H' μ hi e hh _ => ⟨us, us[i]'(by rw [ha.len]; exact hi), (hq.stay e.ks).sq, List.getElem?_eq_getElem _⟩
  yld := fun i m' H' μ x H2 e hh _ hi hy => by
    obtain ⟨rfl, h⟩ := hy
    obtain ⟨d, h1, h2⟩ := (ha.stay e.ks).get' (h us (hq.stay e.ks).sq)
    exact ⟨d, h1, h2, .refl _ _, hh⟩
theorem srv_ref {K : PySem.W.Frag} {a : Addr} {n : Nat} {m : Ms} {H : Hp} {xs : List PyData} (r : RV K m H (.r n) (.ref a)) : Srv K (Itl K a) m H (xs, some n) where
  stop := fun m' H' μ e hh lv => by
    obtain ⟨b, us, h0, h1, h2, h3⟩ := lst_at (r.extw e) hh lv
    cases h1
    exact ⟨us, .of h2, Nat.le_of_eq h3.len⟩
  go := fun i m' H' μ hi e hh lv => by
    obtain ⟨b, us, h0, h1, h2, h3⟩ := lst_at (r.extw e) hh lv
    cases h1
    exact ⟨us, us[i]'(by rw [h3.len]; exact hi), .of h2, List.getElem?_eq_getElem _⟩
  yld := fun i m' H' μ x H2 e hh lv hi hy => by
    obtain ⟨b, us, h0, h1, h2, h3⟩ := lst_at (r.extw e) hh lv
    cases h1
    obtain ⟨rfl, h⟩ := hy
    obtain ⟨d, h4, h5⟩ := h3.get' (h us (.of h2))
    exact ⟨d, h4, h5, .refl _ _, hh⟩
theorem srv_tup {K : PySem.W.Frag} {a : Addr} {m : Ms} {H : Hp} {us : List V} {xs : List PyData} (hq : SqT K H a us) (ha : DvAll K (Live m) H us xs) : Srv K (Itt K a) m H (xs, none) where
  stop := fun m' H' μ e hh _ => ⟨us, sqT_stay e.ks hq, Nat.le_of_eq ha.len⟩
  go := fun i m' H' μ hi e hh _ => ⟨us, us[i]'(by rw [ha.len]; exact hi), sqT_stay e.ks hq, List.getElem?_eq_getElem _⟩
  yld := fun i m' H' μ x H2 e hh _ hi hy => by
    obtain ⟨rfl, h⟩ := hy
    obtain ⟨d, h1, h2⟩ := (ha.stay e.ks).get' (h us (sqT_stay e.ks hq))
    exact ⟨d, h1, h2, .refl _ _, hh⟩
/-- the value that comes, asked twice the same -/
theorem miV {tg e : Expr} {d : DE} (h : ME X ct Z e d) : MI X ct Z tg e (dI iV d) := by
  refine ⟨pi_imp (pi_or (pi_list h.pe) (pi_tup h.pe)) fun σ H R q => ?_⟩
  obtain ⟨m, ρ, μ, he, hh, g⟩ := q
  have g := Gd.bnd g
  cases q : d ρ μ with
  | bad => rw [q] at g; exact g.elim
  | exc x μ1 =>
    rw [q] at g
    exact .inl ⟨m, ρ, μ, he, hh, by rw [q]; exact g⟩
  | ok w μ1 =>
    rw [q] at g
    by_cases ht : ∃ xs, w = .d (.tuple xs)
    · obtain ⟨xs, rfl⟩ := ht
      refine .inr ⟨m, ρ, μ, he, hh, ?_⟩
      rw [q]
      intro m1 H1 e1 h1 v r1
      have g1 := g m1 H1 e1 h1
      cases r1 with
      | tup hq ha => exact ⟨_, rfl, ⟨_, hq.sq⟩, g1 m1 H1 (.refl _ _) h1 _ (srv_tup hq.sq ha)⟩
    · refine .inl ⟨m, ρ, μ, he, hh, ?_⟩
      rw [q]
      intro m1 H1 e1 h1 v r1
      have g1 := g m1 H1 e1 h1
      cases w with
      | s n => exact g1.elim
      | r n =>
        simp only [iV] at g1
        split at g1
        · rename_i xs hx
          obtain ⟨a, us, h3, rfl, h4, h5⟩ := lst_at r1 h1 hx
          exact ⟨a, rfl, ⟨_, .of h4⟩, g1 m1 H1 (.refl _ _) h1 _ (srv_ref r1)⟩
        · exact g1.elim
      | d x =>
        cases x with
        | list xs =>
          cases r1 with
          | lst hq ha => exact ⟨_, rfl, ⟨_, hq.sq⟩, g1 m1 H1 (.refl _ _) h1 _ (srv_lst hq ha)⟩
        | tuple xs => exact (ht ⟨xs, rfl⟩).elim
        | _ => exact g1.elim
/-- range(n), range(a, b) -/
def intsOf (lo : Int) (n : Nat) : List PyData := (List.range n).map fun i => .int (lo + (i : Nat))
theorem ints_at {lo : Int} {n i : Nat} (h : i < n) : (intsOf lo n)[i]? = some (.int (lo + (i : Nat))) := by simp [intsOf, h]
@[simp] theorem ints_len {lo : Int} {n : Nat} : (intsOf lo n).length = n := by simp [intsOf]
theorem srv_rng {K : PySem.W.Frag} {lo : Int} {n : Nat} {m : Ms} {H : Hp} : Srv K (Itr lo n) m H (intsOf lo n, none) where
  stop := fun m' H' μ e hh _ => Nat.le_of_eq ints_len.symm
  go := fun i m' H' μ hi e hh _ => by
    have h : i < (intsOf lo n).length := hi
    rw [ints_len] at h
    exact h
  yld := fun i m' H' μ x H2 e hh _ hi hy => by
    obtain ⟨rfl, rfl⟩ := hy
    have h : i < (intsOf lo n).length := hi
    rw [ints_len] at h
    exact ⟨_, ints_at h, .int _, .refl _ _, hh⟩
noncomputable def inR (i : Int) : Bool := @decide (-(2 ^ 62) ≤ i) (Classical.propDecidable _) && @decide (i < 2 ^ 62) (Classical.propDecidable _)
theorem inR_lit {i : Int} (h : 0 ≤ i ∧ i ≤ 1000000) : inR i = true := by
  simp only [inR, Bool.and_eq_true, decide_eq_true_eq]
  omega
theorem inR_le {i : Int} (h : inR i = true) : -(2 ^ 62) ≤ i ∧ i < 2 ^ 62 := by
  simp only [inR, Bool.and_eq_true, decide_eq_true_eq] at h
  exact h
noncomputable def iR1 : List W → Mem → Res Src
  | [.d (.int j)], μ => if inR j = true then .ok (intsOf 0 j.toNat, none) μ else .bad
  | _, _ => .bad
def dIs (f : List W → Mem → Res Src) (d : DA) : DI := fun ρ μ => bnd (d ρ μ) f
theorem miR1 {tg a : Expr} {p pos : Pos} {da : DA} (h : MA X ct Z [a] da) (hm : X.mg "range" = none) (hg : Gl X "range" := by rfl) (hs : starEach [a] X.env = [(false, eval a X.env)] := by rfl) : MI X ct Z tg (.Call (.Name "range" p) [a] [] pos) (dIs iR1 da) := by
  refine ⟨pi_imp (pi_range1 hg hm h.pa hs) fun σ H R q => ?_⟩
  obtain ⟨m, ρ, μ, he, hh, g⟩ := q
  refine ⟨m, ρ, μ, he, hh, (Gd.bnd g).mono fun ws μ1 m1 H1 e1 h1 g1 vs r1 => ?_⟩
  unfold iR1 at g1
  split at g1
  · cases r1 with
    | cons a b =>
      cases b
      cases a
      split at g1
      · rename_i hz
        exact ⟨_, rfl, (inR_le hz).1, (inR_le hz).2, g1 m1 H1 (.refl _ _) h1 _ srv_rng⟩
      · exact g1.elim
  · exact g1.elim
noncomputable def iR2 : List W → Mem → Res Src
  | [.d (.int i), .d (.int j)], μ => if (inR i && inR j) = true then .ok (intsOf i (j - i).toNat, none) μ else .bad
  | _, _ => .bad
/-! ### for -/
open Classical in
noncomputable def forL (s : Src) (g : PyData → Env → Option Env) (b : DS) : List PyData → DS
  | [], ρ, μ => if live s μ then .nx ρ μ else .bad
  | x :: r, ρ, μ => if live s μ then (match g x ρ with
    | none => .bad
    | some ρ1 => match b ρ1 μ with
      | .nx ρ2 μ2 => forL s g b r ρ2 μ2
      | .ct ρ2 μ2 => forL s g b r ρ2 μ2
      | .bk ρ2 μ2 => .nx ρ2 μ2
      | o => o) else .bad
noncomputable def sFor (d : DI) (g : PyData → Env → Option Env) (b : DS) : DS := fun ρ μ => match d ρ μ with
  | .ok s μ1 => forL s g b s.1 ρ μ1
  | .exc x μ1 => .exc x ρ μ1
  | .bad => .bad
theorem msFor {tg iter : Expr} {body : List Stmt} {pos : Pos} {di : DI} {g : PyData → Env → Option Env} {vs : List Nat} {db : DS} (hp : PassesOwn (model X.prog X.w) X.A X.env X.xe) (hc : X.calm = true) (hi : MI X ct Z tg iter di) (hg : MG X tg g vs) (hb : MSs X ct Z body db)
    (hs : ∀ x, foldedSetIterable iter X.env x = pure x := by intro _; rfl) : MS X ct Z (.For tg iter body [] pos) (sFor di g db) := by
  refine ⟨ps_imp (ps_for hp hc hi.pi hg.pg hb.pss hs) fun D σ H q => ?_⟩
  obtain ⟨m, ρ, μ, he, hh, gg⟩ := q
  refine ⟨m, ρ, μ, he, hh, ?_⟩
  unfold sFor at gg
  cases ed : di ρ μ with
  | ok s μ1 =>
    rw [ed] at gg
    intro m1 H1 e1 h1 J sv
    refine ⟨fun i k σ' H' => i + k = s.1.length ∧ ∃ m' ρ' μ', Ext m1 H1 m' H' ∧ EnvR X.K m' H' ρ' σ' ∧ RH X.K m' H' μ' ∧ Gs X.K ct Z D m' H' (forL s g db (s.1.drop i) ρ' μ'), ⟨s.1.length, by omega, m1, ρ, μ1, .refl _ _, he.ext e1, h1, by simpa using Gs.ext gg e1⟩, fun i k σ' H' h => ?_⟩
    obtain ⟨hik, m', ρ', μ', e', he', hh', g'⟩ := h
    by_cases hlt : i < s.1.length
    · refine .inr ?_
      rw [List.drop_eq_getElem_cons hlt] at g'
      simp only [forL] at g'
      split at g'
      · rename_i lv
        refine ⟨sv.go i m' H' μ' hlt e'.w hh' lv, fun σ2 H2 => ∃ m2 ρ2 μ2, Ext m1 H1 m2 H2 ∧ EnvR X.K m2 H2 ρ2 σ2 ∧ RH X.K m2 H2 μ2 ∧ Gs X.K ct Z D m2 H2 (forL s g db (s.1.drop (i + 1)) ρ2 μ2), fun σ2 H2 z => ⟨k - 1, by omega, by omega, z⟩, fun x H2 hy => ?_⟩
        obtain ⟨d, hd, rd, ex, hh2⟩ := sv.yld i m' H' μ' x H2 e'.w hh' lv hlt hy
        rw [List.getElem?_eq_getElem hlt] at hd
        cases hd
        split at g'
        · exact g'.elim
        · rename_i ρ1 eg
          refine ⟨m', ρ', ρ1, _, he'.ext ex, rd, eg, fun σ3 he3 _ _ => ⟨m', ρ1, μ', he3, hh2, ?_⟩⟩
          cases eb : db ρ1 μ' with
          | nx ρ2 μ2 => rw [eb] at g'; exact fun m4 σ4 H4 e4 h4 hρ => ⟨m4, ρ2, μ2, (e'.trans ex).trans e4, hρ, h4, Gs.ext g' (ex.trans e4)⟩
          | ct ρ2 μ2 => rw [eb] at g'; exact fun m4 σ4 H4 e4 h4 hρ => ⟨m4, ρ2, μ2, (e'.trans ex).trans e4, hρ, h4, Gs.ext g' (ex.trans e4)⟩
          | bk ρ2 μ2 => rw [eb] at g'; exact fun m4 σ4 H4 e4 h4 hρ => g' m4 σ4 H4 (ex.trans e4) h4 hρ
          | rt w μ2 => rw [eb] at g'; exact fun m4 H4 v e4 h4 r => g' m4 H4 v (ex.trans e4) h4 r
          | exc x ρ2 μ2 => rw [eb] at g'; exact fun m4 σ4 H4 cls d e4 h4 hρ r => g' m4 σ4 H4 cls d (ex.trans e4) h4 hρ r
          | bad => rw [eb] at g'; exact g'
      · exact g'.elim
    · refine .inl ?_
      have hi : i = s.1.length := by omega
      subst hi
      rw [List.drop_length] at g'
      simp only [forL] at g'
      split at g'
      · rename_i lv
        exact ⟨sv.stop m' H' μ' e'.w hh' lv, g' m' σ' H' (.refl _ _) hh' he'⟩
      · exact g'.elim
  | exc x μ1 => rw [ed] at gg; exact fun m' H' cls dd e h' r => gg m' σ H' cls dd e h' (he.ext e) r
  | bad => rw [ed] at gg; exact gg
/-! ### list comprehensions -/
def noX {α : Type} : Res α → Res α
  | .ok a μ => .ok a μ
  | _ => .bad
def wipeE (ρ : Env) : List Nat → Env
  | [] => ρ
  | v :: vs => (wipeE ρ vs).set v none
theorem EnvR.wipe {K : PySem.W.Frag} {m : Ms} {H : Hp} {ρ : Env} {σ : L2.St} (h : EnvR K m H ρ σ) : ∀ vs : List Nat, EnvR K m H (wipeE ρ vs) (wipe σ vs)
  | [] => h
  | v :: vs => (h.wipe vs).forget v none
theorem wipe_at : ∀ (vs : List Nat) (σ : L2.St) (j : Nat), (wipe σ vs)[j]? = if j ∈ vs then (if j < σ.length then some none else none) else σ[j]?
  | [], σ, j => by simp [wipe]
  | v :: vs, σ, j => by
    unfold wipe
    rw [List.getElem?_set]
    by_cases e : v = j
    · subst e
      rw [if_pos rfl, wipe_length]
      simp
    · rw [if_neg e, wipe_at vs σ j]
      have : (j ∈ v :: vs) ↔ j ∈ vs := by
        rw [List.mem_cons]
        exact ⟨fun z => z.elim (fun z => (e z.symm).elim) id, .inr⟩
      simp only [this]
theorem wipe_same {σ2 σ : L2.St} {vs us : List Nat} (hsub : ∀ j ∈ us, j ∈ vs) (hl : σ2.length = (wipe σ vs).length) (h : ∀ j, j ∉ us → σ2[j]? = (wipe σ vs)[j]?) : wipe σ2 vs = wipe σ vs := by
  apply List.ext_getElem?
  intro j
  rw [wipe_at]
  by_cases hj : j ∈ vs
  · rw [if_pos hj, wipe_at, if_pos hj, hl, wipe_length]
  · rw [if_neg hj, h j fun z => hj (hsub j z)]
/-- each turn of a comprehension: its test, its element -/
def lcOne (tt : DT) (te : DE) (ρ : Env) (acc : List PyData) (μ : Mem) : Res (List PyData) :=
  bnd (noX (tt ρ μ)) fun b μ1 => if b = true then bnd (noX (te ρ μ1)) fun w μ2 => match w with
    | .d y => if acc.length < sizeLine then .ok (acc ++ [y]) μ2 else .bad
    | _ => .bad else .ok acc μ1
open Classical in
noncomputable def lcL (s : Src) (g : PyData → Env → Option Env) (f : Env → List PyData → Mem → Res (List PyData)) (ρ : Env) : List PyData → List PyData → Mem → Res (List PyData)
  | [], acc, μ => if live s μ then .ok acc μ else .bad
  | x :: r, acc, μ => if live s μ then (match g x ρ with
    | none => .bad
    | some ρ1 => bnd (f ρ1 acc μ) fun acc1 μ1 => lcL s g f ρ r acc1 μ1) else .bad
/-- the list that was made, by place if it is to be written -/
def lcEnd (own : Bool) (acc : List PyData) (μ : Mem) : Res W := if own = true then .ok (.r μ.length) (μ ++ [.l acc]) else .ok (.d (.list acc)) μ
noncomputable def dLc (own : Bool) (di : DI) (g : PyData → Env → Option Env) (tt : DT) (te : DE) (vs : List Nat) : DE := fun ρ μ => bnd (di ρ μ) fun s μ1 =>
  bnd (lcL s g (lcOne tt te) (wipeE ρ vs) s.1 [] μ1) (lcEnd own)
/-- the list that is being made: nobody sees it -/
structure Hid (K : PySem.W.Frag) (D : Addr) (h0 : List Addr) (m : Ms) (H : Hp) (acc : List PyData) : Prop where
  hid : m.h = D :: h0
  at_ : ∃ vs, H D = some (.lst vs) ∧ DvAll K (Live m) H vs acc
/-- behind a comprehension's walk -/
def PL (K : PySem.W.Frag) (D : Addr) (h0 : List Addr) (N : Ms → Hp → List PyData → Mem → Prop) : List PyData → Mem → Ms → Hp → Prop := fun acc μ m H => N m H acc μ
abbrev ZF : WX := fun _ _ _ _ => False
/-- the list grows -/
theorem hid_grow {K : PySem.W.Frag} {D : Addr} {h0 : List Addr} {m : Ms} {H : Hp} {acc : List PyData} {μ : Mem} {y : V} {x : PyData} (h : Hid K D h0 m H acc) (hh : RH K m H μ) (r : Dv K (Live m) H y x) :
    ∃ vs, H D = some (.lst vs) ∧ vs.length = acc.length ∧ Hid K D h0 m (upd H D (.lst (vs ++ [y]))) (acc ++ [x]) ∧ RH K m (upd H D (.lst (vs ++ [y]))) μ ∧ Exw m H m (upd H D (.lst (vs ++ [y]))) := by
  obtain ⟨vs, h1, h2⟩ := h.at_
  have hm : D ∈ m.h := by rw [h.hid]; simp
  have e := Exw.puth (u := .lst (vs ++ [y])) hm h1 (show Chg (.lst vs) from trivial)
  exact ⟨vs, h1, h2.len, ⟨h.hid, ⟨_, upd_same, (h2.app (.one r)).stay e.ks⟩⟩, hh.puth hm h1 (show Chg (.lst vs) from trivial), e⟩
theorem hid_ext {K : PySem.W.Frag} {D : Addr} {h0 : List Addr} {m m' : Ms} {H H' : Hp} {acc : List PyData} {μ : Mem} (h : Hid K D h0 m H acc) (hh : RH K m H μ) (e : Ext m H m' H') : Hid K D h0 m' H' acc := by
  obtain ⟨vs, h1, h2⟩ := h.at_
  have hm : D ∈ m.h := by rw [h.hid]; simp
  exact ⟨e.hid.trans h.hid, ⟨vs, e.keep D _ h1 fun z => ((hh.hid D hm).2 z).elim, h2.stay e.ks⟩⟩
/-- what stands of the outer ones -/
structure Out (m0 : Ms) (H0 : Hp) (D : Addr) (m : Ms) (H : Hp) : Prop where
  pre : ∀ n : Nat, ∀ l, m0.v[n]? = some (some l) → m.v[n]? = some none ∨ ∃ l', m.v[n]? = some (some l') ∧ l'.head? = l.head?
  pre0 : ∀ n : Nat, m0.v[n]? = some none → m.v[n]? = some none
  keep : ∀ b o, H0 b = some o → (VL m0 b → ¬ Chg o) → H b = some o
  new : ∀ b, VL m b → ¬ VL m0 b → H0 b = none
theorem Out.ext {m0 m m' : Ms} {H0 H H' : Hp} {D : Addr} (a : Out m0 H0 D m H) (b : Ext m H m' H') : Out m0 H0 D m' H' where
  pre := fun n l h => by
    rcases a.pre n l h with h1 | ⟨l1, h1, e1⟩
    · exact .inl (b.pre0 n h1)
    · rcases b.pre n l1 h1 with h2 | ⟨l2, h2, e2⟩
      · exact .inl h2
      · exact .inr ⟨l2, h2, e2.trans e1⟩
  pre0 := fun n h => b.pre0 n (a.pre0 n h)
  keep := fun c o h n => b.keep c o (a.keep c o h n) fun q => by
    by_cases hc : VL m0 c
    · exact n hc
    · have := a.new c q hc
      rw [h] at this
      cases this
  new := fun c hc n => by
    by_cases h1 : VL m c
    · exact a.new c h1 n
    · have z := b.new c hc h1
      cases q : H0 c with
      | none => rfl
      | some o =>
        rw [a.keep c o q fun k => (n k).elim] at z
        cases z
theorem Out.grow {m0 m : Ms} {H0 H : Hp} {D : Addr} {u : HO} (a : Out m0 H0 D m H) (hD : H0 D = none) : Out m0 H0 D m (upd H D u) :=
  ⟨a.pre, a.pre0, fun b o h n => by rw [upd_ne (ne_of_none h hD)]; exact a.keep b o h n, a.new⟩
theorem Out.start {m : Ms} {H : Hp} {D : Addr} (hD : H D = none) (u : HO) : Out m H D (m.hide D) (upd H D u) :=
  ⟨fun n l h => .inr ⟨l, h, rfl⟩, fun _ h => h, fun b o h _ => by rw [upd_ne (ne_of_none h hD)]; exact h, fun b h n => (n h).elim⟩
/-- the list is shown -/
theorem lc_end {K : PySem.W.Frag} {m0 m : Ms} {H0 H : Hp} {D : Addr} {acc : List PyData} {μ : Mem} {own : Bool} {σ : L2.St} {Q : VK} (o : Out m0 H0 D m H) (hD : H0 D = none) (hn : D ∉ m0.h) (h : Hid K D m0.h m H acc) (hh : RH K m H μ)
    (g : Gd K ct Z m0 σ H0 (lcEnd own acc μ) (PV K Q)) : Q (.ref D) H := by
  obtain ⟨vs, h1, h2⟩ := h.at_
  have hm : D ∈ m.h := by rw [h.hid]; simp
  have hnv : D ∉ fps m.v := (hh.hid D hm).2
  have hin : ∀ b ∈ m0.h, b ∈ m.h := fun b hb => by rw [h.hid]; exact List.mem_cons_of_mem _ hb
  unfold lcEnd at g
  split at g
  · -- by place
    have less : ∀ b, Live { v := m.v ++ [some [D]], h := m0.h } b → Live m b := fun b hb => by
      rcases hb with hb | hb
      · change b ∈ fps (m.v ++ [some [D]]) at hb
        rw [fps_append, fps_one, List.mem_append] at hb
        rcases hb with hb | hb
        · exact .inl hb
        · rw [List.mem_singleton.mp hb]
          exact .inr hm
      · exact .inr (hin b hb)
    refine g { v := m.v ++ [some [D]], h := m0.h } H ⟨fun n l q => ?_, fun n q => mem_get _ (o.pre0 n q), rfl, o.keep, fun b hb n => ?_⟩ ⟨?_, by simp [hh.len], fun b hb => ⟨(hh.hid b (hin b hb)).1, fun z => ?_⟩, fun n p u q1 q2 => ?_⟩ _ (.inr ⟨[D], D, ?_, rfl, rfl⟩)
    · rcases o.pre n l q with q | ⟨l', q, q'⟩
      · exact .inl (mem_get _ q)
      · exact .inr ⟨l', mem_get _ q, q'⟩
    · change b ∈ fps (m.v ++ [some [D]]) at hb
      rw [fps_append, fps_one, List.mem_append] at hb
      rcases hb with hb | hb
      · exact o.new b hb n
      · rw [List.mem_singleton.mp hb]
        exact hD
    · change (fps (m.v ++ [some [D]])).Nodup
      rw [fps_append, fps_one, List.nodup_append]
      exact ⟨hh.nd, by simp, fun a ha b hb => by
        rw [List.mem_singleton.mp hb]
        rintro rfl
        exact hnv ha⟩
    · change b ∈ fps (m.v ++ [some [D]]) at z
      rw [fps_append, fps_one, List.mem_append] at z
      rcases z with z | z
      · exact (hh.hid b (hin b hb)).2 z
      · rw [List.mem_singleton.mp z] at hb
        exact hn hb
    · change (m.v ++ [some [D]])[n]? = _ at q1
      by_cases hlt : n < m.v.length
      · rw [List.getElem?_append_left hlt] at q1
        rw [List.getElem?_append_left (by rw [← hh.len]; exact hlt)] at q2
        exact (hh.at_ n p u q1 q2).keeps (keeps_less less) fun _ _ _ _ _ q => q
      · have e : n = m.v.length := by
          have := (List.getElem?_eq_some_iff.mp q1).1
          simp at this
          omega
        subst e
        rw [List.getElem?_append_right (Nat.le_refl _)] at q1
        rw [hh.len, List.getElem?_append_right (Nat.le_refl _)] at q2
        simp only [Nat.sub_self, List.getElem?_cons_zero, Option.some.injEq] at q1 q2
        subst q1
        subst q2
        exact ⟨D, vs, rfl, h1, h2.stay (keeps_less less)⟩
    · change (m.v ++ [some [D]])[μ.length]? = _
      rw [← hh.len, List.getElem?_append_right (Nat.le_refl _)]
      simp
  · have less : ∀ b, Live { v := m.v, h := m0.h } b → Live m b := fun b hb => hb.elim .inl fun z => .inr (hin b z)
    refine g { v := m.v, h := m0.h } H ⟨o.pre, o.pre0, rfl, o.keep, o.new⟩ ⟨hh.nd, hh.len, fun b hb => hh.hid b (hin b hb), fun n p u q1 q2 => (hh.at_ n p u q1 q2).keeps (keeps_less less) fun _ _ _ _ _ q => q⟩ _ (.lst ⟨h1, fun z => ?_⟩ (h2.stay (keeps_less less)))
    rcases z with z | z
    · exact hnv z
    · exact hn z
/-- one turn -/
theorem lc_one {dt : DT} {de : DE} {m : Ms} {ρ : Env} {σ : L2.St} {H : Hp} {μ μ1 : Mem} {acc acc1 : List PyData} {D : Addr} {h0 : List Addr} {Nx : Hp → Prop} {K : PySem.W.Frag} (hρ : EnvR K m H ρ σ) (hh : RH K m H μ) (hid : Hid K D h0 m H acc)
    (h : lcOne dt de ρ acc μ = .ok acc1 μ1)
    (k : ∀ m2 H2, Hid K D h0 m2 H2 acc1 → RH K m2 H2 μ1 → Exw m H m2 H2 → (∀ m0 H0, Out m0 H0 D m H → H0 D = none → Out m0 H0 D m2 H2) → Nx H2) :
    tT K ct ZF dt σ H fun b H3 => if b = true then tE K ct ZF de σ H3 fun y H4 => ∃ acc, H4 D = some (.lst acc) ∧ acc.length < sizeLine ∧ Nx (upd H4 D (.lst (acc ++ [y]))) else Nx H3 := by
  refine ⟨m, ρ, μ, hρ, hh, ?_⟩
  unfold lcOne at h
  cases q : dt ρ μ with
  | bad => rw [q] at h; cases h
  | exc x μ1 => rw [q] at h; cases h
  | ok b μ2 =>
    rw [q, show noX (Res.ok b μ2) = Res.ok b μ2 from rfl, bnd_ok] at h
    intro m1 H1 e1 h1
    have hid1 := hid_ext hid hh e1
    cases b with
    | false =>
      cases h
      exact iteF (k m1 H1 hid1 h1 e1.w fun m0 H0 o _ => o.ext e1)
    | true =>
      refine iteT ⟨m1, ρ, μ2, hρ.ext e1, h1, ?_⟩
      rw [if_pos rfl] at h
      cases q2 : de ρ μ2 with
      | bad => rw [q2] at h; cases h
      | exc x μ3 => rw [q2] at h; cases h
      | ok w μ3 =>
        rw [q2, show noX (Res.ok w μ3) = Res.ok w μ3 from rfl, bnd_ok] at h
        intro m2 H2 e2 h2 y r2
        cases w with
        | r n => cases h
        | s n => cases h
        | d x =>
          have hid2 := hid_ext hid1 h1 e2
          obtain ⟨vs, a1, a2, a3, a4, a5⟩ := hid_grow hid2 h2 r2
          dsimp only at h
          split at h
          · rename_i hz
            cases h
            exact ⟨vs, a1, by rw [a2]; exact hz, k m2 _ a3 a4 ((e1.trans e2).w.trans a5) fun m0 H0 o hD => ((o.ext e1).ext e2).grow hD⟩
          · cases h
/-- the turns of a comprehension's walk -/
theorem lc_walk {s : Src} {g : PyData → Env → Option Env} {f : Env → List PyData → Mem → Res (List PyData)} {us vs : List Nat} {J : It} {K : PySem.W.Frag} {D : Addr} {h0 : List Addr} {m1 : Ms} {H1 : Hp} {ρ : Env} {σ : L2.St} {acc0 accN : List PyData} {μ0 μN : Mem} {Qe : Hp → Prop}
    {tb : (Hp → Prop) → L2.St → Hp → Prop} (sv : Srv K J m1 H1 s) (hsub : ∀ j ∈ us, j ∈ vs) (he : EnvR K m1 H1 ρ σ) (hh : RH K m1 H1 μ0) (hid : Hid K D h0 m1 H1 acc0)
    (hL : lcL s g f (wipeE ρ vs) s.1 acc0 μ0 = .ok accN μN)
    (hb : ∀ m ρ1 σ1 H μ acc acc1 μ1 Nx, EnvR K m H ρ1 σ1 → RH K m H μ → Hid K D h0 m H acc → f ρ1 acc μ = .ok acc1 μ1 →
      (∀ m2 H2, Hid K D h0 m2 H2 acc1 → RH K m2 H2 μ1 → Exw m H m2 H2 → (∀ m0 H0, Out m0 H0 D m H → H0 D = none → Out m0 H0 D m2 H2) → Nx H2) → tb Nx σ1 H)
    (hend : ∀ m2 H2, Hid K D h0 m2 H2 accN → RH K m2 H2 μN → Exw m1 H1 m2 H2 → (∀ m0 H0, Out m0 H0 D m1 H1 → H0 D = none → Out m0 H0 D m2 H2) → Qe H2) :
    ∃ W : Nat → Nat → Hp → Prop, (∃ k, W 0 k H1) ∧ ∀ i k H, W i k H → (J.stop i H ∧ Qe H) ∨ (J.go i H ∧ ∃ Nx : Hp → Prop, (∀ H', Nx H' → ∃ k', k' < k ∧ W (i + 1) k' H') ∧ ∀ x H', J.yld i H x H' → tG K g us x (wipe σ vs) H' fun σ2 H2 => wipe σ2 vs = wipe σ vs ∧ tb Nx σ2 H2) := by
  refine ⟨fun i k H => i + k = s.1.length ∧ ∃ m acc μ, Exw m1 H1 m H ∧ RH K m H μ ∧ Hid K D h0 m H acc ∧ (∀ m0 H0, Out m0 H0 D m1 H1 → H0 D = none → Out m0 H0 D m H) ∧ lcL s g f (wipeE ρ vs) (s.1.drop i) acc μ = .ok accN μN,
    ⟨s.1.length, by omega, m1, acc0, μ0, .refl _ _, hh, hid, fun _ _ o _ => o, by simpa using hL⟩, fun i k H h => ?_⟩
  obtain ⟨hik, m, acc, μ, ex, hh', hid', ho, hl⟩ := h
  by_cases hlt : i < s.1.length
  · refine .inr ?_
    rw [List.drop_eq_getElem_cons hlt] at hl
    simp only [lcL] at hl
    split at hl
    · rename_i lv
      refine ⟨sv.go i m H μ hlt ex hh' lv, _, fun H' z => ⟨k - 1, by omega, by omega, z⟩, fun x H' hy => ?_⟩
      obtain ⟨d, hd, rd, e2, hh2⟩ := sv.yld i m H μ x H' ex hh' lv hlt hy
      rw [List.getElem?_eq_getElem hlt] at hd
      cases hd
      split at hl
      · cases hl
      · rename_i ρ1 eg
        have he2 : EnvR K m H' (wipeE ρ vs) (wipe σ vs) := ((he.extw ex).ext e2).wipe vs
        refine ⟨m, _, ρ1, _, he2, rd, eg, fun σ3 he3 l3 q3 => ⟨wipe_same hsub l3 q3, ?_⟩⟩
        cases ef : f ρ1 acc μ with
        | bad => rw [ef] at hl; cases hl
        | exc x μ' => rw [ef] at hl; cases hl
        | ok acc1 μ1 =>
          rw [ef, bnd_ok] at hl
          exact hb m ρ1 σ3 H' μ acc acc1 μ1 _ he3 hh2 (hid_ext hid' hh' e2) ef fun m2 H2 a1 a2 a3 a4 => ⟨m2, acc1, μ1, (ex.trans e2.w).trans a3, a2, a1, fun m0 H0 o hD => a4 m0 H0 ((ho m0 H0 o hD).ext e2) hD, hl⟩
    · cases hl
  · refine .inl ?_
    have hi : i = s.1.length := by omega
    subst hi
    rw [List.drop_length] at hl
    simp only [lcL] at hl
    split at hl
    · rename_i lv
      cases hl
      exact ⟨sv.stop m H _ ex hh' lv, hend m H hid' hh' ex ho⟩
    · cases hl
/-- the ifs of a comprehension -/
structure MP (X : Cx) (ct : Ct) (Z : WX) (ifs : List Expr) (d : DT) : Prop where
  pp : PTs X ifs (tT X.K ct Z d)
def dYes : DT := fun _ μ => .ok true μ
theorem pts_imp {ifs : List Expr} {t t' : TT} (h : PTs X ifs t) (k : ∀ σ H Q, t' σ H Q → t σ H Q) : PTs X ifs t' := ⟨fun pins s σ H Q I q => h.run pins s σ H Q I (k σ H Q q)⟩
theorem mpNil : MP X ct Z [] dYes := ⟨pts_imp pts_nil fun σ H Q ⟨m, ρ, μ, he, hh, g⟩ => g m H (.refl _ _) hh⟩
theorem mpOne {c : Expr} {d : DT} (h : MT X ct Z c d) : MP X ct Z [c] d := ⟨pts_one h.pt⟩
theorem lcL_ok {s : Src} {g : PyData → Env → Option Env} {f : Env → List PyData → Mem → Res (List PyData)} {ρ : Env} (hf : ∀ ρ acc μ x μ', f ρ acc μ ≠ .exc x μ') : ∀ (xs acc : List PyData) (μ : Mem) (x : Xc) (μ' : Mem), lcL s g f ρ xs acc μ ≠ .exc x μ'
  | [], acc, μ, x, μ' => by
    unfold lcL
    split <;> intro h <;> cases h
  | y :: r, acc, μ, x, μ' => by
    unfold lcL
    split
    · split
      · intro h; cases h
      · rename_i ρ1 _
        cases e : f ρ1 acc μ with
        | ok a b => exact lcL_ok hf r a b x μ'
        | exc a b => exact (hf _ _ _ _ _ e).elim
        | bad => intro h; cases h
    · intro h; cases h
theorem lcOne_ok {tt : DT} {te : DE} (ρ : Env) (acc : List PyData) (μ : Mem) (x : Xc) (μ' : Mem) : lcOne tt te ρ acc μ ≠ .exc x μ' := by
  unfold lcOne
  cases tt ρ μ with
  | bad => intro h; cases h
  | exc _ _ => intro h; cases h
  | ok b μ1 =>
    simp only [noX, bnd_ok]
    split
    · cases te ρ μ1 with
      | bad => intro h; cases h
      | exc _ _ => intro h; cases h
      | ok w μ2 =>
        cases w with
        | r n => intro h; cases h
        | s n => intro h; cases h
        | d y =>
          simp only [noX, bnd_ok]
          split <;> intro h <;> cases h
    · intro h; cases h
section
variable {scope : Scope} {own : List (Str × Nat)} {tg iter elt : Expr} {ifs : List Expr} {pos : Pos} {di : DI} {g : PyData → Env → Option Env} {us : List Nat} {dt : DT} {de : DE} {ow : Bool}
theorem tLc_of {σ : L2.St} {H : Hp} {Q : VK} (hsub : ∀ j ∈ us, j ∈ own.map (·.2)) (h : tE X.K ct Z (dLc ow di g dt de (own.map (·.2))) σ H Q) :
    tLc (tI X.K ct Z di) (tG X.K g us) (tT X.K ct ZF dt) (tE X.K ct ZF de) (own.map (·.2)) σ H Q := by
  obtain ⟨m, ρ, μ, he, hh, gg⟩ := h
  refine ⟨m, ρ, μ, he, hh, (Gd.bnd gg).mono fun s μ1 m1 H1 e1 h1 g1 J sv D hD => ?_⟩
  cases hL : lcL s g (lcOne dt de) (wipeE ρ (own.map (·.2))) s.1 [] μ1 with
  | bad => rw [hL] at g1; exact g1.elim
  | exc x μ2 => exact (lcL_ok lcOne_ok _ _ _ _ _ hL).elim
  | ok accN μN =>
    rw [hL, bnd_ok] at g1
    have hn : D ∉ m1.h := fun z => h1.notin hD (.inr z)
    exact lc_walk (sv.later (Exw.hide hD (.lst []))) hsub ((he.ext e1).extw (Exw.hide hD (.lst []))) (h1.hide hD (.lst [])) ⟨rfl, [], upd_same, .nil⟩ hL
      (fun m ρ1 σ1 H μ acc acc1 μ1 Nx a1 a2 a3 a4 a5 => lc_one a1 a2 a3 a4 a5) fun m2 H2 a1 a2 a3 a4 => lc_end (a4 m1 H1 (.start hD _) hD) hD hn a1 a2 g1
theorem mLc (hc : X.calm = true) (hN : X.N.Nodup) (hi : MI X ct Z tg iter di) (ok : BlkOk X.N X.env.scope scope own) (hsub : ∀ j ∈ us, j ∈ own.map (·.2))
    (hg : ∀ (s : Shared) (H : Hp) (C : Addr) (cl : List (Str × Addr)) (fp : List Addr), MG (X.blk s H scope (compEnvC scope cl C X.env) fp) tg g us) (ht : ∀ (s : Shared) (H : Hp) (C : Addr) (cl : List (Str × Addr)) (fp : List Addr), MP (X.blk s H scope (compEnvC scope cl C X.env) fp) ct ZF ifs dt)
    (he : ∀ (s : Shared) (H : Hp) (C : Addr) (cl : List (Str × Addr)) (fp : List Addr), ME (X.blk s H scope (compEnvC scope cl C X.env) fp) ct ZF elt de) (hs : ∀ x, foldedSetIterable iter X.env x = pure x := by intro _; rfl) :
    ME X ct Z (.ListComp elt [⟨tg, iter, ifs, 0⟩] scope pos) (dLc ow di g dt de (own.map (·.2))) :=
  ⟨pe_imp (pe_lc hc hN hi.pi ok (fun s H C cl fp => (hg s H C cl fp).pg) (fun s H C cl fp => (ht s H C cl fp).pp) (fun s H C cl fp => (he s H C cl fp).pe) hs) fun _ _ _ h => tLc_of hsub h⟩
/-- name = [..] -/
theorem msSetLc {i : Nat} {y : Str} {py spos : Pos} (hc : X.calm = true) (hN : X.N.Nodup) (hy : X.N[i]? = some y := by rfl) (hyl : X.env.scope.names.lookup y = some .local := by rfl)
    (hsw : swapsWith (.ListComp elt [⟨tg, iter, ifs, 0⟩] scope pos) (some (.Name y py)) spos.line X.env = pure true := by first | exact sw_true rfl rfl rfl (by decide +kernel) | rfl) (hi : MI X ct Z tg iter di) (ok : BlkOk X.N X.env.scope scope own) (hsub : ∀ j ∈ us, j ∈ own.map (·.2))
    (hg : ∀ (s : Shared) (H : Hp) (C : Addr) (cl : List (Str × Addr)) (fp : List Addr), MG (X.blk s H scope (compEnvC scope cl C X.env) fp) tg g us) (ht : ∀ (s : Shared) (H : Hp) (C : Addr) (cl : List (Str × Addr)) (fp : List Addr), MP (X.blk s H scope (compEnvC scope cl C X.env) fp) ct ZF ifs dt)
    (he : ∀ (s : Shared) (H : Hp) (C : Addr) (cl : List (Str × Addr)) (fp : List Addr), ME (X.blk s H scope (compEnvC scope cl C X.env) fp) ct ZF elt de) (hs : ∀ x, foldedSetIterable iter X.env x = pure x := by intro _; rfl) :
    MS X ct Z (.Assign [.Name y py] (.ListComp elt [⟨tg, iter, ifs, 0⟩] scope pos) spos) (sSet i (dLc ow di g dt de (own.map (·.2)))) :=
  ⟨ps_imp (ps_setLc hc hN hy hyl hsw hi.pi ok (fun s H C cl fp => (hg s H C cl fp).pg) (fun s H C cl fp => (ht s H C cl fp).pp) (fun s H C cl fp => (he s H C cl fp).pe) hs) fun _ _ _ h => tLc_of hsub (tSet_of h)⟩
end
end
end Mok09

set_option autoImplicit false
namespace Mok09
open PySem PySem.Spec PyProof.Rows L2
section
variable {X : Cx} {ct : Ct} {Z : WX}
/-! ### comprehensions with two for -/
noncomputable def lcMid (tt : DT) (di : DI) (g : PyData → Env → Option Env) (vs : List Nat) (f : Env → List PyData → Mem → Res (List PyData)) (ρ : Env) (acc : List PyData) (μ : Mem) : Res (List PyData) :=
  bnd (noX (tt ρ μ)) fun b μ1 => if b = true then bnd (noX (di ρ μ1)) fun s μ2 => lcL s g f (wipeE ρ vs) s.1 acc μ2 else .ok acc μ1
noncomputable def dLc2 (own : Bool) (di : DI) (g : PyData → Env → Option Env) (tt : DT) (di1 : DI) (g1 : PyData → Env → Option Env) (tt1 : DT) (te : DE) (vs vs1 : List Nat) : DE := fun ρ μ => bnd (di ρ μ) fun s μ1 =>
  bnd (lcL s g (lcMid tt di1 g1 vs1 (lcOne tt1 te)) (wipeE ρ vs) s.1 [] μ1) (lcEnd own)
section
variable {scope : Scope} {own : List (Str × Nat)} {tg iter tg1 iter1 elt : Expr} {ifs ifs1 : List Expr} {pos : Pos} {di di1 : DI} {g g1 : PyData → Env → Option Env} {us us1 vs1 : List Nat} {dt dt1 : DT} {de : DE} {ow : Bool}
end
end
end Mok09

set_option autoImplicit false
namespace Mok09
open PySem PySem.Spec PyProof.Rows L2
/-! ### operations on numbers, texts, lists, tuples -/
def listV : W → Mem → Option (List PyData)
  | .d (.list xs), _ => some xs
  | .r n, μ => match μ[n]? with
    | some (.l xs) => some xs
    | _ => none
  | _, _ => none
theorem listV_ok {K : PySem.W.Frag} {m : Ms} {H : Hp} {μ : Mem} {w : W} {v : V} {xs : List PyData} (r : RV K m H w v) (hh : RH K m H μ) (e : listV w μ = some xs) : ∃ a vs, v = .ref a ∧ H a = some (.lst vs) ∧ DvAll K (Live m) H vs xs := by
  cases w with
  | d x =>
    cases r with
    | lst hs ha => cases e; exact ⟨_, _, rfl, hs.1, ha⟩
    | _ => cases e
  | r n =>
    simp only [listV] at e
    split at e
    · rename_i ys q
      cases e
      obtain ⟨a, vs, h1, rfl, h2, h3⟩ := lst_at r hh q
      exact ⟨a, vs, rfl, h2, h3⟩
    · cases e
  | s ns => cases e
def pI (i : Int) (μ : Mem) : Option (W × Mem) := some (.d (.int i), μ)
def pB (b : Bool) (μ : Mem) : Option (W × Mem) := some (.d (.bool b), μ)
def pS (x : Str) (μ : Mem) : Option (W × Mem) := if sz x.length = true then some (.d (.str x), μ) else none
theorem GdO.now {K : PySem.W.Frag} {m : Ms} {H : Hp} {w : W} {μ : Mem} {Q : VK} {v : V} (g : GdO K m H (some (w, μ)) Q) (hh : RH K m H μ) (r : RV K m H w v) : Q v H := g m H v (.refl _ _) hh r
def opAdd (own : Bool) : Op
  | [.d (.int i), .d (.int j)], μ => pI (i + j) μ
  | [.d (.str x), .d (.str y)], μ => if x.length + y.length ≤ sizeLine then some (.d (.str (x ++ y)), μ) else none
  | [.d (.tuple xs), .d (.tuple ys)], μ => mkT (xs ++ ys) μ
  | [a, b], μ => match listV a μ, listV b μ with
    | some xs, some ys => mkL own (xs ++ ys) μ
    | _, _ => none
  | _, _ => none
section
variable {X : Cx}
theorem two {K : PySem.W.Frag} {m : Ms} {H : Hp} {ws : List W} {x y : V} (r : RVs K m H ws [x, y]) : ∃ a b, ws = [a, b] ∧ RV K m H a x ∧ RV K m H b y := by
  cases r with
  | cons r1 t =>
    cases t with
    | cons r2 t =>
      cases t
      exact ⟨_, _, rfl, r1, r2⟩
theorem one {K : PySem.W.Frag} {m : Ms} {H : Hp} {ws : List W} {x : V} (r : RVs K m H ws [x]) : ∃ a, ws = [a] ∧ RV K m H a x := by
  cases r with
  | cons r1 t =>
    cases t
    exact ⟨_, rfl, r1⟩
theorem op2_add {own : Bool} : Op2R X (binaryOp .Add) (opAdd own) := by
  intro pins s σ H x y v u Q I rx ry h
  obtain ⟨m, μ, ws, r, hh, g⟩ := h
  obtain ⟨a, b, rfl, r1, r2⟩ := two r
  unfold opAdd at g
  split at g
  · rename_i i j e
    simp only [List.cons.injEq, and_true] at e
    obtain ⟨rfl, rfl⟩ := e
    cases r1
    cases r2
    exact op_add pins s σ H _ _ v u Q I rx ry ⟨i, j, rfl, rfl, g.now hh (.int _)⟩
  · rename_i p q e
    simp only [List.cons.injEq, and_true] at e
    obtain ⟨rfl, rfl⟩ := e
    cases r1
    cases r2
    split at g
    · exact op_add_str pins s σ H _ _ v u Q I rx ry ⟨p, q, rfl, rfl, by assumption, g.now hh (.str _)⟩
    · exact g.elim
  · rename_i xs ys e
    simp only [List.cons.injEq, and_true] at e
    obtain ⟨rfl, rfl⟩ := e
    cases r1 with
    | tup h1 h2 =>
      cases r2 with
      | tup k1 k2 =>
        rename_i a us b vs
        have hl : us.length + vs.length ≤ sizeLine := by
          have := tup_len hh (h2.app k2) g
          simpa using this
        refine op_catF pins s σ H _ _ v u Q I rx ry ⟨a, b, us, vs, rfl, rfl, h1.sq, k1.sq, hl, fun e => ?_, fun e1 e2 => ?_, fun e1 e2 p o hd hp => (tup_new hh (h2.app k2) g hd hp).2⟩
        · subst e
          cases h2
          unfold mkT at g
          split at g
          · exact g.now hh (.tup k1 k2)
          · exact g.elim
        · subst e2
          cases k2
          unfold mkT at g
          split at g
          · refine g.now hh (.tup h1 ?_)
            rw [List.append_nil]
            exact h2
          · exact g.elim
  · rename_i p q e
    rename_i hno1 hno2 hno3
    simp only [List.cons.injEq, and_true] at e
    obtain ⟨rfl, rfl⟩ := e
    split at g
    · rename_i xs ys e1 e2
      obtain ⟨a, us, rfl, h1, h2⟩ := listV_ok r1 hh e1
      obtain ⟨b, vs, rfl, k1, k2⟩ := listV_ok r2 hh e2
      exact op_cat pins s σ H _ _ v u Q I rx ry ⟨a, b, us, vs, rfl, rfl, h1, k1, by simpa using lst_len hh (h2.app k2) g, fun p hp => (lst_new hh (h2.app k2) g hp).2⟩
    · exact g.elim
  · exact g.elim
def opSub : Op
  | [.d (.int i), .d (.int j)], μ => pI (i - j) μ
  | _, _ => none
/-- an operation on two ints -/
theorem op2_int {op : Value → Value → Sem Value} {C : Int → Int → Prop} [∀ i j, Decidable (C i j)] {h : Int → Int → Int} (ho : OpR X op (rI C fun i j => .int (h i j))) {f : Op} (hf : ∀ ws μ, f ws μ = match ws with
    | [.d (.int i), .d (.int j)] => if C i j then pI (h i j) μ else none
    | _ => none) : Op2R X op f := by
  intro pins s σ H x y v u Q I rx ry hq
  obtain ⟨m, μ, ws, r, hh, g⟩ := hq
  obtain ⟨a, b, rfl, r1, r2⟩ := two r
  rw [hf] at g
  split at g
  · rename_i i j e
    simp only [List.cons.injEq, and_true] at e
    obtain ⟨rfl, rfl⟩ := e
    cases r1
    cases r2
    split at g
    · exact ho pins s σ H _ _ v u Q I rx ry ⟨i, j, rfl, rfl, by assumption, g.now hh (.int _)⟩
    · exact g.elim
  · exact g.elim
theorem op2_sub : Op2R X (binaryOp .Sub) opSub := by
  intro pins s σ H x y v u Q I rx ry hq
  obtain ⟨m, μ, ws, r, hh, g⟩ := hq
  obtain ⟨a, b, rfl, r1, r2⟩ := two r
  unfold opSub at g
  split at g
  · rename_i i j e
    simp only [List.cons.injEq, and_true] at e
    obtain ⟨rfl, rfl⟩ := e
    cases r1
    cases r2
    exact op_sub pins s σ H _ _ v u Q I rx ry ⟨i, j, rfl, rfl, g.now hh (.int _)⟩
  · exact g.elim
instance (i j : Int) : Decidable (CMulX i j) := by unfold CMulX; infer_instance
instance (i j : Int) : Decidable (CDivW i j) := by unfold CDivW; infer_instance
instance (i j : Int) : Decidable (CPow i j) := by unfold CPow; infer_instance
instance (i j : Int) : Decidable (CShl i j) := by unfold CShl; infer_instance
def opDiv : Op := fun ws μ => match ws with
  | [.d (.int i), .d (.int j)] => if CDivW i j then pI (i / j) μ else none
  | _ => none
theorem op2_div : Op2R X (binaryOp .FloorDiv) opDiv := op2_int op_fdivW fun _ _ => rfl
def opMod : Op := fun ws μ => match ws with
  | [.d (.int i), .d (.int j)] => if 0 < j then pI (i % j) μ else none
  | _ => none
theorem op2_mod : Op2R X (binaryOp .Mod) opMod := op2_int (C := fun _ j => 0 < j) op_mod fun _ _ => rfl
def opPow : Op := fun ws μ => match ws with
  | [.d (.int i), .d (.int j)] => if CPow i j then pI (i ^ j.toNat) μ else none
  | _ => none
theorem op2_pow : Op2R X (binaryOp .Pow) opPow := op2_int op_pow fun _ _ => rfl
def opShl : Op := fun ws μ => match ws with
  | [.d (.int i), .d (.int j)] => if CShl i j then pI (i * 2 ^ j.toNat) μ else none
  | _ => none
theorem op2_shl : Op2R X (binaryOp .LShift) opShl := op2_int op_shlW fun _ _ => rfl
def opShr : Op := fun ws μ => match ws with
  | [.d (.int i), .d (.int j)] => if 0 ≤ j then pI (i / 2 ^ j.toNat) μ else none
  | _ => none
theorem op2_shr : Op2R X (binaryOp .RShift) opShr := op2_int (C := fun _ j => 0 ≤ j) op_shr fun _ _ => rfl
theorem op2_int0 {op : Value → Value → Sem Value} {h : Int → Int → Int} (ho : OpR X op (rI0 fun i j => .int (h i j))) {f : Op} (hf : ∀ ws μ, f ws μ = match ws with
    | [.d (.int i), .d (.int j)] => pI (h i j) μ
    | _ => none) : Op2R X op f := by
  intro pins s σ H x y v u Q I rx ry hq
  obtain ⟨m, μ, ws, r, hh, g⟩ := hq
  obtain ⟨a, b, rfl, r1, r2⟩ := two r
  rw [hf] at g
  split at g
  · rename_i i j e
    simp only [List.cons.injEq, and_true] at e
    obtain ⟨rfl, rfl⟩ := e
    cases r1
    cases r2
    exact ho pins s σ H _ _ v u Q I rx ry ⟨i, j, rfl, rfl, g.now hh (.int _)⟩
  · exact g.elim
def opAnd : Op := fun ws μ => match ws with
  | [.d (.int i), .d (.int j)] => pI (Builtin.bitAnd i j) μ
  | _ => none
theorem op2_and : Op2R X (binaryOp .BitAnd) opAnd := op2_int0 op_and fun _ _ => rfl
def opOr : Op := fun ws μ => match ws with
  | [.d (.int i), .d (.int j)] => pI (Builtin.bitOr i j) μ
  | _ => none
theorem op2_or : Op2R X (binaryOp .BitOr) opOr := op2_int0 op_or fun _ _ => rfl
def opXor : Op := fun ws μ => match ws with
  | [.d (.int i), .d (.int j)] => pI (Builtin.bitXor i j) μ
  | _ => none
theorem op2_xor : Op2R X (binaryOp .BitXor) opXor := op2_int0 op_xor fun _ _ => rfl
def opNeg : Op := fun ws μ => match ws with
  | [.d (.int i)] => pI (-i) μ
  | _ => none
theorem op1_neg : Op1R X (unaryOp .USub) opNeg := by
  intro pins s σ H x v Q I rx hq
  obtain ⟨m, μ, ws, r, hh, g⟩ := hq
  obtain ⟨a, rfl, r1⟩ := one r
  unfold opNeg at g
  split at g
  · rename_i i e
    simp only [List.cons.injEq, and_true] at e
    subst e
    cases r1
    exact un_neg pins s σ H _ v Q I rx ⟨i, rfl, g.now hh (.int _)⟩
  · exact g.elim
/-- times: ints, a list or a tuple so often -/
def reps (k : Nat) (xs : List PyData) : List PyData := (List.replicate k xs).flatten
def opMul (own : Bool) : Op
  | [.d (.int i), .d (.int j)], μ => if CMulX i j then pI (i * j) μ else none
  | [.d (.tuple xs), .d (.int k)], μ => if xs ≠ [] ∧ 2 ≤ k ∧ k ≤ 1000 ∧ xs.length ≤ 1000 then some (.d (.tuple (reps k.toNat xs)), μ) else none
  | [a, .d (.int k)], μ => match listV a μ with
    | some xs => if -(2 ^ 63) ≤ k ∧ k < 2 ^ 63 ∧ xs.length * k.toNat ≤ sizeLine then mkL own (reps k.toNat xs) μ else none
    | _ => none
  | _, _ => none
theorem reps_all {K : PySem.W.Frag} {L : Addr → Prop} {H : Hp} {vs : List V} {xs : List PyData} (h : DvAll K L H vs xs) : ∀ k : Nat, DvAll K L H (List.replicate k vs).flatten (reps k xs)
  | 0 => .nil
  | k + 1 => by
    unfold reps
    rw [List.replicate_succ, List.replicate_succ, List.flatten_cons, List.flatten_cons]
    exact h.app (reps_all h k)
/-- t * k -/
def rRepF (K : PySem.W.Frag) : R2 := fun x y H Q => ∃ l k xs, x = .ref l ∧ y = .int k ∧ SqT K H l xs ∧ xs ≠ [] ∧ 2 ≤ k ∧ k ≤ 1000 ∧ xs.length ≤ 1000 ∧ ∀ p o, o.dict = none → H p = none → Q (.ref p) (upd H p (.frz o (.tup (List.replicate k.toNat xs).flatten)))
theorem op_repF : OpR X (binaryOp .Mult) (rRepF X.K) := by
  intro pins s σ H x y v u Q I rx ry h
  obtain ⟨l, k, xs, rfl, rfl, hT, hne, h1, h2, hz, q⟩ := h
  cases rx
  obtain ⟨t, rfl⟩ := ry
  obtain ⟨its, r, ⟨⟨cls, dd, data, sl⟩, ho, hc, n, hd⟩, hs⟩ := I.tuple hT
  simp only at hc hd
  subst hc hd
  have hle : its.length = xs.length := r.length.symm
  have hn : its ≠ [] := fun e => hne (by
    rw [e] at hle
    exact List.eq_nil_of_length_eq_zero hle.symm)
  have hi : its.toArray.isEmpty = false := by
    cases its with
    | nil => exact absurd rfl hn
    | cons a b => rfl
  have hsz0 : its.toArray.size = xs.length := by rw [List.size_toArray, hle]
  have hm : ((its.toArray.size : Nat) : Int) * k ≤ 1000000 := by
    rw [hsz0]
    have a1 : ((xs.length : Nat) : Int) * k ≤ 1000 * k := Int.mul_le_mul_of_nonneg_right (by omega) (by omega)
    omega
  have flen : (List.replicate k.toNat its).flatten.length ≤ sizeLine := by
    rw [PyProof.Rows.lm_len_rep_flat, hle, sizeLine_eq]
    have a1 : k.toNat * xs.length ≤ 1000 * 1000 := Nat.mul_le_mul (by omega) hz
    omega
  have c0 : (decide (k < -(2 ^ 63)) || decide (k ≥ 2 ^ 63)) = false := by
    rw [decide_eq_false (by omega), decide_eq_false (by omega)] <;> rfl
  have c1 : (its.toArray.isEmpty || k == 1) = false := by
    rw [hi, Bool.false_or]
    exact beq_eq_false_iff_ne.mpr (by omega)
  have c2 : (decide (k ≤ 0) || its.toArray.isEmpty) = false := by
    rw [hi, Bool.or_false]
    exact decide_eq_false (by omega)
  have c4 : Builtin.Tuple.tupleTooMany (((its.toArray.size : Nat) : Int) * k) = false := by
    unfold Builtin.Tuple.tupleTooMany
    rw [sizeLine_eq]
    exact decide_eq_false (by omega)
  refine wpAny_binaryOp_repeat_ref (T := "tuple") (U := "int") (by decide) ⟨_, ho, rfl⟩ (fun s' => typeIs_int s' k t) noFill_tuple_mul F.fills_int_mul F.slot_int_rmul repeat_tuple F.slot_int_index.lookup
    (call_meets F.slot_int_rmul (typeIs_int s k t) F.entry_int_rmul (F.args_int_rmul_2 _ _) (int_rmul_tuple k t l its.toArray n dd sl)
      ⟨ho, rfl, ⟨_, ho, rfl⟩, call_meets F.slot_tuple_mul ⟨_, ho, rfl⟩ F.entry_tuple_mul (F.args_tuple_mul_2 _ _) (tuple_mulW l its.toArray n dd sl k t c0 c1 c2 (by omega) c4 (by rw [size_rep, List.size_toArray]; exact flen)) ⟨ho, ?_⟩⟩)
  rw [size_rep]
  refine ⟨.ref s.heap.objs.size, _, I.laid (t' := s.toks) (o := .frz { cls := .type "tuple", data := .seq (List.replicate k.toNat its).flatten.toArray } (.tup (List.replicate k.toNat xs).flatten)) (fun b ob q => Heap.get?_push_of_some _ q) (Nat.le_refl _) ?_, rfl, q _ _ rfl (I.hok.fresh (Nat.le_refl _))⟩
  exact ⟨Heap.get?_push_size _ rfl, by rw [PyProof.Rows.lm_len_rep_flat, sizeLine_eq]; have a1 : k.toNat * xs.length ≤ 1000 * 1000 := Nat.mul_le_mul (by omega) hz; omega, _, r.rep k.toNat, IsTup.new _ _⟩
theorem op2_mul {own : Bool} : Op2R X (binaryOp .Mult) (opMul own) := by
  intro pins s σ H x y v u Q I rx ry h
  obtain ⟨m, μ, ws, r, hh, g⟩ := h
  obtain ⟨a, b, rfl, r1, r2⟩ := two r
  unfold opMul at g
  split at g
  · rename_i i j e
    simp only [List.cons.injEq, and_true] at e
    obtain ⟨rfl, rfl⟩ := e
    cases r1
    cases r2
    split at g
    · exact op_mulX pins s σ H _ _ v u Q I rx ry ⟨i, j, rfl, rfl, by assumption, g.now hh (.int _)⟩
    · exact g.elim
  · rename_i xs k e
    simp only [List.cons.injEq, and_true] at e
    obtain ⟨rfl, rfl⟩ := e
    cases r2
    cases r1 with
    | tup h1 h2 =>
      rename_i a us
      split at g
      · rename_i hc
        have hl := h2.len
        refine op_repF pins s σ H _ _ v u Q I rx ry ⟨a, k, us, rfl, rfl, h1.sq, fun z => hc.1 (by subst z; cases h2; rfl), hc.2.1, hc.2.2.1, by rw [hl]; exact hc.2.2.2, fun p o hd hp => ?_⟩
        exact g m _ _ (.laid hp _) (hh.laid hp _) (.tup (.new hd) ((reps_all h2 _).stay (Ext.laid hp _).ks))
      · exact g.elim
  · rename_i p k hno1 hno2 e
    simp only [List.cons.injEq, and_true] at e
    obtain ⟨rfl, rfl⟩ := e
    cases r2
    split at g
    · rename_i xs e1
      obtain ⟨a, us, rfl, h1, h2⟩ := listV_ok r1 hh e1
      split at g
      · rename_i hc
        exact op_rep pins s σ H _ _ v u Q I rx ry ⟨a, k, us, rfl, rfl, h1, hc.1, hc.2.1, by rw [h2.len]; exact hc.2.2, fun p hp => (lst_new hh (reps_all h2 _) g hp).2⟩
      · exact g.elim
    · exact g.elim
  · exact g.elim
/-! ### the same in place: x op= y -/
def Op2I (X : Cx) (op : Operator) (f : Op) : Prop := PIp X op fun v u H Q => rN X.K f [v, u] H Q
theorem ip_int0 {op : Operator} {h : Int → Int → Int} (ho : OpR X (inplaceOp op) (rI0 fun i j => .int (h i j))) {f : Op} (hf : ∀ ws μ, f ws μ = match ws with
    | [.d (.int i), .d (.int j)] => pI (h i j) μ
    | _ => none) : Op2I X op f := op2_int0 (op := inplaceOp op) ho hf
theorem ip_int {op : Operator} {C : Int → Int → Prop} [∀ i j, Decidable (C i j)] {h : Int → Int → Int} (ho : OpR X (inplaceOp op) (rI C fun i j => .int (h i j))) {f : Op} (hf : ∀ ws μ, f ws μ = match ws with
    | [.d (.int i), .d (.int j)] => if C i j then pI (h i j) μ else none
    | _ => none) : Op2I X op f := op2_int (op := inplaceOp op) ho hf
def opIAdd : Op := fun ws μ => match ws with
  | [.d (.int i), .d (.int j)] => pI (i + j) μ
  | _ => none
def opISub : Op := fun ws μ => match ws with
  | [.d (.int i), .d (.int j)] => pI (i - j) μ
  | _ => none
instance (i j : Int) : Decidable (CMul i j) := by unfold CMul; infer_instance
def opIMul : Op := fun ws μ => match ws with
  | [.d (.int i), .d (.int j)] => if CMul i j then pI (i * j) μ else none
  | _ => none
theorem opi_mul : Op2I X .Mult opIMul := ip_int iop_mul fun _ _ => rfl
theorem opi_and : Op2I X .BitAnd opAnd := ip_int0 iop_and fun _ _ => rfl
theorem opi_or : Op2I X .BitOr opOr := ip_int0 iop_or fun _ _ => rfl
end
end Mok09

set_option autoImplicit false
namespace Mok09
open PySem PySem.Spec PyProof.Rows L2
/-! ### a look at a value, as it is now -/
def peek : W → Mem → Option PyData
  | .d x, _ => some x
  | .r n, μ => match μ[n]? with
    | some (.l xs) => some (.list xs)
    | some (.k kvs) => some (.dict kvs)
    | _ => none
  | .s _, _ => none
abbrev L0 : Addr → Prop := fun _ => False
theorem keeps0 {L : Addr → Prop} {H : Hp} : Keeps L H L0 H := keeps_less fun _ h => h.elim
theorem peek_ok {K : PySem.W.Frag} {m : Ms} {H : Hp} {μ : Mem} {w : W} {v : V} {x : PyData} (r : RV K m H w v) (hh : RH K m H μ) (e : peek w μ = some x) : Dv K L0 H v x := by
  cases w with
  | d y =>
    cases e
    exact Dv.stay r keeps0
  | r n =>
    simp only [peek] at e
    split at e
    · rename_i ys q
      cases e
      obtain ⟨a, vs, h1, rfl, h2, h3⟩ := lst_at r hh q
      exact .lst ⟨h2, id⟩ (h3.stay keeps0)
    · rename_i kvs q
      cases e
      obtain ⟨l, a, h1, h2, rfl, a', h4, us, h5, h6⟩ := ref_at r hh q (by intro z; cases z)
      cases h4
      cases h2
      exact .dK (.inl h5) id (DvK.stay' keeps0 h6)
    · cases e
  | s ns => cases e
theorem shaped_lay {d : PyData} (h : SeqAt.shaped d = true) : d.canLay0 = true := SeqAt.canLay_of_shaped h
/-! ### comparisons -/
def bothS : PyData → PyData → Bool
  | .str _, .str _ => true
  | _, _ => false
def opEq (neg : Bool) : Op
  | [a, b], μ => match peek a μ, peek b μ with
    | some x, some y => if (bothS x y || (SeqAt.shaped x && SeqAt.shaped y)) = true then pB (if neg = true then !PyData.eqv x y else PyData.eqv x y) μ else none
    | _, _ => none
  | _, _ => none
theorem eqv_strs {x y : Str} : PyData.eqv (.str x) (.str y) = decide (V.str x = V.str y) := by
  have e : PyData.eqv (.str x) (.str y) = (x == y) := by simp [PyData.eqv]
  rw [e]
  by_cases h : x = y
  · subst h; simp
  · have n : ¬ V.str x = V.str y := fun z => h (V.str.inj z)
    simp [h]
section
variable {X : Cx}
theorem op2_eq (hu : X.A.units + 64 < cLine) : Op2R X (compareOp .Eq) (opEq false) := by
  intro pins s σ H x y v u Q I rx ry h
  obtain ⟨m, μ, ws, r, hh, g⟩ := h
  obtain ⟨a, b, rfl, r1, r2⟩ := two r
  unfold opEq at g
  dsimp only at g
  split at g
  · rename_i p q e1 e2
    split at g
    · rename_i hs
      rw [Bool.or_eq_true, Bool.and_eq_true] at hs
      rcases hs with hs | hs
      · cases p <;> cases q <;> first | (cases hs; done) | skip
        cases peek_ok r1 hh e1
        cases peek_ok r2 hh e2
        rw [eqv_strs] at g
        exact op_eq pins s σ H _ _ v u Q I rx ry ⟨rfl, g.now hh (.bl _)⟩
      · exact op_eqD hu pins s σ H _ _ v u Q I rx ry ⟨p, q, (peek_ok r1 hh e1).dp (shaped_lay hs.1), (peek_ok r2 hh e2).dp (shaped_lay hs.2), hs.1, hs.2, g.now hh (.bl _)⟩
    · exact g.elim
  · exact g.elim
theorem op2_ne (hu : X.A.units + 64 < cLine) : Op2R X (compareOp .NotEq) (opEq true) := by
  intro pins s σ H x y v u Q I rx ry h
  obtain ⟨m, μ, ws, r, hh, g⟩ := h
  obtain ⟨a, b, rfl, r1, r2⟩ := two r
  unfold opEq at g
  dsimp only at g
  split at g
  · rename_i p q e1 e2
    split at g
    · rename_i hs
      rw [Bool.or_eq_true, Bool.and_eq_true] at hs
      rcases hs with hs | hs
      · cases p <;> cases q <;> first | (cases hs; done) | skip
        cases peek_ok r1 hh e1
        cases peek_ok r2 hh e2
        rw [eqv_strs] at g
        exact op_ne pins s σ H _ _ v u Q I rx ry ⟨rfl, g.now hh (.bl _)⟩
      · exact op_neD hu pins s σ H _ _ v u Q I rx ry ⟨p, q, (peek_ok r1 hh e1).dp (shaped_lay hs.1), (peek_ok r2 hh e2).dp (shaped_lay hs.2), hs.1, hs.2, g.now hh (.bl _)⟩
    · exact g.elim
  · exact g.elim
/-- is None -/
def isN : W → Bool
  | .d .none => true
  | _ => false
theorem isN_ok {K : PySem.W.Frag} {m : Ms} {H : Hp} {μ : Mem} {w : W} {v : V} (r : RV K m H w v) (hh : RH K m H μ) (hd : ∀ n, w = .r n → ∃ o, μ[n]? = some o ∧ o ≠ .dead) : decide (v = .non) = isN w := by
  cases w with
  | d x => cases r <;> rfl
  | r n =>
    obtain ⟨o, h1, h2⟩ := hd n rfl
    obtain ⟨l, a, _, _, rfl, _⟩ := ref_at r hh h1 h2
    rfl
  | s ns =>
    obtain ⟨a, rfl, _⟩ := r
    rfl
/-- not let go -/
def there : W → Mem → Bool
  | .r n, μ => match μ[n]? with
    | some .dead => false
    | some _ => true
    | none => false
  | _, _ => true
theorem there_ok {w : W} {μ : Mem} (h : there w μ = true) : ∀ n, w = .r n → ∃ o, μ[n]? = some o ∧ o ≠ .dead := by
  rintro n rfl
  simp only [there] at h
  split at h
  · cases h
  · rename_i o _ e
    exact ⟨_, e, ‹_›⟩
  · cases h
def opIs (neg : Bool) : Op
  | [a, .d .none], μ => if there a μ = true then pB (if neg = true then !isN a else isN a) μ else none
  | [.d (.bool a), .d (.bool b)], μ => pB (if neg = true then !(a == b) else a == b) μ
  | _, _ => none
theorem op2_is : Op2R X (compareOp .Is) (opIs false) := by
  intro pins s σ H x y v u Q I rx ry h
  obtain ⟨m, μ, ws, r, hh, g⟩ := h
  obtain ⟨a, b, rfl, r1, r2⟩ := two r
  unfold opIs at g
  split at g
  · rename_i p e
    simp only [List.cons.injEq, and_true] at e
    obtain ⟨rfl, rfl⟩ := e
    cases r2
    split at g
    · rename_i ht
      refine op_isN pins s σ H _ _ v u Q I rx ry ⟨rfl, ?_⟩
      rw [isN_ok r1 hh (there_ok ht)]
      exact g.now hh (.bl _)
    · exact g.elim
  · rename_i p q e
    simp only [List.cons.injEq, and_true] at e
    obtain ⟨rfl, rfl⟩ := e
    cases r1
    cases r2
    refine op_is_bl pins s σ H _ _ v u Q I rx ry ⟨p, q, rfl, rfl, ?_⟩
    have : decide (p = q) = (p == q) := by cases p <;> cases q <;> rfl
    rw [this]
    exact g.now hh (.bl _)
  · exact g.elim
theorem op2_isnot : Op2R X (compareOp .IsNot) (opIs true) := by
  intro pins s σ H x y v u Q I rx ry h
  obtain ⟨m, μ, ws, r, hh, g⟩ := h
  obtain ⟨a, b, rfl, r1, r2⟩ := two r
  unfold opIs at g
  split at g
  · rename_i p e
    simp only [List.cons.injEq, and_true] at e
    obtain ⟨rfl, rfl⟩ := e
    cases r2
    split at g
    · rename_i ht
      refine op_notN pins s σ H _ _ v u Q I rx ry ⟨rfl, ?_⟩
      rw [isN_ok r1 hh (there_ok ht)]
      exact g.now hh (.bl _)
    · exact g.elim
  · rename_i p q e
    simp only [List.cons.injEq, and_true] at e
    obtain ⟨rfl, rfl⟩ := e
    cases r1
    cases r2
    refine op_isnot_bl pins s σ H _ _ v u Q I rx ry ⟨p, q, rfl, rfl, ?_⟩
    have : decide (p = q) = (p == q) := by cases p <;> cases q <;> rfl
    rw [this]
    exact g.now hh (.bl _)
  · exact g.elim
end
end Mok09

set_option autoImplicit false
namespace Mok09
open PySem PySem.Spec PyProof.Rows L2
open PySem.SeqAt (EqAt RcLt)
open PySem.W (keyToks keyToksAll dataLt alike alikeAll)
/-! ### the order of data -/
mutual
/-- the very same data -/
def same : PyData → PyData → Bool
  | .none, .none => true
  | .bool a, .bool b => a == b
  | .int a, .int b => a == b
  | .str a, .str b => a == b
  | .list a, .list b => sames a b
  | .tuple a, .tuple b => sames a b
  | _, _ => false
def sames : List PyData → List PyData → Bool
  | [], [] => true
  | x :: xs, y :: ys => same x y && sames xs ys
  | _, _ => false
end
mutual
theorem same_eq : ∀ (x y : PyData), same x y = true → x = y
  | .none, y, h => by cases y <;> simp [same] at h ⊢
  | .bool a, y, h => by cases y <;> simp [same] at h ⊢; exact h
  | .int a, y, h => by cases y <;> simp [same] at h ⊢; exact h
  | .str a, y, h => by cases y <;> simp [same] at h ⊢; exact h
  | .list a, y, h => by cases y <;> simp [same] at h ⊢; exact sames_eq _ _ h
  | .tuple a, y, h => by cases y <;> simp [same] at h ⊢; exact sames_eq _ _ h
  | .dict a, y, h => by cases y <;> simp [same] at h
theorem sames_eq : ∀ (x y : List PyData), sames x y = true → x = y
  | [], y, h => by cases y <;> simp [sames] at h ⊢
  | x :: xs, y, h => by
    cases y with
    | nil => simp [sames] at h
    | cons y ys =>
      simp only [sames, Bool.and_eq_true] at h
      rw [same_eq _ _ h.1, sames_eq _ _ h.2]
end
mutual
theorem same_refl : ∀ (x : PyData), x.canLay0 = true → same x x = true ∧ PyData.eqv x x = true
  | .none, _ => ⟨rfl, rfl⟩
  | .bool a, _ => by simp [same, PyData.eqv]
  | .int a, _ => by simp [same, PyData.eqv]
  | .str a, _ => by simp [same, PyData.eqv]
  | .list a, h => by
    have := sames_refl a (by simpa [PyData.canLay0] using h)
    simpa [same, PyData.eqv] using this
  | .tuple a, h => by
    have := sames_refl a (by simpa [PyData.canLay0] using h)
    simpa [same, PyData.eqv] using this
  | .dict a, h => by simp [PyData.canLay0] at h
theorem sames_refl : ∀ (x : List PyData), PyData.canLayAll0 x = true → sames x x = true ∧ PyData.eqvAll x x = true
  | [], _ => ⟨rfl, rfl⟩
  | x :: xs, h => by
    simp only [PyData.canLayAll0, Bool.and_eq_true] at h
    have h1 := same_refl x h.1
    have h2 := sames_refl xs h.2
    simp [sames, PyData.eqvAll, h1, h2]
end
mutual
/-- two that can be compared by <, up to where they differ first -/
def cmpOk : PyData → PyData → Bool
  | .bool _, .bool _ => true
  | .int _, .int _ => true
  | .str _, .str _ => true
  | .tuple xs, .tuple ys => cmpOks xs ys
  | _, _ => false
def cmpOks : List PyData → List PyData → Bool
  | x :: xs, y :: ys => if same x y = true then cmpOks xs ys else cmpOk x y
  | _, _ => true
end
mutual
/-- two that can be compared and aren't the same are unequal -/
theorem cmp_eqv : ∀ (x y : PyData), cmpOk x y = true → same x y = false → PyData.eqv x y = false
  | .bool a, y, h, n => by cases y <;> simp [cmpOk] at h; simpa [same, PyData.eqv] using n
  | .int a, y, h, n => by cases y <;> simp [cmpOk] at h; simpa [same, PyData.eqv] using n
  | .str a, y, h, n => by cases y <;> simp [cmpOk] at h; simpa [same, PyData.eqv] using n
  | .tuple a, y, h, n => by
    cases y <;> simp [cmpOk] at h
    simp only [same] at n
    simpa [PyData.eqv] using cmp_eqvs _ _ h n
  | .none, y, h, _ => by simp [cmpOk] at h
  | .list _, y, h, _ => by simp [cmpOk] at h
  | .dict _, y, h, _ => by simp [cmpOk] at h
theorem cmp_eqvs : ∀ (x y : List PyData), cmpOks x y = true → sames x y = false → PyData.eqvAll x y = false
  | [], [], _, n => by simp [sames] at n
  | [], y :: ys, _, _ => rfl
  | x :: xs, [], _, _ => rfl
  | x :: xs, y :: ys, h, n => by
    simp only [cmpOks] at h
    simp only [PyData.eqvAll]
    split at h
    · rename_i e
      simp only [sames, e, Bool.true_and] at n
      rw [cmp_eqvs xs ys h n, Bool.and_false]
    · rename_i e
      rw [cmp_eqv x y h (by simpa using e), Bool.false_and]
end
theorem str_ne {x y : Str} (h : x ≠ y) : x.cps.toList ≠ y.cps.toList := fun e => h (PySem.W.str_of_cps e)
mutual
theorem tok_split : ∀ (d e : PyData), cmpOk d e = true → same d e = false → ∀ r t, lexLt itemOrd (keyToks d ++ r) (keyToks e ++ t) = lexLt itemOrd (keyToks d) (keyToks e)
  | .str x, e, h, n, r, t => by
    cases e <;> simp [cmpOk] at h
    rename_i y
    have ne : (Sum.inr x.cps.toList : Int ⊕ List Nat) ≠ .inr y.cps.toList := fun e => str_ne (fun e => by subst e; simp [same] at n) (Sum.inr.inj e)
    simp only [keyToks, List.cons_append, List.nil_append]
    rw [PyProof.Rows.lex_diff (O := itemOrd) ne, PyProof.Rows.lex_diff (O := itemOrd) ne]
  | .int x, e, h, n, r, t => by
    cases e <;> simp [cmpOk] at h
    rename_i y
    have ne : (Sum.inl x : Int ⊕ List Nat) ≠ .inl y := fun e => by cases Sum.inl.inj e; simp [same] at n
    simp only [keyToks, List.cons_append, List.nil_append]
    rw [PyProof.Rows.lex_diff (O := itemOrd) ne, PyProof.Rows.lex_diff (O := itemOrd) ne]
  | .bool x, e, h, n, r, t => by
    cases e <;> simp [cmpOk] at h
    rename_i y
    have ne : (Sum.inl (if x = true then 1 else 0) : Int ⊕ List Nat) ≠ .inl (if y = true then 1 else 0) := fun e => by
      cases x <;> cases y <;> simp [same] at n e
    simp only [keyToks, List.cons_append, List.nil_append]
    rw [PyProof.Rows.lex_diff (O := itemOrd) ne, PyProof.Rows.lex_diff (O := itemOrd) ne]
  | .tuple xs, e, h, n, r, t => by
    cases e <;> simp [cmpOk] at h
    simp only [keyToks]
    exact toks_split xs _ h (by simpa [same] using n) r t
  | .none, _, h, _, _, _ => by simp [cmpOk] at h
  | .list _, _, h, _, _, _ => by simp [cmpOk] at h
  | .dict _, _, h, _, _, _ => by simp [cmpOk] at h
theorem toks_split : ∀ (xs ys : List PyData), cmpOks xs ys = true → sames xs ys = false → ∀ r t, lexLt itemOrd (keyToksAll xs ++ r) (keyToksAll ys ++ t) = lexLt itemOrd (keyToksAll xs) (keyToksAll ys)
  | [], [], _, h, _, _ => by simp [sames] at h
  | [], y :: ys, _, _, r, t => by
    simp only [keyToksAll, List.cons_append, List.nil_append]
    rw [PyProof.Rows.lex_diff (O := itemOrd) (by simp), PyProof.Rows.lex_diff (O := itemOrd) (by simp)]
  | x :: xs, [], _, _, r, t => by
    simp only [keyToksAll, List.cons_append, List.nil_append]
    rw [PyProof.Rows.lex_diff (O := itemOrd) (by simp), PyProof.Rows.lex_diff (O := itemOrd) (by simp)]
  | x :: xs, y :: ys, h, n, r, t => by
    simp only [cmpOks] at h
    simp only [keyToksAll, List.cons_append, List.append_assoc]
    rw [PyProof.Rows.lex_self (O := itemOrd), PyProof.Rows.lex_self (O := itemOrd)]
    split at h
    · rename_i e
      have e' := same_eq _ _ e
      subst e'
      rw [PySem.W.lex_pre, PySem.W.lex_pre]
      exact toks_split xs ys h (by simpa [sames, e] using n) r t
    · rename_i e
      have e : same x y = false := by simpa using e
      rw [tok_split x y h e, tok_split x y h e]
end
/-- the first difference of two rows -/
theorem lt_same {x : PyData} {xs ys : List PyData} : lexLt itemOrd (keyToksAll (x :: xs)) (keyToksAll (x :: ys)) = lexLt itemOrd (keyToksAll xs) (keyToksAll ys) := by
  simp only [keyToksAll]
  rw [PyProof.Rows.lex_self (O := itemOrd), PySem.W.lex_pre]
theorem lt_diff {x y : PyData} {xs ys : List PyData} (h : cmpOk x y = true) (n : same x y = false) : lexLt itemOrd (keyToksAll (x :: xs)) (keyToksAll (y :: ys)) = dataLt x y := by
  simp only [keyToksAll]
  rw [PyProof.Rows.lex_self (O := itemOrd)]
  exact tok_split x y h n _ _
theorem lt0 (y : PyData) (ys : List PyData) : lexLt itemOrd (keyToksAll []) (keyToksAll (y :: ys)) = true := by
  simp only [keyToksAll]
  rw [PyProof.Rows.lex_diff (O := itemOrd) (by simp)]
  decide
theorem lt1 (y : PyData) (ys : List PyData) : lexLt itemOrd (keyToksAll (y :: ys)) (keyToksAll []) = false := by
  simp only [keyToksAll]
  rw [PyProof.Rows.lex_diff (O := itemOrd) (by simp)]
  decide
theorem lt_asym (a b : PyData) (h : dataLt a b = true) : dataLt b a = false := by
  rcases SrtO.bcase (dataLt b a) with q | q
  · have := PyProof.Rows.lex_trans (O := itemOrd) _ _ _ h q
    rw [PyProof.Rows.lex_irrefl] at this
    cases this
  · exact q
theorem lt_tr (a b c : PyData) (h1 : dataLt b a = false) (h2 : dataLt c b = false) : dataLt c a = false := by
  rcases SrtO.bcase (dataLt c a) with q | q
  · rcases PyProof.Rows.lex_negTrans (O := itemOrd) _ (keyToks b) _ q with z | z
    · exact absurd (h2.symm.trans z) (by decide)
    · exact absurd (h1.symm.trans z) (by decide)
  · exact q
/-- neither is below the other: they are the same -/
theorem lt_total {a b : PyData} (h : cmpOk a b = true) (h1 : dataLt a b = false) (h2 : dataLt b a = false) : same a b = true := by
  rcases SrtO.bcase (same a b) with q | q
  · exact q
  · have e := PyProof.Rows.lex_total (O := itemOrd) _ _ h1 h2
    have z := tok_split a b h q [.inl 5] [.inl 7]
    rw [e, PySem.W.lex_pre, PyProof.Rows.lex_irrefl] at z
    exact absurd z (by decide)
/-- two rows of things, gone through up to where they differ first -/
inductive Fst (A : Around) (s : Shared) (fin : Bool) : List (Value × Value) → Bool → Prop
  | nil : Fst A s fin [] fin
  | same {p q : Value} {r : List (Value × Value)} {k : Bool} : EqAt A s p q true → Fst A s fin r k → Fst A s fin ((p, q) :: r) k
  | diff {p q : Value} {r : List (Value × Value)} {k : Bool} : EqAt A s p q false → RcLt A s p q k → Fst A s fin ((p, q) :: r) k
section
open PySem.AutoSeq1 in
theorem tup_ltF (l b : Addr) (items items2 : Array Value) (n n2 : Nat) (dd dd2 : Option Addr) (sl sl2 : Array (Option Value)) (k : Bool) :
    Meets (Builtin.«tuple.__lt__» ⟨[.ref l, .ref b], []⟩)
      (fun A R s => s.heap.get? l = some { cls := .type "tuple", dict := dd, data := .seq items n, slots := sl } ∧ s.heap.get? b = some { cls := .type "tuple", dict := dd2, data := .seq items2 n2, slots := sl2 } ∧
        Fst A.in1 s (decide (items.size < items2.size)) (items.toList.zip items2.toList) k ∧ R (.ok (.ret (.bool k))) s) :=
  .of_wp fun prog w A R s h => by
    obtain ⟨hp, g, d, tk, os⟩ := s
    obtain ⟨hl, hb, hf, h⟩ := h
    have f2 := PySem.AutoSeq1.sub_tuple_tuple
    wp_walk using wpAny_loadPart' hl, wpAny_loadPart' hb, wpAny_forIn_list _ (fun rest c s' => c.1 = none ∧ s' = ⟨hp, g, d, tk, os⟩ ∧ Fst A.in1 ⟨hp, g, d, tk, os⟩ (decide (items.size < items2.size)) rest k) _
    case turn =>
      rintro ⟨y, x⟩ rest c s' ⟨hc, rfl, hF⟩
      cases hF with
      | same he hr =>
        refine wpAny_bind (he prog w _ _ ?_)
        wp_walk
        exact ⟨rfl, rfl, hr⟩
      | diff he hr =>
        refine wpAny_bind (he prog w _ _ ?_)
        have hr' := fun E Q => hr prog w E Q
        wp_walk using hr'
        exact ⟨_, rfl, h⟩
    case fin =>
      rintro ⟨c1, c2⟩ s' ⟨hc, rfl, hF⟩
      simp only at hc
      subst hc
      cases hF
      wp_walk
      exact ⟨_, rfl, by simpa [Builtin.Tuple.tupleCompareSizes] using h⟩
    case h =>
      exact ⟨rfl, rfl, hf⟩
end
theorem rc_tupF {A : Around} {s : Shared} {l b : Addr} {items items2 : Array Value} {k : Bool} (hl : s.heap.IsTuple l items) (hb : s.heap.IsTuple b items2) (hu : A.units < cLine)
    (hF : Fst A.in1 s (decide (items.size < items2.size)) (items.toList.zip items2.toList) k) : RcLt A s (.ref l) (.ref b) k := fun prog w E Q h => by
  obtain ⟨⟨cls, dd, data, sl⟩, ho, hc, n, hd⟩ := id hl
  obtain ⟨⟨cls2, dd2, data2, sl2⟩, ho2, hc2, n2, hd2⟩ := id hb
  simp only at hc hd hc2 hd2
  subst hc hd hc2 hd2
  exact PySem.richCompare_meets_room (op := .Lt) ⟨_, ho, rfl⟩ ⟨_, ho2, rfl⟩ F.slot_tuple_lt F.entry_tuple_lt (F.args_tuple_lt_2 _ _) (tup_ltF l b items items2 n n2 dd dd2 sl sl2 k)
    ⟨ho, ho2, hF, show Value.bool k ≠ Value.notImplemented ∧ Q (.bool k) s from ⟨(fun x => nomatch x), h⟩⟩ hu
mutual
theorem rc_data : ∀ (d e : PyData) (A : Around) (s : Shared) (a b : Value) (as bs : List Addr), Reads s.heap a d as → Reads s.heap b e bs → cmpOk d e = true → d.canLay0 = true → e.canLay0 = true → A.units + min d.depth e.depth < cLine → RcLt A s a b (dataLt d e)
  | .str x, e, A, s, a, b, as, bs, ra, rb, h, _, _, hu => by
    cases e <;> simp [cmpOk] at h
    exact PySem.W.rcLt_alike _ _ A s a b as bs ra rb rfl (by simp) hu
  | .int x, e, A, s, a, b, as, bs, ra, rb, h, _, _, hu => by
    cases e <;> simp [cmpOk] at h
    exact PySem.W.rcLt_alike _ _ A s a b as bs ra rb rfl (by simp) hu
  | .bool x, e, A, s, a, b, as, bs, ra, rb, h, _, _, hu => by
    cases e <;> simp [cmpOk] at h
    exact PySem.W.rcLt_alike _ _ A s a b as bs ra rb rfl (by simp) hu
  | .tuple xs, e, A, s, a, b, as, bs, ra, rb, h, l1, l2, hu => by
    cases e <;> simp [cmpOk] at h
    rename_i ys
    cases ra with
    | @tuple l o vs n _ as₁ h1 h2 h3 h4 =>
      cases rb with
      | @tuple l' o' vs' n' _ bs₁ k1 k2 k3 k4 =>
        rw [PySem.W.dataLt_tuple]
        refine rc_tupF ⟨_, h1, h2, _, h3⟩ ⟨_, k1, k2, _, k3⟩ (PySem.SeqAt.room_here hu) ?_
        have := rc_datas xs ys A.in1 s vs.toList vs'.toList _ _ h4 k4 h (by simpa [PyData.canLay0] using l1) (by simpa [PyData.canLay0] using l2) (PySem.SeqAt.room_in hu)
        simpa using this
  | .none, _, _, _, _, _, _, _, _, _, h, _, _, _ => by simp [cmpOk] at h
  | .list _, _, _, _, _, _, _, _, _, _, h, _, _, _ => by simp [cmpOk] at h
  | .dict _, _, _, _, _, _, _, _, _, _, h, _, _, _ => by simp [cmpOk] at h
theorem rc_datas : ∀ (xs ys : List PyData) (A : Around) (s : Shared) (vs ws : List Value) (as bs : List Addr), ReadsAll s.heap vs xs as → ReadsAll s.heap ws ys bs → cmpOks xs ys = true → PyData.canLayAll0 xs = true → PyData.canLayAll0 ys = true →
    A.units + min (PyData.depthAll xs) (PyData.depthAll ys) < cLine → Fst A s (decide (vs.length < ws.length)) (vs.zip ws) (lexLt itemOrd (keyToksAll xs) (keyToksAll ys))
  | [], [], A, s, _, _, _, _, ra, rb, _, _, _, _ => by
    cases ra
    cases rb
    rw [PyProof.Rows.lex_irrefl]
    exact .nil
  | [], y :: ys, A, s, _, _, _, _, ra, rb, _, _, _, _ => by
    cases ra
    cases rb
    rw [lt0]
    simpa using Fst.nil (A := A) (s := s) (fin := true)
  | x :: xs, [], A, s, _, _, _, _, ra, rb, _, _, _, _ => by
    cases ra
    cases rb
    rw [lt1]
    exact .nil
  | x :: xs, y :: ys, A, s, _, _, _, _, ra, rb, hc, l1, l2, hu => by
    simp only [PyData.canLayAll0, Bool.and_eq_true] at l1 l2
    simp only [cmpOks] at hc
    cases ra with
    | cons r rs =>
      cases rb with
      | cons r' rs' =>
        have he := PySem.SeqAt.eqAt_reads x y A s _ _ _ _ r r' l1.1 l2.1 (PySem.SeqAt.room_head hu)
        split at hc
        · rename_i e
          have e' := same_eq _ _ e
          subst e'
          rw [(same_refl x l1.1).2] at he
          rw [lt_same]
          have := rc_datas xs ys A s _ _ _ _ rs rs' hc l1.2 l2.2 (PySem.SeqAt.room_tail hu)
          refine .same he ?_
          have hd : ∀ {v w' : Value} {vs ws : List Value}, decide ((v :: vs).length < (w' :: ws).length) = decide (vs.length < ws.length) := fun {v w' vs ws} => by simp
          rw [hd]
          exact this
        · rename_i e
          have e : same x y = false := by simpa using e
          rw [cmp_eqv x y hc e] at he
          rw [lt_diff hc e]
          exact .diff he (rc_data x y A s _ _ _ _ r r' hc l1.1 l2.1 (PySem.SeqAt.room_head hu))
end
end Mok09

set_option autoImplicit false
namespace Mok09
open PySem PySem.Spec PyProof.Rows L2
/-! ### places in lists, tuples, texts -/
theorem atI_all {K : PySem.W.Frag} {L : Addr → Prop} {H : Hp} {vs : List V} {xs : List PyData} {i : Int} {x : PyData} (h : DvAll K L H vs xs) (e : atI xs i = some x) : ∃ v, atI vs i = some v ∧ Dv K L H v x := by
  unfold atI at e ⊢
  rw [h.len]
  cases q : ixN xs.length i with
  | none => rw [q] at e; cases e
  | some j =>
    rw [q] at e
    exact h.get e
def seqV : W → Mem → Option (List PyData)
  | .s ns, _ => some (ns.map .int)
  | w, μ => viewL w μ
theorem ints_all {K : PySem.W.Frag} {L : Addr → Prop} {H : Hp} : ∀ ns : List Int, DvAll K L H (ns.map V.int) (ns.map .int)
  | [] => .nil
  | n :: ns => .cons (.int n) (ints_all ns)
theorem seq_ok {K : PySem.W.Frag} {m : Ms} {H : Hp} {μ : Mem} {w : W} {v : V} {xs : List PyData} (r : RV K m H w v) (hh : RH K m H μ) (e : seqV w μ = some xs) : ∃ a vs, v = .ref a ∧ (SqL K H a vs ∨ SqT K H a vs) ∧ DvAll K (Live m) H vs xs := by
  cases w with
  | d x => exact view_ok r hh e
  | r n => exact view_ok r hh e
  | s ns =>
    cases e
    obtain ⟨a, rfl, h⟩ := r
    exact ⟨a, _, rfl, .inl h.sq, ints_all ns⟩
def opIx : Op
  | [o, .d (.int i)], μ => match seqV o μ with
    | some xs => match atI xs i with
      | some x => some (.d x, μ)
      | none => none
    | none => match o with
      | .d (.str z) => if sz z.length = true then (match atI z.cps.toList i with
        | some c => some (.d (.str ⟨#[c]⟩), μ)
        | none => none) else none
      | _ => none
  | _, _ => none
section
variable {X : Cx} {ct : Ct} {Z : WX}
theorem ix_op : IxR X (fun x y H Q => rN X.K opIx [x, y] H Q) := by
  intro value slice pins s σ H x y v u Q I rx ry h hs
  obtain ⟨m, μ, ws, r, hh, g⟩ := h
  obtain ⟨a, b, rfl, r1, r2⟩ := two r
  unfold opIx at g
  split at g
  · rename_i o i e
    simp only [List.cons.injEq, and_true] at e
    obtain ⟨rfl, rfl⟩ := e
    cases r2
    split at g
    · rename_i xs e1
      obtain ⟨p, vs, rfl, hq, ha⟩ := seq_ok r1 hh e1
      split at g
      · rename_i x e2
        obtain ⟨z, h1, h2⟩ := atI_all ha e2
        exact ix_seq value slice pins s σ H _ _ v u Q I rx ry (hq.elim (fun q => .inl ⟨p, vs, i, z, rfl, rfl, q, h1, g.now hh h2⟩) fun q => .inr (.inl ⟨p, vs, i, z, rfl, rfl, q, h1, g.now hh h2⟩)) hs
      · exact g.elim
    · split at g
      · split at g
        · rename_i z _ hz
          cases r1
          split at g
          · rename_i c e2
            exact ix_seq value slice pins s σ H _ _ v u Q I rx ry (.inr (.inr ⟨z, i, c, rfl, rfl, sz_le hz, e2, g.now hh (.str _)⟩)) hs
          · exact g.elim
        · exact g.elim
      · exact g.elim
  · exact g.elim
/-! ### slices -/
abbrev DO := Env → Mem → Res (Option Int)
def tO (K : PySem.W.Frag) (ct : Ct) (Z : WX) (d : DO) : TO := fun σ H Q => ∃ m ρ μ, EnvR K m H ρ σ ∧ RH K m H μ ∧ Gd K ct Z m σ H (d ρ μ) (fun o _ _ H' => Q o H')
structure MO' (X : Cx) (ct : Ct) (Z : WX) (e : Option Expr) (d : DO) : Prop where
  po : PO X e (tO X.K ct Z d)
theorem po_imp {e : Option Expr} {t t' : TO} (h : PO X e t) (k : ∀ σ H Q, t' σ H Q → t σ H Q) : PO X e t' := ⟨fun pins s σ H Q I q => h.run pins s σ H Q I (k σ H Q q)⟩
def dNo : DO := fun _ μ => .ok none μ
def asI : W → Mem → Res (Option Int)
  | .d (.int i), μ => .ok (some i) μ
  | _, _ => .bad
def dPart (d : DE) : DO := fun ρ μ => bnd (d ρ μ) asI
theorem moNo : MO' X ct Z none dNo := ⟨po_imp po_none fun σ H Q ⟨m, ρ, μ, he, hh, g⟩ => g m H (.refl _ _) hh⟩
theorem moPart {e : Expr} {d : DE} (h : ME X ct Z e d) : MO' X ct Z (some e) (dPart d) := by
  refine ⟨po_imp (po_some h.pe) fun σ H Q h => ?_⟩
  obtain ⟨m, ρ, μ, he, hh, g⟩ := h
  refine ⟨m, ρ, μ, he, hh, (Gd.bnd g).mono fun w μ1 m1 H1 e1 h1 g1 v r1 => ?_⟩
  unfold asI at g1
  split at g1
  · rename_i i
    cases r1
    exact ⟨i, rfl, g1 m1 H1 (.refl _ _) h1⟩
  · exact g1.elim
def cutD {α : Type} (xs : List α) (lo hi : Option Int) : List α := (xs.drop (HT.sIx xs.length 0 lo)).take (HT.sIx xs.length xs.length hi - HT.sIx xs.length 0 lo)
theorem cut_all {K : PySem.W.Frag} {L : Addr → Prop} {H : Hp} {vs : List V} {xs : List PyData} (h : DvAll K L H vs xs) (lo hi : Option Int) : DvAll K L H (cutV vs lo hi) (cutD xs lo hi) := by
  unfold cutV cutD
  rw [h.len]
  exact (h.drop _).take _
/-- a slice -/
def slW (own : Bool) (lo hi : Option Int) : W → Mem → Option (W × Mem)
  | .d (.tuple xs), μ => mkT (cutD xs lo hi) μ
  | .d (.str z), μ => if sz z.length = true then some (.d (.str (cutS z lo hi)), μ) else none
  | .s ns, μ => mkL own ((cutD ns lo hi).map .int) μ
  | w, μ => match listV w μ with
    | some xs => mkL own (cutD xs lo hi) μ
    | none => none
def rSl (K : PySem.W.Frag) (own : Bool) : V → Option Int → Option Int → Hp → VK → Prop := fun x lo hi H Q => ∃ m μ w, RV K m H w x ∧ RH K m H μ ∧ GdO K m H (slW own lo hi w μ) Q
theorem cut_map (ns : List Int) (lo hi : Option Int) : cutV (ns.map V.int) lo hi = (cutD ns lo hi).map V.int := by
  unfold cutV cutD
  simp
theorem cut_len {α : Type} (xs : List α) (lo hi : Option Int) : (cutD xs lo hi).length ≤ xs.length := by
  unfold cutD
  rw [List.length_take, List.length_drop]
  omega
theorem cut_whole {xs : List PyData} {lo hi : Option Int} (h : HT.sIx xs.length 0 lo = 0 ∧ HT.sIx xs.length xs.length hi = xs.length) : cutD xs lo hi = xs := by
  unfold cutD
  rw [h.1, h.2]
  simp
theorem sl_op {own : Bool} : SlR X (rSl X.K own) := by
  intro pins s σ H x v vl vu lo hi sl Q I rx hs pl pu h
  obtain ⟨m, μ, w, r, hh, g⟩ := h
  unfold slW at g
  split at g
  · cases r with
    | tup h1 h2 =>
      rename_i a us
      refine sl_tupF pins s σ H _ v vl vu lo hi sl Q I rx hs pl pu ⟨a, us, rfl, h1.sq, fun q => ?_, fun q p o hd hp => (tup_new hh (cut_all h2 lo hi) g hd hp).2⟩
      rw [h2.len] at q
      rw [cut_whole q] at g
      unfold mkT at g
      split at g
      · exact g.now hh (.tup h1 h2)
      · exact g.elim
  · split at g
    · cases r
      exact sl_str pins s σ H _ v vl vu lo hi sl Q I rx hs pl pu ⟨_, rfl, sz_le (by assumption), g.now hh (.str _)⟩
    · exact g.elim
  · rename_i ns _
    obtain ⟨a, rfl, h⟩ := r
    refine sl_list pins s σ H _ v vl vu lo hi sl Q I rx hs pl pu ⟨a, _, rfl, h.sq, fun p hp => ?_⟩
    rw [cut_map]
    exact (lst_new hh (ints_all _) g hp).2
  · split at g
    · rename_i xs e
      obtain ⟨a, us, rfl, h1, h2⟩ := listV_ok r hh e
      exact sl_list pins s σ H _ v vl vu lo hi sl Q I rx hs pl pu ⟨a, us, rfl, .inl (.inl h1), fun p hp => (lst_new hh (cut_all h2 lo hi) g hp).2⟩
    · exact g.elim
def dSl (own : Bool) (da : DE) (dl dh : DO) : DE := fun ρ μ => bnd (da ρ μ) fun x μ1 => bnd (dl ρ μ1) fun lo μ2 => bnd (dh ρ μ2) fun hi μ3 => ofO (slW own lo hi x μ3)
theorem mSl {own : Bool} {e : Expr} {lo hi : Option Expr} {p2 pos : Pos} {da : DE} {dl dh : DO} (ha : ME X ct Z e da) (hl : MO' X ct Z lo dl) (hu : MO' X ct Z hi dh) : ME X ct Z (.Subscript e (.Slice lo hi none p2) pos) (dSl own da dl dh) := by
  refine ⟨pe_imp (pe_slice (sl_op (own := own)) ha.pe hl.po hu.po) fun σ H Q h => ?_⟩
  obtain ⟨m, ρ, μ, he, hh, g⟩ := h
  refine ⟨m, ρ, μ, he, hh, (Gd.bnd g).mono fun w μ1 m1 H1 e1 h1 g1 v r1 => ⟨m1, ρ, μ1, he.ext e1, h1, (Gd.bnd g1).mono fun l μ2 m2 H2 e2 h2 g2 => ⟨m2, ρ, μ2, (he.ext e1).ext e2, h2, (Gd.bnd g2).mono fun u μ3 m3 H3 e3 h3 g3 => ?_⟩⟩⟩
  refine ⟨m3, μ3, w, (r1.ext e2).ext e3, h3, ?_⟩
  unfold GdO
  cases q : slW own l u w μ3 with
  | none => rw [q] at g3; exact g3
  | some p => rw [q] at g3; exact fun m' H' v e' h' r' => g3 m' H' e' h' v r'
/-! ### calls of what is built in -/
def CallO (X : Cx) (f : Value) (o : Op) : Prop := CallR X f fun vs H Q => rN X.K o vs H Q
theorem mCallB {e : Expr} {es : List Expr} {x : Str} {id : String} {p pos : Pos} {o : Op} {da : DA} (hc : CallO X (.builtin id) o) (ha : MA X ct Z (e :: es) da) (hm : X.mg x = none) (hg : Gl X x := by rfl) (hv : bootBuiltins x = some (.builtin id) := by decide +kernel)
    (he : starEach (e :: es) X.env = (false, eval e X.env) :: starEach es X.env := by rfl) (hpl : (backTo pos (starEach es X.env)).any (·.1) = false := by rfl) (hn : x ≠ "__name__" := by decide) (hdb : (x == ("__debug__" : Str)) = false := by decide) : ME X ct Z (.Call (.Name x p) (e :: es) [] pos) (dPn o da) :=
  ⟨pe_imp (pe_callB hc hg hm hv ha.pa hn hdb he hpl) fun _ _ _ h => tn_of h⟩
theorem mCallT {e : Expr} {es : List Expr} {x : Str} {T : String} {p pos : Pos} {o : Op} {da : DA} (hc : CallO X (.type T) o) (ha : MA X ct Z (e :: es) da) (hm : X.mg x = none) (hg : Gl X x := by rfl) (hv : bootBuiltins x = some (.type T) := by decide +kernel)
    (he : starEach (e :: es) X.env = (false, eval e X.env) :: starEach es X.env := by rfl) (hpl : (backTo pos (starEach es X.env)).any (·.1) = false := by rfl) (hn : x ≠ "__name__" := by decide) (hdb : (x == ("__debug__" : Str)) = false := by decide) : ME X ct Z (.Call (.Name x p) (e :: es) [] pos) (dPn o da) :=
  ⟨pe_imp (pe_callTy hc hg hm hv ha.pa hn hdb he hpl) fun _ _ _ h => tn_of h⟩
def opLen : Op
  | [w], μ => match seqV w μ with
    | some xs => pI xs.length μ
    | none => match w with
      | .d (.str z) => if sz z.length = true then pI z.length μ else none
      | _ => none
  | _, _ => none
theorem len_op : CallO X (.builtin "len") opLen := by
  intro pins s σ H xs us Q I r h
  obtain ⟨m, μ, ws, rr, hh, g⟩ := h
  unfold opLen at g
  split at g
  · rename_i w
    cases rr with
    | cons r1 t =>
      cases t
      rename_i v
      split at g
      · rename_i ys e
        obtain ⟨a, vs, rfl, hq, ha⟩ := seq_ok r1 hh e
        refine call_len_seq pins s σ H _ us Q I r ⟨a, vs, rfl, hq, ?_⟩
        rw [ha.len]
        exact g.now hh (.int _)
      · split at g
        · split at g
          · cases r1
            exact call_len_str pins s σ H _ us Q I r ⟨_, rfl, sz_le (by assumption), g.now hh (.int _)⟩
          · exact g.elim
        · exact g.elim
  · exact g.elim
def opTuple : Op
  | [.d (.tuple xs)], μ => some (.d (.tuple xs), μ)
  | [w], μ => match seqV w μ with
    | some xs => mkT xs μ
    | none => none
  | [], μ => some (.d (.tuple []), μ)
  | _, _ => none
def opList (own : Bool) : Op
  | [w], μ => match seqV w μ with
    | some xs => mkL own xs μ
    | none => none
  | [], μ => mkL own [] μ
  | _, _ => none
/-- what is no tuple is a list -/
theorem seq_list {K : PySem.W.Frag} {m : Ms} {H : Hp} {μ : Mem} {w : W} {v : V} {xs : List PyData} (r : RV K m H w v) (hh : RH K m H μ) (e : seqV w μ = some xs) (n : ∀ ys, w ≠ .d (.tuple ys)) : ∃ a vs, v = .ref a ∧ SqL K H a vs ∧ DvAll K (Live m) H vs xs := by
  cases w with
  | d x =>
    cases r with
    | lst hs ha => cases e; exact ⟨_, _, rfl, hs.sq, ha⟩
    | tup hs ha => exact (n _ rfl).elim
    | _ => cases e
  | r k =>
    obtain ⟨a, vs, rfl, h1, h2⟩ := listV_ok (w := .r k) r hh e
    exact ⟨a, vs, rfl, .inl (.inl h1), h2⟩
  | s ns =>
    cases e
    obtain ⟨a, rfl, h⟩ := r
    exact ⟨a, _, rfl, h.sq, ints_all ns⟩
theorem tuple_op1 {w : W} {v : V} {m : Ms} {μ : Mem} {H : Hp} {pins : List (Addr × Obj)} {s : Shared} {σ : L2.St} {us : List Value} {Q : VK} (I : Inv X pins σ H s) (r : Vals [v] us) (r1 : RV X.K m H w v) (hh : RH X.K m H μ) (g : GdO X.K m H (opTuple [w] μ) Q) :
    wpAny (model X.prog X.w) X.A (call (.type "tuple") us) (EP X pins σ Q) X.xe s := by
  unfold opTuple at g
  split at g
  · rename_i xs e
    simp only [List.cons.injEq, and_true] at e
    subst e
    cases r1 with
    | tup h1 h2 => exact call_tupleF pins s σ H _ us Q I r ⟨_, _, rfl, .inr ⟨h1.sq, g.now hh (.tup h1 h2)⟩⟩
  · rename_i hno e
    simp only [List.cons.injEq, and_true] at e
    subst e
    split at g
    · rename_i xs e
      obtain ⟨a, vs, rfl, hq, ha⟩ := seq_list r1 hh e fun ys q => hno ys (by rw [q])
      exact call_tupleF pins s σ H _ us Q I r ⟨_, _, rfl, .inl ⟨hq, fun p o hd hp => (tup_new hh ha g hd hp).2⟩⟩
    · exact g.elim
  · rename_i e
    cases e
  · exact g.elim
end
end Mok09

set_option autoImplicit false
namespace Mok09
open PySem PySem.Spec PyProof.Rows L2
open PySem.W (dataLt)
section
variable {X : Cx} {ct : Ct} {Z : WX}
/-! ### in, <, repr -/
def opIn (neg : Bool) : Op
  | [a, b], μ => match peek a μ, peek b μ with
    | some x, some (.list ys) => if (SeqAt.shaped x && PyData.canLayAll0 ys) = true then pB (if neg = true then !(ys.any fun y => PyData.eqv y x) else ys.any fun y => PyData.eqv y x) μ else none
    | some x, some (.tuple ys) => if (SeqAt.shaped x && PyData.canLayAll0 ys) = true then pB (if neg = true then !(ys.any fun y => PyData.eqv y x) else ys.any fun y => PyData.eqv y x) μ else none
    | some (.str x), some (.str y) => pB (if neg = true then !!(Builtin.Str.occurrences y x 0 y.length 1).isEmpty else !(Builtin.Str.occurrences y x 0 y.length 1).isEmpty) μ
    | _, _ => none
  | _, _ => none
theorem shaped_dep {x : PyData} (h : SeqAt.shaped x = true) : x.depth ≤ 64 := by
  unfold SeqAt.shaped at h
  rw [Bool.and_eq_true] at h
  simpa using h.2
theorem op2_in (hu : X.A.units + 66 < cLine) : Op2R X (compareOp .In) (opIn false) := by
  intro pins s σ H x y v u Q I rx ry h
  obtain ⟨m, μ, ws, r, hh, g⟩ := h
  obtain ⟨a, b, rfl, r1, r2⟩ := two r
  unfold opIn at g
  dsimp only at g
  split at g
  · rename_i p ys e1 e2
    split at g
    · rename_i hs
      rw [Bool.and_eq_true] at hs
      obtain ⟨as, k1⟩ := Dp.reads I _ _ _ ((peek_ok r1 hh e1).dp (shaped_lay hs.1)) rx
      obtain ⟨bs, k2⟩ := Dp.reads I _ _ _ ((peek_ok r2 hh e2).dp (by simpa [PyData.canLay0] using hs.2)) ry
      refine SeqAt.in_list_reads k2 k1 hs.2 (shaped_lay hs.1) ?_ ⟨.bl _, H, I, rfl, g.now hh (.bl _)⟩
      have := Nat.min_le_right (PyData.depthAll ys) p.depth
      have := shaped_dep hs.1
      omega
    · exact g.elim
  · rename_i p ys e1 e2
    split at g
    · rename_i hs
      rw [Bool.and_eq_true] at hs
      obtain ⟨as, k1⟩ := Dp.reads I _ _ _ ((peek_ok r1 hh e1).dp (shaped_lay hs.1)) rx
      obtain ⟨bs, k2⟩ := Dp.reads I _ _ _ ((peek_ok r2 hh e2).dp (by simpa [PyData.canLay0] using hs.2)) ry
      refine SeqAt.in_tuple_reads k2 k1 hs.2 (shaped_lay hs.1) ?_ ⟨.bl _, H, I, rfl, g.now hh (.bl _)⟩
      have := Nat.min_le_right (PyData.depthAll ys) p.depth
      have := shaped_dep hs.1
      omega
    · exact g.elim
  · rename_i p q e1 e2
    cases (peek_ok r1 hh e1)
    cases (peek_ok r2 hh e2)
    exact op_in_str pins s σ H _ _ v u Q I rx ry ⟨p, q, rfl, rfl, g.now hh (.bl _)⟩
  · exact g.elim
theorem op2_notin (hu : X.A.units + 66 < cLine) : Op2R X (compareOp .NotIn) (opIn true) := by
  intro pins s σ H x y v u Q I rx ry h
  obtain ⟨m, μ, ws, r, hh, g⟩ := h
  obtain ⟨a, b, rfl, r1, r2⟩ := two r
  unfold opIn at g
  dsimp only at g
  split at g
  · rename_i p ys e1 e2
    split at g
    · rename_i hs
      rw [Bool.and_eq_true] at hs
      obtain ⟨as, k1⟩ := Dp.reads I _ _ _ ((peek_ok r1 hh e1).dp (shaped_lay hs.1)) rx
      obtain ⟨bs, k2⟩ := Dp.reads I _ _ _ ((peek_ok r2 hh e2).dp (by simpa [PyData.canLay0] using hs.2)) ry
      refine SeqAt.notIn_list_reads k2 k1 hs.2 (shaped_lay hs.1) ?_ ⟨.bl _, H, I, rfl, g.now hh (.bl _)⟩
      have := Nat.min_le_right (PyData.depthAll ys) p.depth
      have := shaped_dep hs.1
      omega
    · exact g.elim
  · rename_i p ys e1 e2
    split at g
    · rename_i hs
      rw [Bool.and_eq_true] at hs
      obtain ⟨as, k1⟩ := Dp.reads I _ _ _ ((peek_ok r1 hh e1).dp (shaped_lay hs.1)) rx
      obtain ⟨bs, k2⟩ := Dp.reads I _ _ _ ((peek_ok r2 hh e2).dp (by simpa [PyData.canLay0] using hs.2)) ry
      refine SeqAt.notIn_tuple_reads k2 k1 hs.2 (shaped_lay hs.1) ?_ ⟨.bl _, H, I, rfl, g.now hh (.bl _)⟩
      have := Nat.min_le_right (PyData.depthAll ys) p.depth
      have := shaped_dep hs.1
      omega
    · exact g.elim
  · rename_i p q e1 e2
    cases (peek_ok r1 hh e1)
    cases (peek_ok r2 hh e2)
    exact op_notin_str pins s σ H _ _ v u Q I rx ry ⟨p, q, rfl, rfl, g.now hh (.bl _)⟩
  · exact g.elim
/-- two ints compared -/
def opCmp (f : Int → Int → Bool) : Op
  | [.d (.int i), .d (.int j)], μ => pB (f i j) μ
  | _, _ => none
theorem op2_cmp {op : CmpOp} {f : Int → Int → Bool} (ho : OpR X (compareOp op) (rI0 fun i j => .bl (f i j))) : Op2R X (compareOp op) (opCmp f) := by
  intro pins s σ H x y v u Q I rx ry h
  obtain ⟨m, μ, ws, r, hh, g⟩ := h
  obtain ⟨a, b, rfl, r1, r2⟩ := two r
  unfold opCmp at g
  split at g
  · rename_i i j e
    simp only [List.cons.injEq, and_true] at e
    obtain ⟨rfl, rfl⟩ := e
    cases r1
    cases r2
    exact ho pins s σ H _ _ v u Q I rx ry ⟨i, j, rfl, rfl, g.now hh (.bl _)⟩
  · exact g.elim
abbrev opLe : Op := opCmp fun i j => decide (i ≤ j)
abbrev opGt : Op := opCmp fun i j => decide (j < i)
abbrev opGe : Op := opCmp fun i j => decide (j ≤ i)
theorem op2_le : Op2R X (compareOp .LtE) opLe := op2_cmp op_le
theorem op2_gt : Op2R X (compareOp .Gt) opGt := op2_cmp op_gt
theorem op2_ge : Op2R X (compareOp .GtE) opGe := op2_cmp op_ge
/-- < of ints, of data that can be compared -/
def opLt : Op
  | [.d (.int i), .d (.int j)], μ => pB (decide (i < j)) μ
  | [.d x, .d y], μ => if (cmpOk x y && (SeqAt.shaped x && SeqAt.shaped y)) = true then pB (dataLt x y) μ else none
  | _, _ => none
theorem op2_lt (hu : X.A.units + 66 < cLine) : Op2R X (compareOp .Lt) opLt := by
  intro pins s σ H x y v u Q I rx ry h
  obtain ⟨m, μ, ws, r, hh, g⟩ := h
  obtain ⟨a, b, rfl, r1, r2⟩ := two r
  unfold opLt at g
  split at g
  · rename_i i j e
    simp only [List.cons.injEq, and_true] at e
    obtain ⟨rfl, rfl⟩ := e
    cases r1
    cases r2
    exact op_lt pins s σ H _ _ v u Q I rx ry ⟨i, j, rfl, rfl, g.now hh (.bl _)⟩
  · rename_i p q _ e
    simp only [List.cons.injEq, and_true] at e
    obtain ⟨rfl, rfl⟩ := e
    split at g
    · rename_i hs
      rw [Bool.and_eq_true, Bool.and_eq_true] at hs
      obtain ⟨as, k1⟩ := Dp.reads I _ _ _ (Dv.dp r1 (shaped_lay hs.2.1)) rx
      obtain ⟨bs, k2⟩ := Dp.reads I _ _ _ (Dv.dp r2 (shaped_lay hs.2.2)) ry
      refine rc_data p q X.A s v u as bs k1 k2 hs.1 (shaped_lay hs.2.1) (shaped_lay hs.2.2) ?_ _ _ _ _ ⟨.bl _, H, I, rfl, g.now hh (.bl _)⟩
      have := Nat.min_le_right p.depth q.depth
      have := shaped_dep hs.2.2
      omega
    · exact g.elim
  · exact g.elim
def opRepr : Op
  | [w], μ => match peek w μ with
    | some x => if (SeqAt.shaped x && (x.showable && sz x.shown.length)) = true then some (.d (.str x.shown), μ) else none
    | none => none
  | _, _ => none
theorem lay_noDict : ∀ {x : PyData}, x.canLay0 = true → x.hasDict = false := by
  intro x
  refine PyData.rec (motive_1 := fun x => x.canLay0 = true → x.hasDict = false) (motive_2 := fun xs => PyData.canLayAll0 xs = true → PyData.hasDictAll xs = false) (motive_3 := fun _ => True) (motive_4 := fun _ => True) ?_ ?_ ?_ ?_ ?_ ?_ ?_ ?_ ?_ ?_ ?_ ?_ x
  all_goals simp_all [PyData.canLay0, PyData.canLayAll0, PyData.hasDict, PyData.hasDictAll]
theorem repr_op (hgd : X.A.guards = some []) (hu : X.A.units + 66 < cLine) : CallO X (.builtin "repr") opRepr := by
  intro pins s σ H xs us Q I r h
  obtain ⟨m, μ, ws, rr, hh, g⟩ := h
  unfold opRepr at g
  split at g
  · rename_i w
    obtain ⟨v, rfl⟩ : ∃ v, xs = [v] := by
      cases rr with
      | cons _ t => cases t; exact ⟨_, rfl⟩
    have r1 : RV X.K m H w v := by
      cases rr with
      | cons h t => exact h
    split at g
    · rename_i x e
      split at g
      · rename_i hs
        rw [Bool.and_eq_true, Bool.and_eq_true] at hs
        obtain ⟨u, rfl, ru⟩ := vals1 r
        have dp := (peek_ok r1 hh e).dp (shaped_lay hs.1)
        have hz := sz_le hs.2.2
        have q := g.now (v := .str x.shown) hh (.str _)
        cases x with
        | none => cases dp; cases ru; exact PySem.P.repr_of_none ⟨.str _, H, I.tok _, ⟨_, rfl⟩, q⟩
        | bool b => cases dp; cases ru; exact PySem.P.repr_of_bool ⟨.str _, H, I.tok _, ⟨_, rfl⟩, q⟩
        | int i =>
          cases dp
          obtain ⟨t, rfl⟩ := ru
          exact PySem.P.repr_of_int (by simpa [PyData.showable] using hs.2.1) ⟨.str _, H, I.tok _, ⟨_, rfl⟩, q⟩
        | str z =>
          cases dp
          obtain ⟨t, rfl⟩ := ru
          exact PySem.P.repr_of_str ⟨.str _, H, I.tok _, ⟨_, rfl⟩, q⟩ hz
        | list ds =>
          obtain ⟨as, rd⟩ := Dp.reads I _ _ u dp ru
          have hd := shaped_dep hs.1
          have nd := lay_noDict (shaped_lay hs.1)
          cases dp with
          | lst hsq hall =>
            cases ru
            exact repr_of_reads' rd hs.2.1 (fun z => by rw [nd] at z; cases z) hgd (by omega) (fun _ _ e => e) (fun h' u tk hk => ⟨.str _, H, I.kept hk, ⟨_, rfl⟩, q⟩) hz
        | tuple ds =>
          obtain ⟨as, rd⟩ := Dp.reads I _ _ u dp ru
          have hd := shaped_dep hs.1
          have nd := lay_noDict (shaped_lay hs.1)
          cases dp with
          | tup hsq hall =>
            cases ru
            exact repr_of_reads' rd hs.2.1 (fun z => by rw [nd] at z; cases z) hgd (by omega) (fun _ _ e => e) (fun h' u tk hk => ⟨.str _, H, I.kept hk, ⟨_, rfl⟩, q⟩) hz
        | dict _ => exact absurd (shaped_lay hs.1) (by simp [PyData.canLay0])
      · exact g.elim
    · exact g.elim
  · exact g.elim
/-! ### lists that are written -/
theorem put_lst {K : PySem.W.Frag} {m : Ms} {H : Hp} {μ : Mem} {n : Nat} {a : Addr} {vs us : List V} {ys : List PyData} (hh : RH K m H μ) (hm : m.v[n]? = some (some [a])) (hH : H a = some (.lst vs)) (ha : DvAll K (Live m) H us ys) :
    Ext m H m (upd H a (.lst us)) ∧ RH K m (upd H a (.lst us)) (μ.set n (.l ys)) := by
  have e : Ext m H m (upd H a (.lst us)) := .put (vl_at hm (by simp)) hH trivial
  exact ⟨e, hh.put hm hH trivial ⟨a, us, rfl, upd_same, ha.stay e.ks⟩⟩
/-- a built-in method: of the type T -/
def MtO (X : Cx) (id : String) (o : Op) : Prop := MtR X id fun x xs H Q => rN X.K o (x :: xs) H Q
/-- the value is of that built-in type -/
def tyR (K : PySem.W.Frag) (T : String) (x : V) (H : Hp) : Prop := tyV K T x H ∨ (T = "dict" ∧ ∃ a, x = .ref a ∧ IsD H a) ∨ (T = "tuple" ∧ ∃ a xs, x = .ref a ∧ TpR K H a xs)
theorem tyR_is {pins : List (Addr × Obj)} {σ : L2.St} {H : Hp} {s : Shared} {T : String} {x : V} {v : Value} (I : Inv X pins σ H s) (r : RelV x v) (ty : tyR X.K T x H) :
    s.TypeIs v T ∧ ∀ a, v = .ref a → ∃ ob, s.heap.get? a = some ob ∧ ob.dict = none := by
  rcases ty with ty | ⟨rfl, a, rfl, h⟩ | ⟨rfl, a, xs, rfl, h⟩
  · exact tyV_is I r ty
  · cases r
    obtain ⟨h1, h2, _⟩ := isD_at I h
    exact ⟨h1, h2⟩
  · cases r
    rcases h with ⟨o, h, n⟩ | ⟨o, its, k, h1, h2, h3, _⟩
    · obtain ⟨ho, hz, its, rv, o', ho', hc, k, hdat⟩ := I.hok _ _ h
      obtain rfl : o = o' := Option.some.inj (ho.symm.trans ho')
      refine ⟨⟨o, ho, hc⟩, fun b e => ?_⟩
      cases e
      exact ⟨o, ho, n⟩
    · refine ⟨⟨o, I.kIn a o h1, h2⟩, fun b e => ?_⟩
      cases e
      exact ⟨o, I.kIn _ o h1, h3⟩
def tBR0 (K : PySem.W.Frag) (T : String) (r : V → List V → Hp → VK → Prop) (to : TE) : TE := fun σ H Q => to σ H fun x H1 => tyR K T x H1 ∧ r x [] H1 Q
def tBR (K : PySem.W.Frag) (T : String) (r : V → List V → Hp → VK → Prop) (to : TE) (t : TA) : TE := fun σ H Q => to σ H fun x H1 => tyR K T x H1 ∧ t σ H1 fun xs H2 => r x xs H2 Q
theorem pe_br0 {o : Expr} {to : TE} {name : Str} {apos cpos : Pos} {T id : String} {r : V → List V → Hp → VK → Prop} (pa : PlainAttrs T) (slot : Slot T name id) (hty : typeOf (.builtin id) = pure (.type "method_descriptor")) (hm : MtR X id r) (ho : PE X o to)
    (hbase : attributeBase o name X.env (eval o X.env) = eval o X.env) (hline : (apos.endLine == cpos.line) = true) : PE X (.Call (.Attribute o name apos) [] [] cpos) (tBR0 X.K T r to) := by
  refine ⟨fun pins s σ H Q I h => ?_⟩
  refine wpAny_Call_method0_late hbase hline (thn (ho.run pins s σ H _ I h) fun v s1 ⟨x, H1, I1, r1, ty, q1⟩ => ?_)
  obtain ⟨h1, h2⟩ := tyR_is I1 r1 ty
  exact ⟨T, id, pa, slot, hty, h1, h2, Calls.callWith_builtin rfl (PySem.evalArgs_none (hm pins s1 σ H1 x [] v [] Q I1 r1 .nil q1))⟩
theorem pe_br {o e : Expr} {es : List Expr} {to : TE} {t : TA} {name : Str} {apos cpos : Pos} {T id : String} {r : V → List V → Hp → VK → Prop} (pa : PlainAttrs T) (slot : Slot T name id) (hty : typeOf (.builtin id) = pure (.type "method_descriptor")) (hm : MtR X id r) (ho : PE X o to) (ha : PA X (e :: es) t)
    (hbase : attributeBase o name X.env (eval o X.env) = eval o X.env)
    (hfew : ((backTo cpos (starEach (e :: es) X.env)).all (fun x => !x.1) && (backToKw cpos (keywordEach [] X.env)).all (fun x => x.1.isSome)
      && decide ((e :: es).length + ([] : List Keyword).length + (if ([] : List Keyword).isEmpty then 0 else 1) < 30)) = true)
    (hline : (apos.endLine == cpos.line) = true) (hs : starEach (e :: es) X.env = (false, eval e X.env) :: starEach es X.env) (hplain : (backTo cpos (starEach es X.env)).any (·.1) = false) :
    PE X (.Call (.Attribute o name apos) (e :: es) [] cpos) (tBR X.K T r to t) := by
  refine ⟨fun pins s σ H Q I h => ?_⟩
  refine wpAny_Call_method_late hbase hfew hline rfl (thn (ho.run pins s σ H _ I h) fun v s1 ⟨x, H1, I1, r1, ty, q1⟩ => ?_)
  obtain ⟨h1, h2⟩ := tyR_is I1 r1 ty
  refine ⟨T, id, pa, slot, hty, h1, h2, ?_⟩
  have hA := ha.run cpos pins s1 σ H1 _ I1 q1
  rw [hs] at hA ⊢
  refine Calls.callWith_builtin (by show (false || (backTo cpos (starEach es X.env)).any (·.1)) = false; rw [hplain] <;> rfl) (Calls.evalArgs_plain ?_)
  exact thn hA fun us s2 ⟨vs, H2, I2, r2, q2⟩ => hm pins s2 σ H2 x vs v us Q I2 r1 r2 q2
def tyW (T : String) : W → Mem → Bool
  | .d (.str _), _ => T == "str"
  | .d (.int _), _ => T == "int"
  | .d (.list _), _ => T == "list"
  | .d (.tuple _), _ => T == "tuple"
  | .d (.dict _), _ => T == "dict"
  | .r n, μ => match μ[n]? with
    | some (.l _) => T == "list"
    | some (.k _) => T == "dict"
    | _ => false
  | _, _ => false
theorem tyW_ok {K : PySem.W.Frag} {m : Ms} {H : Hp} {μ : Mem} {w : W} {v : V} {T : String} (r : RV K m H w v) (hh : RH K m H μ) (e : tyW T w μ = true) : tyR K T v H := by
  unfold tyW at e
  split at e
  · cases r; exact .inl (eq_of_beq e)
  · cases r; exact .inl (eq_of_beq e)
  · cases r with
    | lst h1 h2 => exact .inl (.inl ⟨by simpa using e, _, h1.sq⟩)
  · cases r with
    | tup h1 h2 => exact .inr (.inr ⟨by simpa using e, _, _, rfl, h1⟩)
  · cases r with
    | dK h1 h2 h3 => exact .inr (.inl ⟨by simpa using e, _, rfl, .inl ⟨_, h1⟩⟩)
  · rename_i n _
    split at e
    · rename_i xs q
      obtain ⟨a, vs, h1, rfl, h2, h3⟩ := lst_at r hh q
      exact .inl (.inl ⟨by simpa using e, vs, .inl (.inl h2)⟩)
    · rename_i kvs q
      obtain ⟨l, a, h1, h2, rfl, a', h4, us, h5, h6⟩ := ref_at r hh q (by intro z; cases z)
      cases h4
      cases h2
      exact .inr (.inl ⟨by simpa using e, _, rfl, .inl ⟨us, .inl h5⟩⟩)
    · cases e
  · cases e
def dMt (T : String) (f : Op) (da : DE) (db : DA) : DE := fun ρ μ => bnd (da ρ μ) fun x μ1 => if tyW T x μ1 = true then bnd (db ρ μ1) fun ys μ2 => ofO (f (x :: ys) μ2) else .bad
theorem mMt {o e : Expr} {es : List Expr} {name : Str} {apos cpos : Pos} {T id : String} {f : Op} {da : DE} {db : DA} (pa : PlainAttrs T) (slot : Slot T name id) (hty : typeOf (.builtin id) = pure (.type "method_descriptor")) (hm : MtO X id f)
    (ha : ME X ct Z o da) (hb : MA X ct Z (e :: es) db) (hbase : attributeBase o name X.env (eval o X.env) = eval o X.env := by rfl)
    (hfew : ((backTo cpos (starEach (e :: es) X.env)).all (fun x => !x.1) && (backToKw cpos (keywordEach [] X.env)).all (fun x => x.1.isSome)
      && decide ((e :: es).length + ([] : List Keyword).length + (if ([] : List Keyword).isEmpty then 0 else 1) < 30)) = true := by rfl)
    (hline : (apos.endLine == cpos.line) = true := by rfl) (hs : starEach (e :: es) X.env = (false, eval e X.env) :: starEach es X.env := by rfl) (hplain : (backTo cpos (starEach es X.env)).any (·.1) = false := by rfl) :
    ME X ct Z (.Call (.Attribute o name apos) (e :: es) [] cpos) (dMt T f da db) := by
  refine ⟨pe_imp (pe_br pa slot hty hm ha.pe hb.pa hbase hfew hline hs hplain) fun σ H Q h => ?_⟩
  obtain ⟨m, ρ, μ, he, hh, g⟩ := h
  refine ⟨m, ρ, μ, he, hh, (Gd.bnd g).mono fun a μ1 m1 H1 e1 h1 g1 v r1 => ?_⟩
  split at g1
  · rename_i ht
    exact ⟨tyW_ok r1 h1 ht, m1, ρ, μ1, he.ext e1, h1, (Gd.bnd g1).mono fun b μ2 m2 H2 e2 h2 g2 us r2 => rN_of g2 (.cons (r1.ext e2) r2) h2⟩
  · exact g1.elim
theorem mMt0 {o : Expr} {name : Str} {apos cpos : Pos} {T id : String} {f : Op} {da : DE} (pa : PlainAttrs T) (slot : Slot T name id) (hty : typeOf (.builtin id) = pure (.type "method_descriptor")) (hm : MtO X id f)
    (ha : ME X ct Z o da) (hbase : attributeBase o name X.env (eval o X.env) = eval o X.env := by rfl) (hline : (apos.endLine == cpos.line) = true := by rfl) :
    ME X ct Z (.Call (.Attribute o name apos) [] [] cpos) (dMt T f da dNil) := by
  refine ⟨pe_imp (pe_br0 pa slot hty hm ha.pe hbase hline) fun σ H Q h => ?_⟩
  obtain ⟨m, ρ, μ, he, hh, g⟩ := h
  refine ⟨m, ρ, μ, he, hh, (Gd.bnd g).mono fun a μ1 m1 H1 e1 h1 g1 v r1 => ?_⟩
  split at g1
  · rename_i ht
    exact ⟨tyW_ok r1 h1 ht, rN_of g1 (.cons r1 .nil) h1⟩
  · exact g1.elim
/-- xs.append(x) -/
def opAppend : Op
  | [.r n, .d x], μ => match μ[n]? with
    | some (.l xs) => if sz (xs.length + 1) = true then some (.d .none, μ.set n (.l (xs ++ [x]))) else none
    | _ => none
  | _, _ => none
theorem append_op : MtO X "list.append" opAppend := by
  intro pins s σ H x xs v us Q I rx rs h
  obtain ⟨m, μ, ws, r, hh, g⟩ := h
  unfold opAppend at g
  split at g
  · rename_i n d
    cases r with
    | cons r1 t =>
      cases t with
      | cons r2 t =>
        cases t
        split at g
        · rename_i ys e
          split at g
          · rename_i hz
            obtain ⟨a, vs, h1, rfl, h2, h3⟩ := lst_at r1 hh e
            obtain ⟨e1, h4⟩ := put_lst hh h1 h2 (h3.app (.one r2))
            exact mt_append pins s σ H _ _ v us Q I rx rs ⟨a, vs, _, rfl, rfl, h2, by have := sz_le hz; rw [h3.len]; omega, g _ _ _ e1 h4 .non⟩
          · exact g.elim
        · exact g.elim
  · exact g.elim
/-- xs.pop() -/
def opPop : Op
  | [.r n], μ => match μ[n]? with
    | some (.l xs) => match xs.getLast? with
      | some x => some (.d x, μ.set n (.l xs.dropLast))
      | none => none
    | _ => none
  | _, _ => none
theorem DvAll.init {K : PySem.W.Frag} {L : Addr → Prop} {H : Hp} {vs : List V} {xs : List PyData} (h : DvAll K L H vs xs) : DvAll K L H vs.dropLast xs.dropLast := by
  rw [List.dropLast_eq_take, List.dropLast_eq_take, h.len]
  exact h.take _
theorem pop_op : MtO X "list.pop" opPop := by
  intro pins s σ H x xs v us Q I rx rs h
  obtain ⟨m, μ, ws, r, hh, g⟩ := h
  unfold opPop at g
  split at g
  · rename_i n
    cases r with
    | cons r1 t =>
      cases t
      split at g
      · rename_i ys e
        split at g
        · rename_i d ed
          obtain ⟨a, vs, h1, rfl, h2, h3⟩ := lst_at r1 hh e
          rw [List.getLast?_eq_getElem?] at ed
          obtain ⟨y, ey, ry⟩ := h3.get ed
          rw [← h3.len] at ey
          obtain ⟨e1, h4⟩ := put_lst hh h1 h2 h3.init
          exact mt_pop pins s σ H _ _ v us Q I rx rs ⟨a, vs, y, rfl, rfl, h2, ey, g _ _ _ e1 h4 (ry.stay e1.ks)⟩
        · exact g.elim
      · exact g.elim
  · exact g.elim
end
end Mok09

set_option autoImplicit false
namespace Mok09
open PySem PySem.Spec PyProof.Rows L2
/-- the one reading, else the other -/
def orO (f g : Op) : Op := fun ws μ => match f ws μ with
  | some r => some r
  | none => g ws μ
theorem rN_or {K : PySem.W.Frag} {f g : Op} {vs : List V} {H : Hp} {Q : VK} (h : rN K (orO f g) vs H Q) : rN K f vs H Q ∨ rN K g vs H Q := by
  obtain ⟨m, μ, ws, r, hh, q⟩ := h
  unfold orO at q
  cases e : f ws μ with
  | none => rw [e] at q; exact .inr ⟨m, μ, ws, r, hh, q⟩
  | some p => rw [e] at q; exact .inl ⟨m, μ, ws, r, hh, by rw [e]; exact q⟩
section
variable {X : Cx} {ct : Ct} {Z : WX}
theorem Op2R.or {op : Value → Value → Sem Value} {f g : Op} (h : Op2R X op f) (k : Op2R X op g) : Op2R X op (orO f g) := by
  intro pins s σ H x y v u Q I rx ry q
  exact (rN_or q).elim (h pins s σ H x y v u Q I rx ry) (k pins s σ H x y v u Q I rx ry)
theorem CallO.or {c : Value} {f g : Op} (h : CallO X c f) (k : CallO X c g) : CallO X c (orO f g) := by
  intro pins s σ H x v Q I r q
  exact (rN_or q).elim (h pins s σ H x v Q I r) (k pins s σ H x v Q I r)
theorem MtO.or {c : String} {f g : Op} (h : MtO X c f) (k : MtO X c g) : MtO X c (orO f g) := by
  intro pins s σ H x xs v us Q I r rs q
  exact (rN_or q).elim (h pins s σ H x xs v us Q I r rs) (k pins s σ H x xs v us Q I r rs)
/-! ### dicts of ints and texts -/
def getD (kvs : List (PyData × PyData)) (k : PyData) : Option PyData := (kvs.find? fun p => decide (keyD p.1 = keyD k)).map (·.2)
def putD (kvs : List (PyData × PyData)) (k x : PyData) : List (PyData × PyData) :=
  if (kvs.any fun p => decide (keyD p.1 = keyD k)) = true then kvs.map (fun p => if keyD p.1 = keyD k then (p.1, x) else p) else kvs ++ [(k, x)]
def mkD (ps : List (PyData × PyData)) : List (PyData × PyData) := ps.foldl (fun a p => putD a p.1 p.2) []
section
variable {K : PySem.W.Frag} {L : Addr → Prop} {H : Hp}
theorem DvK.len {us : List (Key × V)} {kvs : List (PyData × PyData)} (h : DvK K L H us kvs) : us.length = kvs.length := by
  induction us generalizing kvs with
  | nil => cases h; rfl
  | cons u us ih =>
    cases h with
    | cons _ _ t => simp [ih t]
theorem keyD_kV {x : PyData} {k : Key} (h : keyD x = some k) {v : V} (r : Dv K L H v x) : v = kV k := by
  cases x with
  | int i => cases h; cases r; rfl
  | str z => cases h; cases r; rfl
  | _ => cases h
theorem DvK.get {us : List (Key × V)} {kvs : List (PyData × PyData)} (h : DvK K L H us kvs) {x : PyData} {k : Key} (hk : keyD x = some k) : (∃ v y, valV us k = some v ∧ getD kvs x = some y ∧ Dv K L H v y) ∨ (valV us k = none ∧ getD kvs x = none) := by
  induction us generalizing kvs with
  | nil => cases h; exact .inr ⟨rfl, rfl⟩
  | cons u us ih =>
    cases h with
    | cons h0 h1 t =>
      rename_i k' v x' y kvs
      by_cases e : k' = k
      · exact .inl ⟨v, y, valV_pos e, by simp [getD, List.find?_cons, h0, hk, e], h1⟩
      · have e2 : getD ((x', y) :: kvs) x = getD kvs x := by simp [getD, List.find?_cons, h0, hk, e]
        rw [e2, valV_neg (p := (k', v)) e]
        exact ih t
theorem DvK.any {us : List (Key × V)} {kvs : List (PyData × PyData)} (h : DvK K L H us kvs) {x : PyData} {k : Key} (hk : keyD x = some k) : (us.any fun kv => decide (kv.1 = k)) = kvs.any fun p => decide (keyD p.1 = keyD x) := by
  induction us generalizing kvs with
  | nil => cases h; rfl
  | cons u us ih =>
    cases h with
    | cons h0 h1 t =>
      rw [List.any_cons, List.any_cons, ih t, h0, hk]
      congr 1
      simp
theorem DvK.repl {us : List (Key × V)} {kvs : List (PyData × PyData)} (h : DvK K L H us kvs) {x z : PyData} {k : Key} {w : V} (hk : keyD x = some k) (r : Dv K L H w z) :
    DvK K L H (us.map fun kv => if kv.1 = k then (kv.1, w) else kv) (kvs.map fun p => if keyD p.1 = keyD x then (p.1, z) else p) := by
  induction us generalizing kvs with
  | nil => cases h; exact .nil
  | cons u us ih =>
    cases h with
    | cons h0 h1 t =>
      rename_i k' v x' y kvs
      rw [List.map_cons, List.map_cons]
      by_cases e : k' = k
      · rw [if_pos e, if_pos (by rw [h0, hk, e])]
        exact .cons h0 r (ih t)
      · rw [if_neg e, if_neg (by rw [h0, hk]; simpa using e)]
        exact .cons h0 h1 (ih t)
theorem DvK.snoc {us : List (Key × V)} {kvs : List (PyData × PyData)} (h : DvK K L H us kvs) {x z : PyData} {k : Key} {w : V} (hk : keyD x = some k) (r : Dv K L H w z) : DvK K L H (us ++ [(k, w)]) (kvs ++ [(x, z)]) := by
  induction us generalizing kvs with
  | nil => cases h; exact .cons hk r .nil
  | cons u us ih =>
    cases h with
    | cons h0 h1 t => exact .cons h0 h1 (ih t)
theorem DvK.put {us : List (Key × V)} {kvs : List (PyData × PyData)} (h : DvK K L H us kvs) {x z : PyData} {k : Key} {w : V} (hk : keyD x = some k) (r : Dv K L H w z) : DvK K L H (putK us k w) (putD kvs x z) := by
  unfold putK putD
  rw [h.any hk]
  split
  · exact h.repl hk r
  · exact h.snoc hk r
theorem DvK.fold : ∀ {more us : List (Key × V)} {ps kvs : List (PyData × PyData)}, DvK K L H more ps → DvK K L H us kvs → DvK K L H (mergeK us more) (ps.foldl (fun a p => putD a p.1 p.2) kvs)
  | [], us, _, kvs, .nil, h => h
  | _ :: more, us, _, kvs, .cons h0 h1 t, h => by
    rename_i k v x y ps
    show DvK K L H (mergeK (putK us k v) more) (ps.foldl (fun a p => putD a p.1 p.2) (putD kvs x y))
    exact DvK.fold t (h.put h0 h1)
theorem DvK.merge {more : List (Key × V)} {ps : List (PyData × PyData)} (h : DvK K L H more ps) : DvK K L H (mergeK [] more) (mkD ps) := DvK.fold h .nil
end
/-- a dict, looked at -/
theorem peek_dict {K : PySem.W.Frag} {m : Ms} {H : Hp} {μ : Mem} {w : W} {v : V} {kvs : List (PyData × PyData)} (r : RV K m H w v) (hh : RH K m H μ) (e : peek w μ = some (.dict kvs)) : ∃ a us, v = .ref a ∧ Rd H a (.dK us) ∧ DvK K (Live m) H us kvs := by
  cases w with
  | d y =>
    cases e
    cases r with
    | dK h1 h2 h3 => exact ⟨_, _, rfl, h1, h3⟩
  | r n =>
    simp only [peek] at e
    split at e
    · cases e
    · rename_i ks q
      cases e
      obtain ⟨l, a, h1, h2, rfl, a', h4, us, h5, h6⟩ := ref_at r hh q (by intro z; cases z)
      cases h4
      cases h2
      exact ⟨a, us, rfl, .inl h5, h6⟩
    · cases e
  | s ns => cases e
theorem ddget {H : Hp} {a : Addr} {us : List (Key × V)} {k : Key} (h : Rd H a (.dK us)) : DGet H a (kV k) (valV us k) := .inl ⟨us, k, h, rfl, rfl⟩
def opIxD : Op
  | [o, .d x], μ => match peek o μ with
    | some (.dict kvs) => if (keyD x).isSome = true then (match getD kvs x with
      | some y => some (.d y, μ)
      | none => none) else none
    | _ => none
  | _, _ => none
theorem ix_opD (hu : X.A.units + 66 < cLine) : IxR X (fun x y H Q => rN X.K opIxD [x, y] H Q) := by
  intro value slice pins s σ H x y v u Q I rx ry h hs
  obtain ⟨m, μ, ws, r, hh, g⟩ := h
  obtain ⟨a, b, rfl, r1, r2⟩ := two r
  unfold opIxD at g
  split at g
  · rename_i o x e
    simp only [List.cons.injEq, and_true] at e
    obtain ⟨rfl, rfl⟩ := e
    split at g
    · rename_i kvs e1
      split at g
      · rename_i hk
        obtain ⟨k, hk⟩ := Option.isSome_iff_exists.mp hk
        obtain ⟨p, us, rfl, h1, h2⟩ := peek_dict r1 hh e1
        rcases h2.get hk with ⟨z, y', k1, k2, k3⟩ | ⟨k1, k2⟩
        · rw [k2] at g
          have dg : DGet H p (kV k) (some z) := by rw [← k1]; exact ddget h1
          have ev := keyD_kV hk r2
          subst ev
          cases rx
          exact tail_any (dict_typeIs I dg) PySem.F.slot_dict_getitem.lookup (d_getItem (by omega) I dg ry fun w' s' I' rw' => ⟨z, H, I', rw', g.now hh k3⟩) hs
        · rw [k2] at g
          exact g.elim
      · exact g.elim
    · exact g.elim
  · exact g.elim
def opIxA : Op := orO opIx opIxD
theorem mIxA {a b : Expr} {pos : Pos} {da db : DE} (hu : X.A.units + 66 < cLine) (ha : ME X ct Z a da) (hb : ME X ct Z b db) (hs : PlainIx b := by exact fun _ _ => rfl) : ME X ct Z (.Subscript a b pos) (dP2 opIxA da db) := by
  have h : IxR X (fun x y H Q => rN X.K opIxA [x, y] H Q) := by
    intro value slice pins s σ H x y v u Q I rx ry q hs
    exact (rN_or q).elim (fun q => ix_op value slice pins s σ H x y v u Q I rx ry q hs) fun q => ix_opD hu value slice pins s σ H x y v u Q I rx ry q hs
  exact ⟨pe_imp (pe_ix h ha.pe hb.pe hs) fun _ _ _ h => t2_of h⟩
def opInD (neg : Bool) : Op
  | [.d x, o], μ => match peek o μ with
    | some (.dict kvs) => if (keyD x).isSome = true then pB (if neg = true then !(getD kvs x).isSome else (getD kvs x).isSome) μ else none
    | _ => none
  | _, _ => none
theorem DvK.some {K : PySem.W.Frag} {L : Addr → Prop} {H : Hp} {us : List (Key × V)} {kvs : List (PyData × PyData)} (h : DvK K L H us kvs) {x : PyData} {k : Key} (hk : keyD x = some k) : (valV us k).isSome = (getD kvs x).isSome := by
  rcases h.get hk with ⟨z, y', k1, k2, k3⟩ | ⟨k1, k2⟩
  · rw [k1, k2]; rfl
  · rw [k1, k2]; rfl
theorem op2_inD (hu : X.A.units + 66 < cLine) : Op2R X (compareOp .In) (opInD false) := by
  intro pins s σ H x y v u Q I rx ry h
  obtain ⟨m, μ, ws, r, hh, g⟩ := h
  obtain ⟨a, b, rfl, r1, r2⟩ := two r
  unfold opInD at g
  split at g
  · rename_i d o e
    simp only [List.cons.injEq, and_true] at e
    obtain ⟨rfl, rfl⟩ := e
    split at g
    · rename_i kvs e1
      split at g
      · rename_i hk
        obtain ⟨k, hk⟩ := Option.isSome_iff_exists.mp hk
        obtain ⟨p, us, rfl, h1, h2⟩ := peek_dict r2 hh e1
        have ev := keyD_kV hk r1
        subst ev
        cases ry
        refine d_in (by omega) I (ddget h1) rx fun s' I' => ⟨.bl _, H, I', rfl, ?_⟩
        rw [h2.some hk]
        exact g.now hh (.bl _)
      · exact g.elim
    · exact g.elim
  · exact g.elim
theorem op2_notinD (hu : X.A.units + 66 < cLine) : Op2R X (compareOp .NotIn) (opInD true) := by
  intro pins s σ H x y v u Q I rx ry h
  obtain ⟨m, μ, ws, r, hh, g⟩ := h
  obtain ⟨a, b, rfl, r1, r2⟩ := two r
  unfold opInD at g
  split at g
  · rename_i d o e
    simp only [List.cons.injEq, and_true] at e
    obtain ⟨rfl, rfl⟩ := e
    split at g
    · rename_i kvs e1
      split at g
      · rename_i hk
        obtain ⟨k, hk⟩ := Option.isSome_iff_exists.mp hk
        obtain ⟨p, us, rfl, h1, h2⟩ := peek_dict r2 hh e1
        have ev := keyD_kV hk r1
        subst ev
        cases ry
        refine d_notIn (by omega) I (ddget h1) rx fun s' I' => ⟨.bl _, H, I', rfl, ?_⟩
        rw [h2.some hk]
        exact g.now hh (.bl _)
      · exact g.elim
    · exact g.elim
  · exact g.elim
def opInA (neg : Bool) : Op := orO (opIn neg) (opInD neg)
theorem op2_inA (hu : X.A.units + 66 < cLine) : Op2R X (compareOp .In) (opInA false) := Op2R.or (op2_in hu) (op2_inD hu)
theorem op2_notinA (hu : X.A.units + 66 < cLine) : Op2R X (compareOp .NotIn) (opInA true) := Op2R.or (op2_notin hu) (op2_notinD hu)
/-- d.get(k), d.get(k, x) -/
def opGet : Op
  | [o, .d x], μ => match peek o μ with
    | some (.dict kvs) => if (keyD x).isSome = true then some (.d ((getD kvs x).getD .none), μ) else none
    | _ => none
  | [o, .d x, .d y], μ => match peek o μ with
    | some (.dict kvs) => if (keyD x).isSome = true then some (.d ((getD kvs x).getD y), μ) else none
    | _ => none
  | _, _ => none
/-- a new dict -/
def mkK (own : Bool) (kvs : List (PyData × PyData)) (μ : Mem) : Option (W × Mem) := if sz kvs.length = true then (if own = true then some (.r μ.length, μ ++ [.k kvs]) else some (.d (.dict kvs), μ)) else none
theorem dict_new {own : Bool} {K : PySem.W.Frag} {m : Ms} {H : Hp} {μ : Mem} {Q : VK} {us : List (Key × V)} {kvs : List (PyData × PyData)} (hh : RH K m H μ) (ha : DvK K (Live m) H us kvs) (g : GdO K m H (mkK own kvs μ) Q) {p : Addr} (hp : H p = none) : us.length ≤ sizeLine ∧ Q (.ref p) (upd H p (.dK us)) := by
  unfold mkK at g
  split at g
  · rename_i hz
    refine ⟨by rw [ha.len]; exact sz_le hz, ?_⟩
    split at g
    · refine g _ _ _ (.made hp _) (hh.made hp ⟨p, rfl, us, upd_same, DvK.stay' (Ext.made hp _).ks ha⟩) (.inr ⟨[p], p, ?_, rfl, rfl⟩)
      unfold Ms.add
      rw [← hh.len, List.getElem?_append_right (Nat.le_refl _)]
      simp
    · exact g m _ _ (.laid hp _) (hh.laid hp _) (.dK (.inl upd_same) (hh.notin hp) (DvK.stay' (Ext.laid hp _).ks ha))
  · exact g.elim
end
end Mok09

set_option autoImplicit false
namespace Mok09
open PySem PySem.Spec PyProof.Rows L2
/-! ### dicts made of pairs -/
def pairsD : List PyData → Option (List (PyData × PyData))
  | [] => some []
  | .tuple [k, x] :: r => if (keyD k).isSome = true then (pairsD r).map ((k, x) :: ·) else none
  | _ :: _ => none
theorem pairs_all {K : PySem.W.Frag} {L : Addr → Prop} {H : Hp} : ∀ {xs : List PyData} {vs : List V} {ps : List (PyData × PyData)}, DvAll K L H vs xs → pairsD xs = some ps →
    ∃ (as : List Addr) (us : List (Key × V)), vs = as.map V.ref ∧ Paired (fun p kv => SqT K H p [kV kv.1, kv.2]) as us ∧ DvK K L H us ps
  | [], _, _, .nil, h => by
    cases h
    exact ⟨[], [], rfl, .nil, .nil⟩
  | x :: xs, _, ps, .cons r1 t, h => by
    unfold pairsD at h
    split at h
    · rename_i e
      cases e
    · rename_i k y r e
      cases e
      split at h
      · rename_i hk
        obtain ⟨κ, hk⟩ := Option.isSome_iff_exists.mp hk
        obtain ⟨qs, hq, rfl⟩ := Option.map_eq_some_iff.mp h
        obtain ⟨as, us, rfl, h1, h2⟩ := pairs_all t hq
        cases r1 with
        | tup h3 h4 =>
          rename_i a zs
          cases h4 with
          | cons g1 g2 =>
            cases g2 with
            | cons g3 g4 =>
              cases g4
              rename_i v1 v2
              have ev := keyD_kV hk g1
              subst ev
              exact ⟨a :: as, (κ, v2) :: us, rfl, .cons h3.sq h1, .cons hk g3 h2⟩
      · cases h
    · cases h
/-- a list, looked at -/
theorem peek_seq {K : PySem.W.Frag} {m : Ms} {H : Hp} {μ : Mem} {w : W} {v : V} {xs : List PyData} (r : RV K m H w v) (hh : RH K m H μ) (e : peek w μ = some (.list xs)) : ∃ a vs, v = .ref a ∧ SqL K H a vs ∧ DvAll K (Live m) H vs xs := by
  cases w with
  | d y =>
    cases e
    cases r with
    | lst h1 h2 => exact ⟨_, _, rfl, h1.sq, h2⟩
  | r n =>
    simp only [peek] at e
    split at e
    · rename_i ys q
      cases e
      obtain ⟨a, vs, h1, rfl, h2, h3⟩ := lst_at r hh q
      exact ⟨a, vs, rfl, .inl (.inl h2), h3⟩
    · cases e
    · cases e
  | s ns => cases e
section
variable {X : Cx} {ct : Ct} {Z : WX}
/-- dict(x) of a list, a tuple of pairs, of a dict -/
def opDict (own : Bool) : Op
  | [w], μ => match peek w μ with
    | some (.list xs) => (pairsD xs).bind fun ps => mkK own (mkD ps) μ
    | some (.tuple xs) => (pairsD xs).bind fun ps => mkK own (mkD ps) μ
    | some (.dict kvs) => mkK own kvs μ
    | _ => none
  | [], μ => mkK own [] μ
  | _, _ => none
theorem two_each {pins : List (Addr × Obj)} {σ : L2.St} {H : Hp} {s : Shared} (I : Inv X pins σ H s) : ∀ {ps : List Addr} {kvs : List (Key × V)}, Paired (fun p kv => SqT X.K H p [kV kv.1, kv.2]) ps kvs →
    ∃ (two : List (Value × Value)) (prs : List (Key × Value)), KV kvs prs ∧ two.length = ps.length ∧ prs.length = ps.length ∧ ∀ (j : Nat) (k v : Value), two[j]? = some (k, v) → ∃ (b : Addr) (y : Key), ps[j]? = some b ∧ IsTup s.heap b #[k, v] ∧ prs[j]? = some (y, v) ∧ (mixKind X.prog X.w).is y k
  | _, _, .nil => ⟨[], [], .nil, rfl, rfl, fun j k v e => by simp at e⟩
  | _, _, .cons (a := p) (b := kv) h t => by
    obtain ⟨two, prs, r, hl, hl2, hp⟩ := two_each I t
    obtain ⟨its, rv, ht, _⟩ := I.tuple h
    obtain ⟨u, v, rfl, ru, rvv⟩ := rv.two
    refine ⟨(u, v) :: two, (kv.1, v) :: prs, .cons ⟨rfl, rvv⟩ r, by simp [hl], by simp [hl2], fun j k v' e => ?_⟩
    cases j with
    | zero =>
      simp only [List.getElem?_cons_zero, Option.some.injEq, Prod.mk.injEq] at e
      obtain ⟨rfl, rfl⟩ := e
      exact ⟨p, kv.1, rfl, by simpa using ht, rfl, kV_is ru⟩
    | succ j =>
      obtain ⟨b, z, e1, e2, e3, e4⟩ := hp j k v' (by simpa using e)
      exact ⟨b, z, by simpa using e1, e2, by simpa using e3, e4⟩
/-- dict of a tuple of pairs -/
theorem call_dictT (hcalm : X.calm = true) : CallR X (.type "dict") (fun xs H Q => ∃ (a : Addr) (ps : List Addr) (kvs : List (Key × V)), xs = [.ref a] ∧ TpR X.K H a (ps.map V.ref) ∧
    Paired (fun p kv => SqT X.K H p [kV kv.1, kv.2]) ps kvs ∧ ∀ p, H p = none → Q (.ref p) (upd H p (.dK (mergeK [] kvs)))) := by
  intro pins s σ H xs us Q I r q
  obtain ⟨a, ps, kvs, rfl, ha, hp, q⟩ := q
  obtain ⟨u, rfl, rx⟩ := vals1 r
  cases rx
  obtain ⟨o, its, n, ho, hc, hod, hdat, hz, rv⟩ : ∃ (o : Obj) (its : List Value) (n : Nat), s.heap.get? a = some o ∧ o.cls = .type "tuple" ∧ o.dict = none ∧ o.data = .seq its.toArray n ∧ ps.length ≤ sizeLine ∧ Vals (ps.map V.ref) its := by
    rcases ha with ⟨o, h, n⟩ | ⟨o, its, k, h1, h2, h3, h4, h5, h6⟩
    · obtain ⟨ho, hz, its, rv, o', ho', hc, k, hdat⟩ := I.hok _ _ h
      obtain rfl : o = o' := Option.some.inj (ho.symm.trans ho')
      rw [List.length_map] at hz
      exact ⟨o, its, k, ho, hc, n, hdat, hz, rv⟩
    · refine ⟨o, its.toList, k, I.kIn a o h1, h2, h3, by simpa using h4, ?_, h6⟩
      have e : ps.length = its.toList.length := by
        rw [← List.length_map (f := V.ref), h6.length]
      have e2 : its.toList.length = its.size := Array.length_toList
      omega
  have ei := refs_at rv
  subst ei
  obtain ⟨two, prs, rel, hl, hl2, hpr⟩ := two_each I hp
  have hm : (s.heap.objs.size == sysModules) = false := beq_eq_false_iff_ne.mpr (Nat.ne_of_gt I.big)
  refine PySem.call_dict_pairs (knd := mixKind X.prog X.w) (kvs := prs) (PairArg.tuple a (ps.map Value.ref).toArray (fun j => ps.getD j 0) two) (I.ok.hd hcalm) ⟨⟨o, n, ho, hc, hod, hdat⟩, ?_, fun j k v e => ?_⟩ ⟨by rw [hl2, hl], fun i key v e => ?_⟩ (by rw [hl]; exact hz) fun h' tk hd' k => ?_
  · simp [hl]
  · obtain ⟨b, y, e1, e2, _⟩ := hpr j k v e
    have eb : ps.getD j 0 = b := by rw [List.getD_eq_getElem?_getD, e1] <;> rfl
    refine ⟨?_, .inl ?_⟩
    · show (ps.map Value.ref).toArray[j]? = some (Value.ref (ps.getD j 0))
      rw [eb]
      simp [e1]
    · show s.heap.IsTuple (ps.getD j 0) #[k, v]
      rw [eb]
      exact e2
  · obtain ⟨b, y, e1, e2, e3, e4⟩ := hpr i key v e
    exact ⟨y, e3, e4⟩
  · have hlen : (mergeK [] kvs).length ≤ sizeLine := by
      refine Nat.le_trans (length_mergeK kvs []) ?_
      rw [List.length_nil, Nat.zero_add, rel.length, hl2]
      exact hz
    exact ⟨.ref s.heap.objs.size, upd H s.heap.objs.size (.dK (mergeK [] kvs)), I.laid (t' := tk) (fun b o e => k b o (by simp) e) (Nat.le_refl _) (show ObjOk X.prog X.w _ _ _ (.dK (mergeK [] kvs)) from ⟨hlen, hm, merged [] prs, KV.merge rel .nil, hd'⟩), rfl, q _ (I.hok.fresh (Nat.le_refl _))⟩
theorem dict_op (hcalm : X.calm = true) {own : Bool} : CallO X (.type "dict") (opDict own) := by
  intro pins s σ H xs us Q I r h
  obtain ⟨m, μ, ws, rr, hh, g⟩ := h
  unfold opDict at g
  split at g
  · rename_i w
    obtain ⟨v, rfl⟩ : ∃ v, xs = [v] := by
      cases rr with
      | cons _ t => cases t; exact ⟨_, rfl⟩
    have r1 : RV X.K m H w v := by
      cases rr with
      | cons h t => exact h
    split at g
    · rename_i ds e
      cases q : pairsD ds with
      | none => rw [q] at g; exact g.elim
      | some ps =>
        rw [q] at g
        have hd := peek_seq r1 hh e
        obtain ⟨a, vs, rfl, hq, ha⟩ := hd
        obtain ⟨as, us', rfl, h1, h2⟩ := pairs_all ha q
        exact call_dictP hcalm pins s σ H _ us Q I r ⟨a, as, us', rfl, hq, h1, fun p hp => (dict_new hh h2.merge g hp).2⟩
    · rename_i ds e
      cases q : pairsD ds with
      | none => rw [q] at g; exact g.elim
      | some ps =>
        rw [q] at g
        cases w with
        | d x =>
          cases e
          cases r1 with
          | tup hq ha =>
            obtain ⟨as, us', rfl, h1, h2⟩ := pairs_all ha q
            exact call_dictT hcalm pins s σ H _ us Q I r ⟨_, as, us', rfl, hq, h1, fun p hp => (dict_new hh h2.merge g hp).2⟩
        | r n =>
          simp only [peek] at e
          split at e <;> cases e
        | s ns => cases e
    · rename_i kvs e
      obtain ⟨a, us', rfl, h1, h2⟩ := peek_dict r1 hh e
      exact call_dictD pins s σ H _ us Q I r ⟨a, us', rfl, h1, fun p hp => (dict_new hh h2 g hp).2⟩
    · exact g.elim
  · cases rr
    cases r
    refine FK.call_dict0 ?_
    exact ⟨.ref s.heap.objs.size, _, I.laid (a := s.heap.objs.size) (o := .dK []) (t' := s.toks) (fun _ _ q => Heap.get?_push_of_some _ q) (Nat.le_refl _) (dk_empty s.heap I.big), rfl, (dict_new hh .nil g (I.hok.fresh (Nat.le_refl _))).2⟩
  · exact g.elim
/-- {} -/
def dNewD (own : Bool) : DE := fun _ μ => ofO (mkK own [] μ)
def opLenD : Op
  | [w], μ => match peek w μ with
    | some (.dict kvs) => pI kvs.length μ
    | _ => none
  | _, _ => none
theorem len_opD : CallO X (.builtin "len") opLenD := by
  intro pins s σ H xs us Q I r h
  obtain ⟨m, μ, ws, rr, hh, g⟩ := h
  unfold opLenD at g
  split at g
  · rename_i w
    cases rr with
    | cons r1 t =>
      cases t
      split at g
      · rename_i kvs e
        obtain ⟨a, us', rfl, h1, h2⟩ := peek_dict r1 hh e
        obtain ⟨u, rfl, ru⟩ := vals1 r
        cases ru
        refine d_len I h1 fun t s' I' => ⟨.int us'.length, H, I', ⟨t, rfl⟩, ?_⟩
        rw [h2.len]
        exact g.now hh (.int _)
      · exact g.elim
  · exact g.elim
theorem len_opA : CallO X (.builtin "len") (orO opLen opLenD) := CallO.or len_op len_opD
/-- xs.extend(ys) -/
def opExtend : Op
  | [.r n, b], μ => match μ[n]? with
    | some (.l xs) => match viewL b μ with
      | some ys => if sz (xs.length + ys.length) = true then some (.d .none, μ.set n (.l (xs ++ ys))) else none
      | none => none
    | _ => none
  | _, _ => none
/-! ### stores -/
def stW : W → W → W → Mem → Option Mem
  | .r n, .d i, .d x, μ => match μ[n]? with
    | some (.l xs) => match i with
      | .int k => match ixN xs.length k with
        | some j => some (μ.set n (.l (xs.set j x)))
        | none => none
      | _ => none
    | some (.k kvs) => if ((keyD i).isSome && sz (kvs.length + 1)) = true then some (μ.set n (.k (putD kvs i x))) else none
    | _ => none
  | _, _, _, _ => none
def rSt (K : PySem.W.Frag) : TSet := fun o i v H Q => ∃ m μ wo wi wv, RV K m H wo o ∧ RV K m H wi i ∧ RV K m H wv v ∧ RH K m H μ ∧ (match stW wo wi wv μ with
  | some μ' => ∀ m' H', Ext m H m' H' → RH K m' H' μ' → Q H'
  | none => False)
theorem put_dict {K : PySem.W.Frag} {m : Ms} {H : Hp} {μ : Mem} {n : Nat} {a : Addr} {vs us : List (Key × V)} {ys : List (PyData × PyData)} (hh : RH K m H μ) (hm : m.v[n]? = some (some [a])) (hH : H a = some (.dK vs)) (ha : DvK K (Live m) H us ys) :
    Ext m H m (upd H a (.dK us)) ∧ RH K m (upd H a (.dK us)) (μ.set n (.k ys)) := by
  have e : Ext m H m (upd H a (.dK us)) := .put (vl_at hm (by simp)) hH trivial
  exact ⟨e, hh.put hm hH trivial ⟨a, rfl, us, upd_same, DvK.stay' e.ks ha⟩⟩
theorem st_ok (hu : X.A.units + 66 < cLine) : PSet X (rSt X.K) := by
  intro pins s σ H o i v ov iv u Q I ro ri rv h
  obtain ⟨m, μ, wo, wi, wv, r1, r2, r3, hh, g⟩ := h
  cases wo with
  | d x => simp [stW] at g
  | s ns => simp [stW] at g
  | r n =>
    cases wi with
    | r _ => simp [stW] at g
    | s _ => simp [stW] at g
    | d y =>
      cases wv with
      | r _ => simp [stW] at g
      | s _ => simp [stW] at g
      | d x =>
        simp only [stW] at g
        cases hq : μ[n]? with
        | none => rw [hq] at g; exact g.elim
        | some ob =>
          rw [hq] at g
          cases ob with
          | dead => exact g.elim
          | o y fs => exact g.elim
          | q y gs => exact g.elim
          | l xs =>
            obtain ⟨a, vs, h1, rfl, h2, h3⟩ := lst_at r1 hh hq
            cases y with
            | int k =>
              cases r2
              dsimp only at g
              cases hj : ixN xs.length k with
              | none => rw [hj] at g; exact g.elim
              | some j =>
                rw [hj] at g
                obtain ⟨e1, h4⟩ := put_lst hh h1 h2 (h3.set j r3)
                exact set_list pins s σ H _ _ v ov iv u Q I ro ri rv ⟨a, vs, k, j, rfl, rfl, h2, by rw [h3.len]; exact hj, g _ _ e1 h4⟩
            | _ => exact g.elim
          | k kvs =>
            obtain ⟨l, a, h1, h2, rfl, a', h4, us, h5, h6⟩ := ref_at r1 hh hq (by intro z; cases z)
            cases h4
            cases h2
            dsimp only at g
            by_cases hc : ((keyD y).isSome && sz (kvs.length + 1)) = true
            · rw [if_pos hc] at g
              rw [Bool.and_eq_true] at hc
              obtain ⟨k, hk⟩ := Option.isSome_iff_exists.mp hc.1
              have ev := keyD_kV hk r2
              subst ev
              obtain ⟨e1, h7⟩ := put_dict hh h1 h5 (h6.put hk r3)
              refine set_dict (by omega) pins s σ H _ _ v ov iv u Q I ro ri rv ⟨a, _, rfl, .k h5 ?_, g _ _ e1 h7⟩
              have := sz_le hc.2
              rw [h6.len]
              omega
            · rw [if_neg hc] at g
              exact g.elim
/-- what goes on behind a step: the slots anew -/
def nxt {α : Type} (ρ : Env) (f : α → Env) : Res α → SR
  | .ok a μ => .nx (f a) μ
  | .exc x μ => .exc x ρ μ
  | .bad => .bad
def okM : Option Mem → Res Unit
  | some μ => .ok () μ
  | none => .bad
/-- o[i] = e -/
def sSt (dv do_ di : DE) : DS := fun ρ μ => nxt ρ (fun _ => ρ) (bnd (dv ρ μ) fun v μ1 => bnd (do_ ρ μ1) fun o μ2 => bnd (di ρ μ2) fun i μ3 => okM (stW o i v μ3))
theorem gs_gd {α : Type} {K : PySem.W.Frag} {D : Ends} {m : Ms} {σ : L2.St} {H : Hp} {ρ : Env} {r : Res α} {f : α → Env} {P : α → Mem → Ms → Hp → Prop} (he : EnvR K m H ρ σ) (g : Gs K ct Z D m H (nxt ρ f r)) (k : ∀ a μ m' H', Ext m H m' H' → RH K m' H' μ → Gs K ct Z D m' H' (.nx (f a) μ) → P a μ m' H') : Gd K ct Z m σ H r P := by
  cases r with
  | ok a μ1 => exact fun m' H' e hh => k a μ1 m' H' e hh fun m2 σ2 H2 e2 => g m2 σ2 H2 (e.trans e2)
  | exc x μ1 => exact fun m' H' cls d e hh xr => g m' σ H' cls d e hh (he.ext e) xr
  | bad => exact g
theorem msSt (hu : X.A.units + 66 < cLine) {o i e : Expr} {pos pos' : Pos} {dv do_ di : DE} (hv : ME X ct Z e dv) (ho : ME X ct Z o do_) (hi : ME X ct Z i di)
    (ha : ∀ v, assign (.Subscript o i pos') X.env v = (do
      let ov ← holding [v] (eval o X.env)
      let iv ← holding [v, ov] (eval i X.env)
      standAt pos'
      holding [v, ov, iv] (setItem ov iv v)
      release [v, ov, iv] []) := by intro _; rfl) (hs : swapsWithSole [.Subscript o i pos'] e pos.line X.env = pure false := by rfl) (hw : swappedStores [.Subscript o i pos'] e X.env = pure none := by rfl)
    (h1 : (assignEach [.Subscript o i pos'] X.env).map (·.2) = [assign (.Subscript o i pos') X.env] := by rfl) : MS X ct Z (.Assign [.Subscript o i pos'] e pos) (sSt dv do_ di) := by
  refine ⟨ps_imp (ps_asg hv.pe (pg_sub ho.pe hi.pe (st_ok hu) ha) hs hw h1) fun D σ H q => ?_⟩
  obtain ⟨m, ρ, μ, he, hh, g⟩ := q
  refine ⟨m, ρ, μ, he, hh, ?_⟩
  unfold sSt at g
  have g1 := gs_gd (σ := σ) (f := fun _ => ρ) (P := fun _ μ1 m1 H1 => D.nx σ H1) he g fun a μ1 m1 H1 e1 h1 g1 => g1 m1 σ H1 (.refl _ _) h1 (he.ext e1)
  refine (Gd.bnd g1).mono fun v μ1 m1 H1 e1 h1 g2 x r1 => ⟨m1, ρ, μ1, he.ext e1, h1, (Gd.bnd g2).mono fun o μ2 m2 H2 e2 h2 g3 y r2 => ⟨m2, ρ, μ2, (he.ext e1).ext e2, h2, (Gd.bnd g3).mono fun i μ3 m3 H3 e3 h3 g4 z r3 => ?_⟩⟩
  refine ⟨m3, μ3, o, i, v, r2.ext e3, r3, (r1.ext e2).ext e3, h3, ?_⟩
  cases q : stW o i v μ3 with
  | none => rw [q] at g4; exact g4
  | some μ4 => rw [q] at g4; exact g4
/-- name op= e -/
def sAug (i : Nat) (f : Op) (d : DE) : DS := fun ρ μ => match ρ[i]? with
  | some (some x) => nxt ρ (fun z => ρ.set i (some z)) (bnd (d ρ μ) fun y μ1 => ofO (f [x, y] μ1))
  | _ => .bad
theorem msAug {i : Nat} {x : Str} {e : Expr} {op : Operator} {f : Op} {pos pos' : Pos} {d : DE} (hN : X.N.Nodup) (he : ME X ct Z e d) (ho : Op2I X op f) (hi : X.N[i]? = some x := by rfl) (hx : Loc X.env.scope x := by first | exact Or.inl rfl | exact Or.inr rfl)
    (hf : X.fn x = true ∨ X.env.scope.names.lookup x = some .local := by first | exact Or.inr rfl | exact Or.inl rfl) : MS X ct Z (.AugAssign (.Name x pos') op e pos) (sAug i f d) := by
  refine ⟨ps_imp (ps_aug hN hi hx he.pe ho hf) fun D σ H q => ?_⟩
  obtain ⟨m, ρ, μ, hr, hh, g⟩ := q
  unfold sAug at g
  split at g
  · rename_i w q
    obtain ⟨v, h1, h2⟩ := hr.at_ i w q
    refine ⟨v, h1, m, ρ, μ, hr, hh, ?_⟩
    have g1 := gs_gd (σ := σ) (f := fun z => ρ.set i (some z)) (P := fun z μ1 m1 H1 => ∀ u, RV X.K m1 H1 z u → D.nx (σ.set i (some u)) H1) hr g fun a μ1 m1 H1 e1 h1 g1 u ru => g1 m1 _ H1 (.refl _ _) h1 ((hr.ext e1).set ru i)
    exact (Gd.bnd g1).mono fun y μ1 m1 H1 e1 h1 g2 u ru => rN_of g2 (.cons (h2.ext e1) (.cons ru .nil)) h1
  · exact g.elim
end
end Mok09

set_option autoImplicit false
namespace Mok09
open PySem PySem.Spec PyProof.Rows L2
/-! ### calls of defs -/
abbrev Fn := List W → Mem → Res W
/-- the promise of a def -/
structure FnG (P : Program) (w : World) (K : PySem.W.Frag) (mg : Str → Option Value) (base : Heap) (ct : Ct) (k : Nat) (f : Addr) (fd : FuncData) (ps : List Str) (F : Fn) : Prop where
  len : ∀ ws μ, F ws μ ≠ .bad → ws.length = ps.length
  run : ∀ (A : Around) (outer : List PySem.Env) (s : Shared) (H : Hp) (args : Args) (us : List Value) (vs : List V) (Q : VK) (E : XK) (m : Ms) (μ : Mem) (ws : List W), Room k A → A.guards = some [] → Env0 P w K mg base A outer s H →
    BindsTo s fd args (ps.zip us) → Vals vs us → RVs K m H ws vs → RH K m H μ → Gd K ct (fun c d _ H' => E c d H') m [] H (F ws μ) (PV K Q) →
    codeAny (model P w) A (.call (.ref f) args) (CR (L2.CX P w) outer P w H s Q E) s
structure CalG (P : Program) (w : World) (K : PySem.W.Frag) (mg : Str → Option Value) (base : Heap) (ct : Ct) (k : Nat) (x : Str) (F : Fn) (dws : List PyData) : Prop where
  ex : ∃ (f : Addr) (fd : FuncData) (ps : List Str) (ds : List Value) (dvs : List V), FnG P w K mg base ct k f fd ps F ∧ mg x = some (.ref f) ∧ PySem.W.keepIn K (.ref f) = true ∧ Binds K fd ps ds ∧ Vals dvs ds ∧ ∀ L H, DvAll K L H dvs dws
/-- a thing that a call gives back -/
def back (n : Nat) (μ0 μ : Mem) (o : Option MO) : Res W := match o with
  | some .dead => .bad
  | some (.q _ _) => .bad
  | some o => .ok (.r μ0.length) (μ0 ++ [o])
  | none => .bad
/-- a call: where all that is handed in is plain the def runs for itself -/
def callF (F : Fn) (ws : List W) (μ : Mem) : Res W := match datas ws with
  | some _ => match F ws [] with
    | .ok (.d x) _ => .ok (.d x) μ
    | .ok (.r n) μ' => back n μ μ' μ'[n]?
    | .ok (.s _) _ => .bad
    | .exc x _ => .exc x μ
    | .bad => .bad
  | none => match F ws μ with
    | .ok (.d x) μ' => .ok (.d x) (μ'.take μ.length)
    | .ok (.r n) μ' => if n < μ.length then .ok (.r n) (μ'.take μ.length) else back n (μ'.take μ.length) μ' μ'[n]?
    | .ok (.s ns) μ' => .ok (.s ns) (μ'.take μ.length)
    | .exc x μ' => .exc x (μ'.take μ.length)
    | .bad => .bad
def dCall (F : Fn) (dws : List PyData) (da : DA) : DE := fun ρ μ => bnd (da ρ μ) fun ws μ1 => callF F (ws ++ dws.map W.d) μ1
section
variable {K : PySem.W.Frag} {ct : Ct}
def Ms.all (m : Ms) : Ms := { v := [], h := fps m.v ++ m.h }
theorem all_live {m : Ms} {b : Addr} : Live m b → b ∈ m.all.h := fun h => List.mem_append.mpr h
theorem all_vl {m : Ms} {b : Addr} : ¬ VL m.all b := fun h => by
  unfold VL Ms.all at h
  simp [fps] at h
theorem RH.over {m : Ms} {H H1 : Hp} {μ : Mem} (h : RH K m H μ) (k : ∀ b o, H b = some o → H1 b = some o) : RH K m H1 μ :=
  ⟨h.nd, h.len, fun b hb => ⟨by obtain ⟨o, e⟩ := (h.hid b hb).1; exact ⟨o, k b o e⟩, (h.hid b hb).2⟩, fun n p o h1 h2 => (h.at_ n p o h1 h2).keeps ⟨fun b u e _ => k b u e, fun _ z n => (n z).elim⟩ fun _ _ _ _ _ e => k _ _ e⟩
theorem RH.allH {m : Ms} {H : Hp} {μ : Mem} (h : RH K m H μ) : RH K m.all H [] :=
  ⟨List.nodup_nil, rfl, fun b hb => ⟨by
    rcases List.mem_append.mp hb with hb | hb
    · obtain ⟨u, e, _⟩ := h.there hb
      exact ⟨u, e⟩
    · exact (h.hid b hb).1, all_vl⟩, fun n p o h1 _ => by simp [Ms.all] at h1⟩
theorem keeps_all {m : Ms} {H : Hp} : Keeps (Live m) H (Live m.all) H := keeps_less fun b h => by
  rcases h with h | h
  · exact (all_vl h).elim
  · exact List.mem_append.mp h
theorem rvs_all {m : Ms} {H : Hp} {ws : List W} {vs : List V} {xs : List PyData} (r : RVs K m H ws vs) (e : datas ws = some xs) : RVs K m.all H ws vs := by
  induction r generalizing xs with
  | nil => exact .nil
  | @cons w v ws vs a b ih =>
    cases w with
    | d x =>
      simp only [datas, Option.map_eq_some_iff] at e
      obtain ⟨ys, h1, rfl⟩ := e
      exact .cons (Dv.stay' keeps_all a) (ih h1)
    | r n => simp [datas] at e
    | s n => simp [datas] at e
theorem ObR.less {m m' : Ms} {H : Hp} {p : Fp} {o : MO} (h : ObR K m H p o) (e : ∀ b, Live m' b → Live m b) : ObR K m' H p o := h.keeps (keeps_less e) fun _ _ _ _ _ q => q
theorem XcR.less {m m' : Ms} {H : Hp} {x : Xc} {c : Value} {d : Option Addr} (h : XcR K ct m H x c d) (e : ∀ b, Live m' b → Live m b) : XcR K ct m' H x c d := by
  obtain ⟨h1, dx, us, h2, h3, h4⟩ := h
  exact ⟨h1, dx, us, h2, h3, Paired.mapP h4 fun _ _ q => ⟨q.1, Dv.less' e q.2⟩⟩
theorem ob_one {m : Ms} {H : Hp} {p : Fp} {o : MO} (h : ObR K m H p o) (n : o ≠ .dead) (nq : ∀ x gs, o ≠ .q x gs) : ∃ a, p = some [a] := by
  cases o with
  | dead => exact (n rfl).elim
  | l xs => obtain ⟨a, _, q, _⟩ := h; exact ⟨a, q⟩
  | k xs => obtain ⟨a, q, _⟩ := h; exact ⟨a, q⟩
  | o x fs => obtain ⟨a, _, _, _, q, _⟩ := h; exact ⟨a, q⟩
  | q x gs => exact (nq x gs rfl).elim
theorem add_live {m : Ms} {a b : Addr} (h : Live (m.add a) b) : b = a ∨ Live m b := by
  rcases h with h | h
  · unfold Ms.add at h
    rw [fps_append, fps_one, List.mem_append, List.mem_singleton] at h
    exact h.elim (fun h => .inr (.inl h)) .inl
  · exact .inr (.inr h)
/-- one more thing stands there: it was made meanwhile -/
theorem RH.plus {m : Ms} {H : Hp} {μ : Mem} {a : Addr} {o : MO} (h : RH K m H μ) (n : ¬ Live m a) (ho : ObR K (m.add a) H (some [a]) o) (hx : ∀ (j : Nat) (p : Fp) (u : MO), m.v[j]? = some p → μ[j]? = some u → ObR K (m.add a) H p u) : RH K (m.add a) H (μ ++ [o]) := by
  refine ⟨?_, by simp [Ms.add, h.len], fun b hb => ⟨(h.hid b hb).1, fun z => ?_⟩, fun j q o' h1 h2 => ?_⟩
  · unfold Ms.add
    rw [fps_append, fps_one, List.nodup_append]
    exact ⟨h.nd, by simp, fun c hc b hb => by
      rw [List.mem_singleton.mp hb]
      rintro rfl
      exact n (.inl hc)⟩
  · unfold Ms.add at z
    rw [fps_append, fps_one, List.mem_append] at z
    rcases z with z | z
    · exact (h.hid b hb).2 z
    · rw [List.mem_singleton.mp z] at hb
      exact n (.inr hb)
  · unfold Ms.add at h1
    by_cases hn : j < m.v.length
    · rw [List.getElem?_append_left hn] at h1
      rw [List.getElem?_append_left (by rw [← h.len]; exact hn)] at h2
      exact hx j q o' h1 h2
    · have e : j = m.v.length := by
        have := (List.getElem?_eq_some_iff.mp h1).1
        simp at this
        omega
      subst e
      rw [List.getElem?_append_right (Nat.le_refl _)] at h1
      rw [h.len, List.getElem?_append_right (Nat.le_refl _)] at h2
      simp only [Nat.sub_self, List.getElem?_cons_zero, Option.some.injEq] at h1 h2
      subst h1
      subst h2
      exact ho
theorem rv_last {m : Ms} {H : Hp} {μ : Mem} {a : Addr} (hl : m.v.length = μ.length) : RV K (m.add a) H (.r μ.length) (.ref a) := by
  refine .inr ⟨[a], a, ?_, rfl, rfl⟩
  unfold Ms.add
  rw [← hl, List.getElem?_append_right (Nat.le_refl _)]
  simp
theorem back_ok {n : Nat} {μ0 μ : Mem} {o : Option MO} {w : W} {μ1 : Mem} (e : back n μ0 μ o = .ok w μ1) : ∃ u, o = some u ∧ (u ≠ .dead ∧ ∀ x gs, u ≠ .q x gs) ∧ w = .r μ0.length ∧ μ1 = μ0 ++ [u] := by
  unfold back at e
  split at e
  · cases e
  · cases e
  · rename_i u hu hq
    cases e
    exact ⟨u, rfl, ⟨fun z => hu (by rw [z]), fun x gs z => hq x gs (by rw [z])⟩, rfl, rfl⟩
  · cases e
theorem back_exc {n : Nat} {μ0 μ : Mem} {o : Option MO} {x : Xc} {μ1 : Mem} : back n μ0 μ o ≠ .exc x μ1 := by
  intro e
  unfold back at e
  split at e <;> cases e
theorem live_a {m m1 : Ms} (hi : m1.h = m.all.h) {b : Addr} (h : Live m b) : Live m1 b := .inr (by rw [hi]; exact all_live h)
/-- a def that runs for itself -/
theorem call_alone {F : Fn} {ws : List W} {μ : Mem} {m : Ms} {H : Hp} {σ : L2.St} {Z : WX} {Q : VK} {xs : List PyData} (hh : RH K m H μ) (e : datas ws = some xs) (g : Gd K ct Z m σ H (callF F ws μ) (PV K Q)) :
    Gd K ct (fun c d _ H' => Z c d σ H') m.all [] H (F ws []) (PV K Q) := by
  unfold callF at g
  rw [e] at g
  dsimp only at g
  have up : ∀ {m1 : Ms} {H1 : Hp}, Ext m.all H m1 H1 → ∀ b o, H b = some o → H1 b = some o := fun ex b o h => ex.keep b o h fun q => (all_vl q).elim
  have ex0 : ∀ {m1 : Ms} {H1 : Hp}, Ext m.all H m1 H1 → Ext m H m H1 := fun ex => ⟨fun n l h => .inr ⟨l, h, rfl⟩, fun _ h => h, rfl, fun b o h _ => up ex b o h, fun _ h n => (n h).elim⟩
  cases hr : F ws [] with
  | bad => rw [hr] at g; exact g
  | exc x μ' =>
    rw [hr] at g
    intro m1 H1 cls d ex h1 xr
    exact g m H1 cls d (ex0 ex) (hh.over (up ex)) (xr.less fun b => live_a ex.hid)
  | ok w μ' =>
    rw [hr] at g
    intro m1 H1 ex h1 v r1
    cases w with
    | d x => exact g m H1 (ex0 ex) (hh.over (up ex)) v (Dv.less' (fun b => live_a ex.hid) r1)
    | s ns => exact g.elim
    | r n =>
      dsimp only at g
      cases hb : back n μ μ' μ'[n]? with
      | bad => rw [hb] at g; exact g.elim
      | exc x _ => exact (back_exc hb).elim
      | ok w2 μ2 =>
        rw [hb] at g
        obtain ⟨u, hu, ⟨nd, nq⟩, rfl, rfl⟩ := back_ok hb
        obtain ⟨l, a, k1, k2, rfl, k4⟩ := ref_at r1 h1 hu nd
        obtain ⟨a', k5⟩ := ob_one k4 nd nq
        cases k5
        cases k2
        have va : VL m1 a := vl_at k1 (by simp)
        have na : ¬ Live m a := fun z => (h1.hid a (by rw [ex.hid]; exact all_live z)).2 va
        have less : ∀ b, Live (m.add a) b → Live m1 b := fun b hb => by
          rcases add_live hb with rfl | hb
          · exact .inl va
          · exact live_a ex.hid hb
        have e2 : Ext m H (m.add a) H1 := ⟨fun n l h => .inr ⟨l, mem_get _ h, rfl⟩, fun n h => mem_get _ h, rfl, fun b o h _ => up ex b o h, fun b hb hn => by
          rcases add_live (.inl hb) with rfl | z
          · exact ex.new b va all_vl
          · rcases z with z | z
            · exact (hn z).elim
            · unfold VL Ms.add at hb
              rw [fps_append, fps_one, List.mem_append, List.mem_singleton] at hb
              rcases hb with hb | hb
              · exact (hn hb).elim
              · subst hb
                exact (na (.inr z)).elim⟩
        refine g (m.add a) H1 e2 ((hh.over (up ex)).plus na (k4.less less) fun j p u hj hu => ?_) _ (rv_last hh.len)
        refine (hh.at_ j p u hj hu).keeps ⟨fun b o h _ => up ex b o h, fun b hb hn => ?_⟩ fun _ _ _ _ _ e => up ex _ _ e
        rcases add_live hb with rfl | hb
        · exact ex.new b va all_vl
        · exact (hn hb).elim
theorem cut_live {m : Ms} {n : Nat} {b : Addr} (h : Live (m.cut n) b) : Live m b := h.elim (fun z => .inl (fps_take_mem z)) .inr
/-- a def that runs on what is there -/
theorem call_all {F : Fn} {ws : List W} {μ : Mem} {m : Ms} {H : Hp} {σ : L2.St} {Z : WX} {Q : VK} (hh : RH K m H μ) (e : datas ws = none) (g : Gd K ct Z m σ H (callF F ws μ) (PV K Q)) :
    Gd K ct (fun c d _ H' => Z c d σ H') m [] H (F ws μ) (PV K Q) := by
  unfold callF at g
  rw [e] at g
  dsimp only at g
  cases hr : F ws μ with
  | bad => rw [hr] at g; exact g
  | exc x μ' =>
    rw [hr] at g
    intro m1 H1 cls d ex h1 xr
    rw [← hh.len] at g
    exact g _ H1 cls d ex.drop (h1.drop _) (xr.less fun b => cut_live)
  | ok w μ' =>
    rw [hr] at g
    intro m1 H1 ex h1 v r1
    rw [← hh.len] at g
    cases w with
    | d x => exact g _ H1 ex.drop (h1.drop _) v (Dv.less' (fun b => cut_live) r1)
    | s ns => exact g _ H1 ex.drop (h1.drop _) v r1
    | r n =>
      dsimp only at g
      by_cases hn : n < m.v.length
      · rw [if_pos hn] at g
        refine g _ H1 ex.drop (h1.drop _) v ?_
        have e : (m1.cut m.v.length).v[n]? = m1.v[n]? := List.getElem?_take_of_lt hn
        show (m1.cut m.v.length).v[n]? = some none ∨ _
        rw [e]
        exact r1
      · rw [if_neg hn] at g
        cases hb : back n (μ'.take m.v.length) μ' μ'[n]? with
        | bad => rw [hb] at g; exact g.elim
        | exc x _ => exact (back_exc hb).elim
        | ok w2 μ2 =>
          rw [hb] at g
          obtain ⟨u, hu, ⟨nd, nq⟩, rfl, rfl⟩ := back_ok hb
          obtain ⟨l, a, k1, k2, rfl, k4⟩ := ref_at r1 h1 hu nd
          obtain ⟨a', k5⟩ := ob_one k4 nd nq
          cases k5
          cases k2
          have va : VL m1 a := vl_at k1 (by simp)
          have tk : ∀ {j : Nat} {p : Fp}, (m1.v.take m.v.length)[j]? = some p → m1.v[j]? = some p ∧ j < m.v.length := fun {j p} hj => by
            have hlt : j < m.v.length := by
              have := (List.getElem?_eq_some_iff.mp hj).1
              rw [List.length_take] at this
              omega
            rw [List.getElem?_take_of_lt hlt] at hj
            exact ⟨hj, hlt⟩
          have na : ¬ Live (m1.cut m.v.length) a := fun z => by
            rcases z with z | z
            · obtain ⟨l, hl, hal⟩ := fps_iff.mp z
              obtain ⟨i, hi⟩ := List.mem_iff_getElem?.mp hl
              obtain ⟨hi, hlt⟩ := tk hi
              have := nodup_apart h1.nd hi k1 hal (by simp)
              omega
            · exact (h1.hid a z).2 va
          have less : ∀ b, Live ((m1.cut m.v.length).add a) b → Live m1 b := fun b hb => by
            rcases add_live hb with rfl | hb
            · exact .inl va
            · exact cut_live hb
          have ed := ex.drop
          have e2 : Ext m H ((m1.cut m.v.length).add a) H1 := ⟨fun n l h => by
            rcases ed.pre n l h with h2 | ⟨l', h2, h3⟩
            · exact .inl (mem_get _ h2)
            · exact .inr ⟨l', mem_get _ h2, h3⟩, fun n h => mem_get _ (ed.pre0 n h), ed.hid, ex.keep, fun b hb hn => by
            refine ex.new b ?_ hn
            unfold VL Ms.add at hb
            rw [fps_append, fps_one, List.mem_append, List.mem_singleton] at hb
            rcases hb with hb | hb
            · exact fps_take_mem hb
            · rw [hb]
              exact va⟩
          refine g _ H1 e2 ((h1.drop _).plus na (k4.less less) fun j p u hj hu => ?_) _ (rv_last (h1.drop _).len)
          obtain ⟨hj, hlt⟩ := tk hj
          rw [List.getElem?_take_of_lt hlt] at hu
          exact (h1.at_ j p u hj hu).less less
theorem call_gd {F : Fn} {ws : List W} {μ : Mem} {m : Ms} {H : Hp} {vs : List V} {σ : L2.St} {Z : WX} {Q : VK} (r : RVs K m H ws vs) (hh : RH K m H μ) (g : Gd K ct Z m σ H (callF F ws μ) (PV K Q)) :
    ∃ m0 μ0, RVs K m0 H ws vs ∧ RH K m0 H μ0 ∧ Gd K ct (fun c d _ H' => Z c d σ H') m0 [] H (F ws μ0) (PV K Q) := by
  cases e : datas ws with
  | none => exact ⟨m, μ, r, hh, call_all hh e g⟩
  | some xs => exact ⟨m.all, [], rvs_all r e, hh.allH, call_alone hh e g⟩
end
section
variable {X : Cx} {ct : Ct} {Z : WX} {k : Nat} {x : Str} {F : Fn} {dws : List PyData} {p pos : Pos}
theorem fn_run {f : Addr} {fd : FuncData} {ps : List Str} {ds : List Value} {dvs : List V} (G : FnG X.prog X.w X.K X.mg X.base ct k f fd ps F) (hb : Binds X.K fd ps ds) (hd : Vals dvs ds) (hD : ∀ L H, DvAll X.K L H dvs dws) (hr : Room k X.A) (hgd : X.A.guards = some []) (tk : Takes X Z)
    {pins : List (Addr × Obj)} {σ : L2.St} {H : Hp} {s : Shared} {Q : VK} {us : List Value} {vs : List V} {m : Ms} {μ : Mem} {ws : List W} (I : Inv X pins σ H s) (r : Vals vs us) (rv : RVs X.K m H ws vs) (hh : RH X.K m H μ)
    (g : Gd X.K ct Z m σ H (callF F (ws ++ dws.map W.d) μ) (PV X.K Q)) : wpAny (model X.prog X.w) X.A (call (.ref f) us) (EP X pins σ Q) X.xe s := by
  have r2 : Vals (vs ++ dvs) (us ++ ds) := r.append hd
  have rv2 : RVs X.K m H (ws ++ dws.map W.d) (vs ++ dvs) := rvs_app rv (rvs_map (hD _ H))
  obtain ⟨m0, μ0, k1, k2, k3⟩ := call_gd rv2 hh g
  have hl : (us ++ ds).length = ps.length := by
    rw [← r2.length, ← Paired.length k1]
    refine G.len _ μ0 fun z => ?_
    rw [z] at k3
    exact k3
  refine wpAny_call (codeAny_mono (G.run X.A X.stack s H ⟨us, []⟩ (us ++ ds) (vs ++ dvs) Q (WE Z σ) m0 μ0 _ hr hgd I.env0 (hb s us I.kIn hl) r2 k1 k2 k3) fun r s' hq => ?_)
  cases r with
  | error e => exact passAt tk σ pins H s e s' I hq
  | ok fl =>
    cases fl with
    | ret u => exact I.after hq
    | next => exact False.elim hq
    | brk => exact False.elim hq
    | cont => exact False.elim hq
theorem mCall (c : CalG X.prog X.w X.K X.mg X.base ct k x F dws) (hr : Room k X.A) (hgd : X.A.guards = some []) (tk : Takes X Z) {e : Expr} {es : List Expr} {da : DA} (ha : MA X ct Z (e :: es) da) (hg : Gl X x := by rfl)
    (hdb : (x == ("__debug__" : Str)) = false := by decide) (he : starEach (e :: es) X.env = (false, eval e X.env) :: starEach es X.env := by rfl) (hpl : (backTo pos (starEach es X.env)).any (·.1) = false := by rfl) : ME X ct Z (.Call (.Name x p) (e :: es) [] pos) (dCall F dws da) := by
  obtain ⟨f, fd, ps, ds, dvs, G, hm, hk, hb, hd, hD⟩ := c.ex
  refine ⟨⟨fun pins s σ H Q I h => ?_⟩⟩
  obtain ⟨m, ρ, μ, hρ, hh, g⟩ := h
  refine wpAny_Call_Name_kw (ld_glob I hg hm ?_ hdb)
  refine PySem.W.callWith_K (h₀ := X.base) I.ok.mod.kin hk (thn (ha.pa.run pos pins s σ H (fun vs H1 => ∃ m μ ws, RVs X.K m H1 ws vs ∧ RH X.K m H1 μ ∧ Gd X.K ct Z m σ H1 (callF F (ws ++ dws.map W.d) μ) (PV X.K Q)) I
    ⟨m, ρ, μ, hρ, hh, (Gd.bnd g).mono fun ws μ1 m1 H1 e1 h1 g1 vs r1 => ⟨m1, μ1, ws, r1, h1, g1⟩⟩) fun us s1 ⟨vs, H1, I1, r, m1, μ1, ws, r1, h1, g1⟩ => ⟨I1.kIn, ?_⟩) he hpl
  exact fn_run G hb hd hD hr hgd tk I1 r r1 h1 g1
end
/-- the body's reading, as a def's -/
def fnF (np n : Nat) (body : DS) : Fn := fun ws μ => if ws.length = np then (match body (ws.map some ++ List.replicate (n - ws.length) none) μ with
  | .nx _ μ' => .ok (.d .none) μ'
  | .rt w μ' => .ok w μ'
  | .exc x _ μ' => .exc x μ'
  | _ => .bad) else .bad
section
variable {P : Program} {w : World} {K : PySem.W.Frag} {mg : Str → Option Value} {base : Heap} {ct : Ct}
theorem paired_get {α β : Type} {R : α → β → Prop} {l₁ : List α} {l₂ : List β} (h : Paired R l₁ l₂) {i : Nat} {a : α} (e : l₁[i]? = some a) : ∃ b, l₂[i]? = some b ∧ R a b := by
  induction h generalizing i with
  | nil => simp at e
  | cons r t ih =>
    cases i with
    | zero =>
      simp only [List.getElem?_cons_zero, Option.some.injEq] at e
      subst e
      exact ⟨_, rfl, r⟩
    | succ i => exact ih (i := i) (by simpa using e)
theorem env_start {m : Ms} {H : Hp} {ws : List W} {vs : List V} {N : List Str} (r : RVs K m H ws vs) : EnvR K m H (ws.map some ++ List.replicate (N.length - ws.length) none) (L2.start N vs) := by
  have hl : ws.length = vs.length := Paired.length r
  refine ⟨by unfold L2.start; simp [hl], fun i w q => ?_⟩
  unfold L2.start
  by_cases hi : i < ws.length
  · rw [List.getElem?_append_left (by simpa using hi), List.getElem?_map] at q
    rw [List.getElem?_append_left (by rw [List.length_map, ← hl]; exact hi), List.getElem?_map]
    obtain ⟨w', h1, h2⟩ := Option.map_eq_some_iff.mp q
    cases h2
    obtain ⟨v, h3, h4⟩ := paired_get r h1
    exact ⟨v, by rw [h3]; rfl, h4⟩
  · rw [List.getElem?_append_right (by simpa using hi), List.getElem?_replicate] at q
    split at q <;> cases q
/-- a def, by its body -/
theorem fnG {x qual : Str} {st : Stmt} {f : Addr} {fd : FuncData} {N ps : List Str} {k : Nat} {body : DS} (Fu : C8.Fun K x qual st f fd) (S : FnScope N ps (C8.fnScope st))
    (hb : ∀ (cdv : Value) (A : Around) (outer : List PySem.Env) (s : Shared) (H : Hp) (E : XK), Room k (cxOf (L2.CX P w) P w K mg base N qual (C8.fnScope st) f cdv A outer s H E).A → (cxOf (L2.CX P w) P w K mg base N qual (C8.fnScope st) f cdv A outer s H E).A.guards = some [] →
      MSs (cxOf (L2.CX P w) P w K mg base N qual (C8.fnScope st) f cdv A outer s H E) ct (fun c d _ H' => E c d H') (C8.fnBody st) body) : FnG P w K mg base ct (k + 1) f fd ps (fnF ps.length N.length body) := by
  obtain ⟨oc, od, dV, kV, doc, pm, an, cdv, ctv, osl, rfl, look, code⟩ := Fu.ex
  have len : ∀ ws μ, fnF ps.length N.length body ws μ ≠ .bad → ws.length = ps.length := fun ws μ h => by
    unfold fnF at h
    split at h
    · assumption
    · exact (h rfl).elim
  refine ⟨len, fun A outer s H args us vs Q E m μ ws room hgd e0 bind rel rv hh g => ?_⟩
  have hws : ws.length = ps.length := len ws μ fun z => by rw [z] at g; exact g
  have hl : vs.length = ps.length := by rw [← Paired.length rv]; exact hws
  have inK : K.In s.heap := e0.mod.kin.keeps fun b o e => (e0.bs b o e).1
  have noLim : s.heap.NoLimit := e0.mod.nolimit.keeps fun b o e => (e0.bs b o e).1
  have kinds : ∀ z ∈ ps.zip us, (C8.fnScope st).names.lookup z.1 = some .local ∨ ((C8.fnScope st).names.lookup z.1 = some .cell ∧ ((cellsFrom (s.heap.objs.size + 1) (C8.fnScope st).names []).lookup z.1).isSome = true) := by
    rintro ⟨m, v⟩ hz
    rcases S.par m (List.of_mem_zip hz).1 with z | z
    · exact Or.inl z
    · exact Or.inr ⟨z, PySem.W.cellsFrom_some _ _ _ (Or.inl z)⟩
  apply codeAny_call_function room.depth (inK _ _ look) rfl S.co S.gen rfl (PySem.W.codeRec_of inK code)
  apply bind
  apply wpAny_newFunctionEnv_cells S.kind kinds
  intro env he s1 y
  subst he
  constructor
  · exact noLim.keeps y.toInCall.keep
  apply codeAny_func
  have J := inv_start (CX := L2.CX P w) (P := P) (w := w) (E := E) S room.hd e0 hl rel y
  have B := (hb cdv A outer s H E (room.deeper _) hgd).pss
  refine wpAny_mono (B.run [] s1 (L2.start N vs) H { nx := fun _ H' => Q .non H', rt := Q } J ⟨m, _, μ, env_start rv, hh, ?_⟩) (fun fl s' hs => ?_) fun e s' hs => hs
  · unfold fnF at g
    rw [if_pos hws] at g
    cases q : body (ws.map some ++ List.replicate (N.length - ws.length) none) μ with
    | nx ρ' μ' => rw [q] at g; exact fun m' σ' H' e h' _ => g m' H' e h' .non .non
    | rt w' μ' => rw [q] at g; exact fun m' H' v e h' r => g m' H' e h' v r
    | exc x' ρ' μ' => rw [q] at g; exact fun m' σ' H' cls d e h' _ xr => g m' H' cls d e h' xr
    | bk _ _ => rw [q] at g; exact g.elim
    | ct _ _ => rw [q] at g; exact g.elim
    | bad => rw [q] at g; exact g.elim
  · cases fl with
    | ret u =>
      obtain ⟨v, σ', H', I, rv, z⟩ := hs
      exact ⟨v, H', I.os, I.bare, I.base, I.hok, rv, z⟩
    | next =>
      obtain ⟨σ', H', I, z⟩ := hs
      exact ⟨V.non, H', I.os, I.bare, I.base, I.hok, rfl, z⟩
    | brk => exact hs.elim fun _ h => h.elim fun _ h => h.2.elim
    | cont => exact hs.elim fun _ h => h.elim fun _ h => h.2.elim
/-- what is known within a def -/
theorem def_takes {N : List Str} {qual : Str} {scope : Scope} {f : Addr} {cd : Value} {A : Around} {outer : List PySem.Env} {s : Shared} {H : Hp} {E : XK} : Takes (cxOf (L2.CX P w) P w K mg base N qual scope f cd A outer s H E) (fun c d _ H' => E c d H') :=
  takes_of rfl rfl rfl rfl
theorem def_owns {N : List Str} {qual : Str} {scope : Scope} {f : Addr} {cd : Value} {A : Around} {outer : List PySem.Env} {s : Shared} {H : Hp} {E : XK} :
    PassesOwn (model P w) (cxOf (L2.CX P w) P w K mg base N qual scope f cd A outer s H E).A (cxOf (L2.CX P w) P w K mg base N qual scope f cd A outer s H E).env (cxOf (L2.CX P w) P w K mg base N qual scope f cd A outer s H E).xe :=
  passes_of (X := cxOf (L2.CX P w) P w K mg base N qual scope f cd A outer s H E) rfl
end
theorem takesF {X : Cx} : Takes X ZF := fun _ _ h => by
  obtain ⟨_, _, _, _, _, _, _, _, _, _, _, _, _, _, _, _, w⟩ := h
  exact w.elim
end Mok09

set_option autoImplicit false
namespace Mok09
open PySem PySem.Spec PyProof.Rows L2
open PySem.AutoSeq1 in
theorem list_extend_tupleW (l : Addr) (items : Array Value) (n : Nat) (b : Addr) (items2 : Array Value) (n2 : Nat) (dd : Option Addr) (sl : Array (Option Value)) (hs0 : ¬(!items.isEmpty && Builtin.List.listTooLong (items.size + items2.size)) = true) (hs1 : items.size ≤ sizeLine) (hs2 : items.size + items2.size ≤ sizeLine + 1) :
    Meets (Builtin.«list.extend» ⟨[.ref l, .ref b], []⟩) (fun _ R s => s.heap.get? l = some { cls := .type "list", dict := none, data := .seq items n, slots := #[] } ∧ s.heap.get? b = some { cls := .type "tuple", dict := dd, data := .seq items2 n2, slots := sl } ∧ R (.ok (.ret Value.none)) { s with heap := s.heap.update l (Obj.mapSeq fun x => x ++ items2), toks := s.toks }) :=
  .of_wp fun prog w A R s h => by
    obtain ⟨hp, g, d, tk, os⟩ := s; obtain ⟨hl, hb, h⟩ := h; have f1 := idx_int; have f2 := PySem.AutoSeq1.sub_tuple_tuple; have f3 := PySem.AutoSeq1.sub_list_list; have f4 := PySem.AutoSeq1.sub_tuple_list; have f5 := PySem.AutoSeq1.sub_list_tuple;
    have hz' : (items ++ items2).size ≤ sizeLine + 1 := by rw [Array.size_append]; exact hs2
    wp_walk using (wpAny_updateSeq hl rfl (hz := hs1) (_hz' := hz')), wpAny_loadPart' hl, wpAny_loadPart' hb; exact ⟨_, rfl, h⟩
section
variable {X : Cx} {ct : Ct} {Z : WX}
def rExtendT (K : PySem.W.Frag) : V → List V → Hp → VK → Prop := fun x vs H Q => ∃ l b xs zs, x = .ref l ∧ vs = [.ref b] ∧ H l = some (.lst xs) ∧ SqT K H b zs ∧ xs.length + zs.length ≤ sizeLine ∧ Q .non (upd H l (.lst (xs ++ zs)))
/-- xs.extend(t) of a tuple -/
theorem mt_extendT : MtM X "list.extend" (rExtendT X.K) := by
  intro pins s σ H x vs v us Q I rx rv h
  obtain ⟨l, b, xs, zs, rfl, rfl, hH, hB, hz, q⟩ := h
  cases rx
  obtain ⟨u, rfl, ru⟩ := rv.one
  cases ru
  obtain ⟨z, its, n, r, hl, e⟩ := I.lstM hH
  obtain ⟨its2, r2, ⟨⟨cls2, dd2, data2, sl2⟩, ho2, hc2, n2, hd2⟩, hl2⟩ := I.tuple hB
  simp only at hc2 hd2
  subst hc2 hd2
  have e2 := r2.length
  have hsz : its.toArray.size + its2.toArray.size ≤ sizeLine := by rw [List.size_toArray, List.size_toArray]; omega
  have hlong : ¬ (!its.toArray.isEmpty && Builtin.List.listTooLong (its.toArray.size + its2.toArray.size)) = true := by
    rw [notLongL hsz, Bool.and_false]
    exact Bool.false_ne_true
  refine call_meets F.slot_list_extend ⟨_, e, rfl⟩ F.entry_list_extend (F.args_list_extend_2 _ _)
    (list_extend_tupleW l its.toArray n b its2.toArray n2 dd2 sl2 hlong (by rw [List.size_toArray]; omega) (by omega)) ⟨e, ho2, ?_⟩
  refine ⟨.non, _, I.lset (its' := its ++ its2) hH e (by simp) (r.append r2) ?_, rfl, q⟩
  rw [List.length_append]
  omega
theorem extend_op : MtO X "list.extend" opExtend := by
  intro pins s σ H x xs v us Q I rx rs h
  obtain ⟨m, μ, ws, r, hh, g⟩ := h
  unfold opExtend at g
  split at g
  · rename_i n b
    cases r with
    | cons r1 t =>
      cases t with
      | cons r2 t =>
        cases t
        split at g
        · rename_i ys e
          split at g
          · rename_i zs e2
            split at g
            · rename_i hz
              obtain ⟨a, vs, h1, rfl, h2, h3⟩ := lst_at r1 hh e
              by_cases ht : ∃ ts, b = .d (.tuple ts)
              · obtain ⟨ts, rfl⟩ := ht
                cases e2
                cases r2 with
                | tup k1 k2 =>
                  obtain ⟨e1, h4⟩ := put_lst hh h1 h2 (h3.app k2)
                  exact mt_extendT pins s σ H _ _ v us Q I rx rs ⟨a, _, vs, _, rfl, rfl, h2, k1.sq, by have := sz_le hz; rw [h3.len, k2.len]; exact this, g _ _ _ e1 h4 .non⟩
              · have e3 : listV b μ = some zs := by
                  cases b with
                  | d y => cases y with
                    | list l => exact e2
                    | tuple l => exact (ht ⟨l, rfl⟩).elim
                    | _ => cases e2
                  | r n => exact e2
                  | s n => cases e2
                obtain ⟨b', us', rfl, k1, k2⟩ := listV_ok r2 hh e3
                obtain ⟨e1, h4⟩ := put_lst hh h1 h2 (h3.app k2)
                exact mt_extend pins s σ H _ _ v us Q I rx rs ⟨a, b', vs, us', rfl, rfl, h2, k1, by have := sz_le hz; rw [h3.len, k2.len]; exact this, g _ _ _ e1 h4 .non⟩
            · exact g.elim
          · exact g.elim
        · exact g.elim
  · exact g.elim
/-! ### stars, tuple(..), list(..), a, b, c = .. -/
theorem mStar {e : Expr} {es : List Expr} {p : Pos} {da : DE} {dr : DA} (ha : ME X ct Z e da) (hr : MA X ct Z es dr) (hs : starEach (.Starred e p :: es) X.env = (true, eval e X.env) :: starEach es X.env := by rfl) : MA X ct Z (.Starred e p :: es) (dStar da dr) := by
  refine ⟨pa_imp (StX.pa_star ha.pe hr.pa hs) fun σ H Q h => ?_⟩
  obtain ⟨m, ρ, μ, he, hh, g⟩ := h
  refine ⟨m, ρ, μ, he, hh, (Gd.bnd g).mono fun a μ1 m1 H1 e1 h1 g1 v r1 => ?_⟩
  cases q : viewL a μ1 with
  | none => rw [q] at g1; exact g1.elim
  | some ys =>
    rw [q] at g1
    obtain ⟨b, vs, rfl, hq, hall⟩ := view_ok r1 h1 q
    refine ⟨b, vs, rfl, hq.symm, m1, ρ, μ1, he.ext e1, h1, (Gd.bnd g1).mono fun xs μ2 m2 H2 e2 h2 g2 us r2 => ?_⟩
    exact g2 m2 H2 (.refl _ _) h2 _ (rvs_app (rvs_map (hall.stay e2.ks)) r2)
def opTu : Op
  | [w], μ => opTuple [w] μ
  | _, _ => none
theorem tu_op : CallO X (.type "tuple") opTu := by
  intro pins s σ H xs us Q I r h
  obtain ⟨m, μ, ws, rr, hh, g⟩ := h
  unfold opTu at g
  split at g
  · cases rr with
    | cons r1 t =>
      cases t
      exact tuple_op1 I r r1 hh g
  · exact g.elim
def opLs (own : Bool) : Op
  | [w], μ => opList own [w] μ
  | _, _ => none
def opInt : Op
  | [.d (.int i)], μ => pI i μ
  | [.d (.bool b)], μ => pI (if b then 1 else 0) μ
  | _, _ => none
theorem int_op : CallO X (.type "int") opInt := by
  intro pins s σ H xs us Q I r h
  obtain ⟨m, μ, ws, rr, hh, g⟩ := h
  unfold opInt at g
  split at g
  · cases rr with
    | cons r1 t =>
      cases t
      cases r1
      exact call_int1 pins s σ H _ us Q I r (.inl ⟨_, rfl, g.now hh (.int _)⟩)
  · cases rr with
    | cons r1 t =>
      cases t
      cases r1
      exact call_int1 pins s σ H _ us Q I r (.inr ⟨_, rfl, g.now hh (.int _)⟩)
  · exact g.elim
/-- a, b, c = x, y, z -/
def sPar3 (i j k : Nat) (d : DA) : DS := fun ρ μ => match d ρ μ with
  | .ok [a, b, c] μ1 => .nx (((ρ.set i (some a)).set j (some b)).set k (some c)) μ1
  | .ok _ _ => .bad
  | .exc x μ1 => .exc x ρ μ1
  | .bad => .bad
/-! ### from here on a name's list is plain data -/
def sLet (i : Nat) : DS := fun ρ μ => match ρ[i]? with
  | some (some w) => match frzW w μ with
    | some (x, μ1) => .nx (ρ.set i (some (.d x))) μ1
    | none => .bad
  | _ => .bad
theorem set_self {σ : L2.St} {i : Nat} {v : V} (h : σ[i]? = some (some v)) : σ.set i (some v) = σ := by
  apply List.ext_getElem?
  intro j
  by_cases e : i = j
  · subst e
    rw [List.getElem?_set_self (List.getElem?_eq_some_iff.mp h).1, h]
  · rw [List.getElem?_set_ne e]
theorem msLet (i : Nat) {sts : List Stmt} {d : DS} (h : MSs X ct Z sts d) : MSs X ct Z sts (sSeq (sLet i) d) := by
  refine ⟨pss_imp h.pss fun D σ H q => ?_⟩
  obtain ⟨m, ρ, μ, he, hh, g⟩ := q
  unfold sSeq sLet at g
  cases hw : ρ[i]? with
  | none => rw [hw] at g; exact g.elim
  | some o =>
    rw [hw] at g
    cases o with
    | none => exact g.elim
    | some w =>
      dsimp only at g
      cases hz : frzW w μ with
      | none => rw [hz] at g; exact g.elim
      | some p =>
        rw [hz] at g
        obtain ⟨v, h1, h2⟩ := he.at_ i w hw
        obtain ⟨m', e, h3, h4⟩ := frz_ok (x := p.1) (μ' := p.2) h2 hh hz
        refine ⟨m', _, _, ?_, h3, Gs.ext g e⟩
        have := (he.ext e).set (w := .d p.1) h4 i
        rwa [set_self h1] at this
end
/-! ### defs of the module -/
theorem fnG_bad {P : Program} {w : World} {K : PySem.W.Frag} {mg : Str → Option Value} {base : Heap} {ct : Ct} {k : Nat} {f : Addr} {fd : FuncData} {ps : List Str} : FnG P w K mg base ct k f fd ps (fun _ _ => .bad) :=
  ⟨fun _ _ h => (h rfl).elim, fun _ _ _ _ _ _ _ _ _ _ _ _ _ _ _ _ _ _ _ g => g.elim⟩
def DefAt (K : PySem.W.Frag) (mg : Str → Option Value) (x : Str) (st : Stmt) (ps : List Str) : Prop := ∃ (f : Addr) (fd : FuncData), C8.Fun K x x st f fd ∧ mg x = some (.ref f) ∧ PySem.W.keepIn K (.ref f) = true ∧ Binds K fd ps []
section
variable {P : Program} {w : World} {K : PySem.W.Frag} {mg : Str → Option Value} {base : Heap} {ct : Ct} {k : Nat} {x : Str} {st : Stmt} {N ps : List Str} {body : DS}
theorem calG_bad (D : DefAt K mg x st ps) : CalG P w K mg base ct k x (fun _ _ => .bad) [] := by
  obtain ⟨f, fd, _, h2, h3, h4⟩ := D
  exact ⟨f, fd, ps, [], [], fnG_bad, h2, h3, h4, .nil, fun _ _ => .nil⟩
theorem calG_of (np n : Nat) (D : DefAt K mg x st ps) (S : FnScope N ps (C8.fnScope st)) (hnp : np = ps.length) (hn : n = N.length)
    (hb : ∀ (f : Addr) (cdv : Value) (A : Around) (outer : List PySem.Env) (s : Shared) (H : Hp) (E : XK), Room k (A.deeper (envOfC x (C8.fnScope st) s.heap.objs.size f cdv)) → (A.deeper (envOfC x (C8.fnScope st) s.heap.objs.size f cdv)).guards = some [] →
      MSs (cxOf (L2.CX P w) P w K mg base N x (C8.fnScope st) f cdv A outer s H E) ct (fun c d _ H' => E c d H') (C8.fnBody st) body) : CalG P w K mg base ct (k + 1) x (fnF np n body) [] := by
  subst hnp hn
  obtain ⟨f, fd, h1, h2, h3, h4⟩ := D
  exact ⟨f, fd, ps, [], [], fnG h1 S (hb f), h2, h3, h4, .nil, fun _ _ => .nil⟩
/-- the same, with its parameters -/
def CalP (P : Program) (w : World) (K : PySem.W.Frag) (mg : Str → Option Value) (base : Heap) (ct : Ct) (k : Nat) (x : Str) (ps : List Str) (F : Fn) : Prop := ∃ (f : Addr) (fd : FuncData), FnG P w K mg base ct k f fd ps F ∧ mg x = some (.ref f) ∧ Binds K fd ps []
theorem calP_of (np n : Nat) (D : DefAt K mg x st ps) (S : FnScope N ps (C8.fnScope st)) (hnp : np = ps.length) (hn : n = N.length)
    (hb : ∀ (f : Addr) (cdv : Value) (A : Around) (outer : List PySem.Env) (s : Shared) (H : Hp) (E : XK), Room k (A.deeper (envOfC x (C8.fnScope st) s.heap.objs.size f cdv)) → (A.deeper (envOfC x (C8.fnScope st) s.heap.objs.size f cdv)).guards = some [] →
      MSs (cxOf (L2.CX P w) P w K mg base N x (C8.fnScope st) f cdv A outer s H E) ct (fun c d _ H' => E c d H') (C8.fnBody st) body) : CalP P w K mg base ct (k + 1) x ps (fnF np n body) := by
  subst hnp hn
  obtain ⟨f, fd, h1, h2, h3, h4⟩ := D
  exact ⟨f, fd, fnG h1 S (hb f), h2, h4⟩
theorem def_at {h : Heap} {f : Addr} {oc kV doc pm cdv ctv : Value} {od an : Option Addr} {osl : Array (Option Value)} (KX : K.In h) (G : h.Ns mainGlobals mg) (a : PySem.W.nsIn K mainGlobals x = some (some (.ref f)))
    (l : K.lookup f = some ⟨oc, od, .func (PySem.W.fnOf x x (C8.fnArgs st) (C8.fnBody st) (C8.fnScope st) .none kV doc pm an cdv ctv), osl⟩) (c : PySem.W.codeIn K cdv x = true) (kp : PySem.W.keepIn K (.ref f) = true)
    (hb : ∀ (kV doc pm : Value) (an : Option Addr) (cdv ct : Value) (us : List Value), us.length = ps.length → bindArgs (PySem.W.fnOf x x (C8.fnArgs st) (C8.fnBody st) (C8.fnScope st) .none kV doc pm an cdv ct) ⟨us, []⟩ = pure (ps.zip us)) : DefAt K mg x st ps :=
  ⟨f, _, ⟨oc, od, .none, kV, doc, pm, an, cdv, ctv, osl, rfl, l, c⟩, PySem.W.mg_of KX G a, kp, .all (hb kV doc pm an cdv ctv)⟩
end
theorem hu4 {n m : Nat} (h : n + 66 < m) : n + 64 < m := by omega
theorem hu_room {A : Around} {k : Nat} (h : Room k A) : A.units + 66 < cLine := by
  have := h.un
  omega
end Mok09

set_option autoImplicit false
namespace Mok09
open PySem PySem.Spec PyProof.Rows L2
/-- the law's call, from its body where nothing runs around it but the claim's caller -/
theorem call_here {P : Program} {w : World} {K : PySem.W.Frag} {mg mb : Str → Option Value} {fa a : Addr} {s1 : Shared} {vs : List Value} {ns : List Int}
    (KX : K.In s1.heap) (hns : s1.heap.Ns mainGlobals mg) (hb : s1.heap.Ns builtinsNs mb) (hbb : ∀ x : Str, x ≠ "__name__" → mb x = bootBuiltins x) (lim : s1.heap.NoLimit) (hg : s1.gens = #[])
    (ha : s1.heap.get? a = some { cls := .type "list", data := .seq vs.toArray }) (hi : IntsAre vs ns) (hl : ns.length ≤ sizeLine)
    (run : ∀ (base : Heap) (H : Hp), K.In base → base.Ns mainGlobals mg → Env0 P w K mg base callerA [] s1 H → LsR K H a (ns.map V.int) → codeAny (model P w) callerA (.call (.ref fa) ⟨[.ref a], []⟩) (CR (L2.CX P w) [] P w H s1 (fun v _ => v = .bl true) (fun _ _ _ => False)) s1) :
    codeAny (model P w) callerA (.call (.ref fa) ⟨[.ref a], []⟩) (fun r s' => r = .ok (.ret (.bool true)) ∧ OldK s1.heap s'.heap ∧ s'.os = s1.os ∧ AllBare s'.gens) s1 := by
  have rv := vals_ints hi
  have lv := hi.length
  suffices main : ∃ H : Hp, Only H ∧ LsR K H a (ns.map V.int) ∧ HOk P w H s1.heap ∧ (∀ b, H b ≠ none → b = a ∧ K.lookup a = none) by
    obtain ⟨H, hO, hS, hok, hA⟩ := main
    have free : ∀ {b : Addr} {o : Obj}, s1.heap.get? b = some o → (b = a → K.lookup a = none → False) → (hidT s1.heap H).get? b = some o := by
      intro b o e no
      refine hidT_get e (Classical.byContradiction fun z => ?_)
      exact no (hA b z).1 (hA b z).2
    have nsK : ∀ {b : Addr} {m : Str → Option Value}, s1.heap.Ns b m → (hidT s1.heap H).Ns b m := by
      rintro b m ⟨o, es, ep, e, d, r⟩
      refine ⟨o, es, ep, free e fun z _ => ?_, d, r⟩
      rw [z, ha] at e
      cases e
      cases d
    have kb : K.In (hidT s1.heap H) := by
      intro b o e
      refine free (KX b o e) fun z n => ?_
      rw [z, n] at e
      cases e
    have md : Mod K mg (hidT s1.heap H) := by
      obtain ⟨mc, l1, l2⟩ := lim
      exact ⟨kb, nsK hns, ⟨mb, nsK hb, hbb⟩, ⟨mc, nsK l1, l2⟩⟩
    have none_ : ∀ b : Addr, b ∉ frs ([] : List PySem.Env) := fun b z => by cases z
    have e0 : Env0 P w K mg (hidT s1.heap H) callerA [] s1 H :=
      { frames := rfl, mod := md, bs := fun b o e => of_hidT e, bsz := Nat.le_of_eq (hidT_size _ _), funs := trivial, frf := fun b z => absurd z (none_ b), hok := hok, bare := .of_eq hg }
    apply codeAny_mono (run _ H kb (nsK hns) e0 hS)
    intro r s' h
    match r, h with
    | .error e, h =>
      obtain ⟨_, _, _, _, _, _, _, _, _, _, _, _, z⟩ := h
      exact z.elim
    | .ok .next, h => exact False.elim h
    | .ok .brk, h => exact False.elim h
    | .ok .cont, h => exact False.elim h
    | .ok (.ret u), h =>
      obtain ⟨v, H', os, bare, un, hok', r', z⟩ := h
      have z : v = V.bl true := z
      subst z
      cases (show u = Value.bool true from r')
      refine ⟨rfl, OldK.of_keep ?_, os, bare⟩
      intro b o e
      rcases hO b with n | ⟨ob, xs, n⟩
      · exact un.keep b o e n (none_ b) (by simp)
      · have k1 := (hok b _ n).1
        have k2 := (hok' b _ (un.frzs b ob _ n)).1
        rw [k1] at e
        cases e
        exact k2
  cases hk : K.lookup a with
  | some o =>
    have e := KX a o hk
    rw [ha] at e
    cases e
    refine ⟨fun _ => none, fun _ => Or.inl rfl, Or.inr ⟨_, vs.toArray, _, hk, rfl, rfl, rfl, ?_, by simpa using rv⟩, fun b u z => (by cases z), fun b z => absurd rfl z⟩
    rw [List.size_toArray, lv]
    exact hl
  | none =>
    refine ⟨upd (fun _ => none) a (.frz { cls := .type "list", data := .seq vs.toArray } (.lst (ns.map V.int))), fun b => ?_, Or.inl ⟨_, upd_same⟩, fun b u z => ?_, fun b z => ?_⟩
    · by_cases hb : b = a
      · subst hb
        exact Or.inr ⟨_, _, upd_same⟩
      · exact Or.inl (upd_ne hb)
    · by_cases hb : b = a
      · subst hb
        rw [upd_same] at z
        cases z
        refine ⟨ha, ?_, vs, _, rv, ha⟩
        rw [List.length_map]
        exact hl
      · rw [upd_ne hb] at z
        cases z
    · by_cases hb : b = a
      · exact ⟨hb, rfl⟩
      · exact absurd (upd_ne hb) z

end Mok09

set_option autoImplicit false
namespace Mok09
open PySem PySem.Spec PyProof.Rows L2
/-! ### what a step of the mirror comes to -/
def Ok {α : Type} (r : Res α) (P : α → Mem → Prop) : Prop := match r with
  | .ok a μ => P a μ
  | _ => False
def OkO (r : Option (W × Mem)) (P : W → Mem → Prop) : Prop := match r with
  | some (w, μ) => P w μ
  | none => False
def Oks (r : SR) (N : Env → Mem → Prop) (R : W → Mem → Prop) (B C : Env → Mem → Prop) : Prop := match r with
  | .nx ρ μ => N ρ μ
  | .rt w μ => R w μ
  | .bk ρ μ => B ρ μ
  | .ct ρ μ => C ρ μ
  | _ => False
section
variable {α β : Type} {P : α → Mem → Prop} {Pb : β → Mem → Prop} {Pw : W → Mem → Prop} {PB : Bool → Mem → Prop} {Pl : List W → Mem → Prop} {ρ : Env} {μ : Mem} {N B C : Env → Mem → Prop} {R : W → Mem → Prop}
@[simp] theorem ok_ok {a : α} : Ok (.ok a μ) P = P a μ := rfl
@[simp] theorem ok_bad : Ok (Res.bad : Res α) P = False := rfl
@[simp] theorem ok_exc {x : Xc} : Ok (Res.exc x μ : Res α) P = False := rfl
@[simp] theorem ok_bnd {r : Res α} {f : α → Mem → Res β} : Ok (bnd r f) Pb = Ok r fun a μ1 => Ok (f a μ1) Pb := by cases r <;> rfl
@[simp] theorem ok_ofO {o : Option (W × Mem)} : Ok (ofO o) Pw = OkO o Pw := by
  cases o with
  | none => rfl
  | some p => rfl
@[simp] theorem okO_some {w : W} : OkO (some (w, μ)) Pw = Pw w μ := rfl
@[simp] theorem okO_none : OkO none Pw = False := rfl
theorem Ok.mono {r : Res α} {P' : α → Mem → Prop} (h : Ok r P) (k : ∀ a μ, P a μ → P' a μ) : Ok r P' := by
  cases r with
  | ok a μ => exact k a μ h
  | exc _ _ => exact h
  | bad => exact h
theorem Ok.ex {r : Res α} (h : Ok r P) : ∃ a μ, r = .ok a μ ∧ P a μ := by
  cases r with
  | ok a μ => exact ⟨a, μ, rfl, h⟩
  | exc _ _ => exact h.elim
  | bad => exact h.elim
/-! expressions -/
@[simp] theorem ok_dC {x : PyData} : Ok (dC x ρ μ) Pw = Pw (.d x) μ := rfl
@[simp] theorem ok_dP1 {f : Op} {a : DE} : Ok (dP1 f a ρ μ) Pw = Ok (a ρ μ) fun x μ1 => OkO (f [x] μ1) Pw := by simp [dP1]
@[simp] theorem ok_dP2 {f : Op} {a b : DE} : Ok (dP2 f a b ρ μ) Pw = Ok (a ρ μ) fun x μ1 => Ok (b ρ μ1) fun y μ2 => OkO (f [x, y] μ2) Pw := by simp [dP2]
@[simp] theorem ok_dPn {f : Op} {a : DA} : Ok (dPn f a ρ μ) Pw = Ok (a ρ μ) fun xs μ1 => OkO (f xs μ1) Pw := by simp [dPn]
@[simp] theorem ok_dMt {T : String} {f : Op} {a : DE} {b : DA} : Ok (dMt T f a b ρ μ) Pw = Ok (a ρ μ) fun x μ1 => tyW T x μ1 = true ∧ Ok (b ρ μ1) fun ys μ2 => OkO (f (x :: ys) μ2) Pw := by
  simp only [dMt, ok_bnd]
  congr 1
  funext x μ1
  split
  · simp [*]
  · simp [*]
@[simp] theorem ok_dNil : Ok (dNil ρ μ) Pl = Pl [] μ := rfl
@[simp] theorem ok_dCons {a : DE} {b : DA} : Ok (dCons a b ρ μ) Pl = Ok (a ρ μ) fun x μ1 => Ok (b ρ μ1) fun xs μ2 => Pl (x :: xs) μ2 := by simp [dCons]
@[simp] theorem ok_dStar {a : DE} {b : DA} : Ok (dStar a b ρ μ) Pl = Ok (a ρ μ) fun x μ1 => match viewL x μ1 with
    | some ys => Ok (b ρ μ1) fun xs μ2 => Pl (ys.map W.d ++ xs) μ2
    | none => False := by
  simp only [dStar, ok_bnd]
  congr 1
  funext x μ1
  cases viewL x μ1 <;> simp
@[simp] theorem ok_dCall {F : Fn} {dws : List PyData} {a : DA} : Ok (dCall F dws a ρ μ) Pw = Ok (a ρ μ) fun ws μ1 => Ok (callF F (ws ++ dws.map W.d) μ1) Pw := by simp [dCall]
@[simp] theorem ok_dIf {c : DT} {a b : DE} : Ok (dIf c a b ρ μ) Pw = Ok (c ρ μ) fun t μ1 => if t = true then Ok (a ρ μ1) Pw else Ok (b ρ μ1) Pw := by
  simp only [dIf, ok_bnd]
  congr 1
  funext t μ1
  split <;> rfl
@[simp] theorem ok_dTv {a : DE} : Ok (dTv a ρ μ) PB = Ok (a ρ μ) fun x μ1 => Ok (asB x μ1) PB := by simp [dTv]
@[simp] theorem ok_dTb {a : DE} : Ok (dTb a ρ μ) PB = Ok (a ρ μ) fun x μ1 => Ok (asBl x μ1) PB := by simp [dTb]
@[simp] theorem ok_asBl {b : Bool} : Ok (asBl (.d (.bool b)) μ) PB = PB b μ := rfl
@[simp] theorem ok_dNot {a : DT} : Ok (dNot a ρ μ) PB = Ok (a ρ μ) fun b μ1 => PB (!b) μ1 := by simp [dNot]
@[simp] theorem ok_dNotV {a : DE} : Ok (dNotV a ρ μ) Pw = Ok (a ρ μ) fun x μ1 => Ok (asB x μ1) fun b μ2 => Pw (.d (.bool !b)) μ2 := by simp [dNotV, dTv]
@[simp] theorem ok_dAnd {a b : DT} : Ok (dAnd a b ρ μ) PB = Ok (a ρ μ) fun t μ1 => if t = true then Ok (b ρ μ1) PB else PB false μ1 := by
  simp only [dAnd, ok_bnd]
  congr 1
  funext t μ1
  split <;> rfl
@[simp] theorem ok_dOr {a b : DT} : Ok (dOr a b ρ μ) PB = Ok (a ρ μ) fun t μ1 => if t = true then PB true μ1 else Ok (b ρ μ1) PB := by
  simp only [dOr, ok_bnd]
  congr 1
  funext t μ1
  split <;> rfl
@[simp] theorem ok_dAndV {a b : DE} : Ok (dAndV a b ρ μ) Pw = Ok (a ρ μ) fun x μ1 => Ok (asB x μ1) fun t μ2 => if t = true then Ok (b ρ μ2) Pw else Pw x μ2 := by
  simp only [dAndV, ok_bnd]
  congr 1
  funext x μ1
  congr 1
  funext t μ2
  split <;> rfl
@[simp] theorem ok_dOrV {a b : DE} : Ok (dOrV a b ρ μ) Pw = Ok (a ρ μ) fun x μ1 => Ok (asB x μ1) fun t μ2 => if t = true then Pw x μ2 else Ok (b ρ μ2) Pw := by
  simp only [dOrV, ok_bnd]
  congr 1
  funext x μ1
  congr 1
  funext t μ2
  split <;> rfl
@[simp] theorem ok_dChain {f f' : Op} {a b c : DE} : Ok (dChain f f' a b c ρ μ) Pw = Ok (a ρ μ) fun x μ1 => Ok (b ρ μ1) fun y μ2 => OkO (f [x, y] μ2) fun z μ3 => Ok (asBl z μ3) fun k μ4 => if k = true then Ok (c ρ μ4) fun u μ5 => OkO (f' [y, u] μ5) Pw else Pw (.d (.bool false)) μ4 := by
  simp only [dChain, ok_bnd, ok_ofO]
  congr 1
  funext x μ1
  congr 1
  funext y μ2
  congr 1
  funext z μ3
  congr 1
  funext k μ4
  split <;> simp
@[simp] theorem ok_dFrz {a : DE} : Ok (dFrz a ρ μ) Pw = Ok (a ρ μ) fun w μ1 => match frzW w μ1 with
    | some (x, μ2) => Pw (.d x) μ2
    | none => False := by
  simp only [dFrz, ok_bnd]
  congr 1
  funext x μ1
  cases frzW x μ1 <;> simp
@[simp] theorem ok_dNo {Po : Option Int → Mem → Prop} : Ok (dNo ρ μ) Po = Po none μ := rfl
@[simp] theorem ok_dPart {Po : Option Int → Mem → Prop} {a : DE} : Ok (dPart a ρ μ) Po = Ok (a ρ μ) fun x μ1 => Ok (asI x μ1) Po := by simp [dPart]
@[simp] theorem ok_asI {Po : Option Int → Mem → Prop} {i : Int} : Ok (asI (.d (.int i)) μ) Po = Po (some i) μ := rfl
@[simp] theorem ok_dSl {own : Bool} {a : DE} {l h : DO} : Ok (dSl own a l h ρ μ) Pw = Ok (a ρ μ) fun x μ1 => Ok (l ρ μ1) fun lo μ2 => Ok (h ρ μ2) fun hi μ3 => OkO (slW own lo hi x μ3) Pw := by simp [dSl]
@[simp] theorem ok_dI {f : W → Mem → Res Src} {a : DE} {Ps : Src → Mem → Prop} : Ok (dI f a ρ μ) Ps = Ok (a ρ μ) fun x μ1 => Ok (f x μ1) Ps := by simp [dI]
@[simp] theorem ok_dIs {f : List W → Mem → Res Src} {a : DA} {Ps : Src → Mem → Prop} : Ok (dIs f a ρ μ) Ps = Ok (a ρ μ) fun x μ1 => Ok (f x μ1) Ps := by simp [dIs]
/-! a name -/
@[simp] theorem ok_dV0 {w : W} : Ok (dV 0 (some w :: ρ) μ) Pw = Pw w μ := rfl
@[simp] theorem ok_dVs {i : Nat} {o : Option W} : Ok (dV (i + 1) (o :: ρ) μ) Pw = Ok (dV i ρ μ) Pw := by
  unfold dV
  rw [List.getElem?_cons_succ]
theorem dV_of {i : Nat} {w : W} (h : ρ[i]? = some (some w)) : dV i ρ μ = .ok w μ := by
  unfold dV
  rw [h]
/-! statements -/
@[simp] theorem oks_nx : Oks (.nx ρ μ) N R B C = N ρ μ := rfl
@[simp] theorem oks_rt {w : W} : Oks (.rt w μ) N R B C = R w μ := rfl
@[simp] theorem oks_bk : Oks (.bk ρ μ) N R B C = B ρ μ := rfl
@[simp] theorem oks_ct : Oks (.ct ρ μ) N R B C = C ρ μ := rfl
@[simp] theorem oks_bad : Oks .bad N R B C = False := rfl
@[simp] theorem oks_next : Oks (sNext ρ μ) N R B C = N ρ μ := rfl
@[simp] theorem oks_break : Oks (sBreak ρ μ) N R B C = B ρ μ := rfl
@[simp] theorem oks_cont : Oks (sCont ρ μ) N R B C = C ρ μ := rfl
@[simp] theorem oks_retN : Oks (sRetN ρ μ) N R B C = R (.d .none) μ := rfl
@[simp] theorem oks_seq {a b : DS} : Oks (sSeq a b ρ μ) N R B C = Oks (a ρ μ) (fun ρ1 μ1 => Oks (b ρ1 μ1) N R B C) R B C := by
  unfold sSeq
  cases a ρ μ <;> rfl
@[simp] theorem oks_ret {d : DE} : Oks (sRet d ρ μ) N R B C = Ok (d ρ μ) R := by
  unfold sRet
  cases d ρ μ <;> rfl
@[simp] theorem oks_set {i : Nat} {d : DE} : Oks (sSet i d ρ μ) N R B C = Ok (d ρ μ) fun w μ1 => N (ρ.set i (some w)) μ1 := by
  unfold sSet
  cases d ρ μ <;> rfl
@[simp] theorem oks_expr {d : DE} : Oks (sExpr d ρ μ) N R B C = Ok (d ρ μ) fun _ μ1 => N ρ μ1 := by
  unfold sExpr
  cases d ρ μ <;> rfl
@[simp] theorem oks_if {c : DT} {a b : DS} : Oks (sIf c a b ρ μ) N R B C = Ok (c ρ μ) fun t μ1 => if t = true then Oks (a ρ μ1) N R B C else Oks (b ρ μ1) N R B C := by
  unfold sIf
  cases c ρ μ with
  | ok t μ1 => cases t <;> rfl
  | exc _ _ => rfl
  | bad => rfl
@[simp] theorem oks_asg {g : PyData → Env → Option Env} {d : DE} : Oks (sAsg g d ρ μ) N R B C = Ok (d ρ μ) fun w μ1 => match w with
    | .d x => match g x ρ with
      | some ρ1 => N ρ1 μ1
      | none => False
    | _ => False := by
  unfold sAsg
  cases d ρ μ with
  | ok w μ1 =>
    cases w with
    | d x => dsimp only [ok_ok]; cases g x ρ <;> rfl
    | r n => rfl
    | s n => rfl
  | exc _ _ => rfl
  | bad => rfl
@[simp] theorem oks_par {i j : Nat} {d : DA} : Oks (sPar i j d ρ μ) N R B C = Ok (d ρ μ) fun ws μ1 => match ws with
    | [a, b] => N ((ρ.set i (some a)).set j (some b)) μ1
    | _ => False := by
  unfold sPar
  cases d ρ μ with
  | ok ws μ1 =>
    match ws with
    | [] => rfl
    | [_] => rfl
    | [_, _] => rfl
    | _ :: _ :: _ :: _ => rfl
  | exc _ _ => rfl
  | bad => rfl
@[simp] theorem oks_par3 {i j k : Nat} {d : DA} : Oks (sPar3 i j k d ρ μ) N R B C = Ok (d ρ μ) fun ws μ1 => match ws with
    | [a, b, c] => N (((ρ.set i (some a)).set j (some b)).set k (some c)) μ1
    | _ => False := by
  unfold sPar3
  cases d ρ μ with
  | ok ws μ1 =>
    match ws with
    | [] => rfl
    | [_] => rfl
    | [_, _] => rfl
    | [_, _, _] => rfl
    | _ :: _ :: _ :: _ :: _ => rfl
  | exc _ _ => rfl
  | bad => rfl
@[simp] theorem oks_st {dv o i : DE} : Oks (sSt dv o i ρ μ) N R B C = Ok (dv ρ μ) fun v μ1 => Ok (o ρ μ1) fun o μ2 => Ok (i ρ μ2) fun i μ3 => match stW o i v μ3 with
    | some μ4 => N ρ μ4
    | none => False := by
  unfold sSt
  rw [show ∀ r : Res Unit, Oks (nxt ρ (fun _ => ρ) r) N R B C = Ok r fun _ μ => N ρ μ from fun r => by cases r <;> rfl]
  simp only [ok_bnd]
  congr 1
  funext v μ1
  congr 1
  funext o μ2
  congr 1
  funext i μ3
  cases stW o i v μ3 <;> rfl
@[simp] theorem oks_aug {i : Nat} {f : Op} {d : DE} : Oks (sAug i f d ρ μ) N R B C = Ok (dV i ρ μ) fun x μ1 => Ok (d ρ μ1) fun y μ2 => OkO (f [x, y] μ2) fun z μ3 => N (ρ.set i (some z)) μ3 := by
  unfold sAug dV
  cases ρ[i]? with
  | none => rfl
  | some o =>
    cases o with
    | none => rfl
    | some w =>
      dsimp only
      rw [show ∀ r : Res W, Oks (nxt ρ (fun z => ρ.set i (some z)) r) N R B C = Ok r fun z μ => N (ρ.set i (some z)) μ from fun r => by cases r <;> rfl]
      simp
@[simp] theorem oks_let {i : Nat} : Oks (sLet i ρ μ) N R B C = Ok (dV i ρ μ) fun w μ1 => match frzW w μ1 with
    | some (x, μ2) => N (ρ.set i (some (.d x))) μ2
    | none => False := by
  unfold sLet dV
  cases ρ[i]? with
  | none => rfl
  | some o =>
    cases o with
    | none => rfl
    | some w =>
      dsimp only [ok_ok]
      cases frzW w μ <;> rfl
/-! calls -/
theorem ok_fnF {np n : Nat} {body : DS} {ws : List W} (h : ws.length = np) : Ok (fnF np n body ws μ) Pw = Oks (body (ws.map some ++ List.replicate (n - ws.length) none) μ) (fun _ μ1 => Pw (.d .none) μ1) Pw (fun _ _ => False) (fun _ _ => False) := by
  unfold fnF
  rw [if_pos h]
  cases body (ws.map some ++ List.replicate (n - ws.length) none) μ <;> rfl
/-- what comes back from a def that ran for itself -/
def bk (w : W) (μ' μ : Mem) (P : W → Mem → Prop) : Prop := match w with
  | .d x => P (.d x) μ
  | .r n => match μ'[n]? with
    | some .dead => False
    | some (.q _ _) => False
    | some o => P (.r μ.length) (μ ++ [o])
    | none => False
  | .s _ => False
@[simp] theorem bk_d {x : PyData} {μ' : Mem} : bk (.d x) μ' μ Pw = Pw (.d x) μ := rfl
/-- what comes back from a def that ran on what is there -/
def bkR (w : W) (μ' μ : Mem) (P : W → Mem → Prop) : Prop := match w with
  | .d x => P (.d x) (μ'.take μ.length)
  | .s x => P (.s x) (μ'.take μ.length)
  | .r n => if n < μ.length then P (.r n) (μ'.take μ.length) else match μ'[n]? with
    | some .dead => False
    | some (.q _ _) => False
    | some o => P (.r (μ'.take μ.length).length) (μ'.take μ.length ++ [o])
    | none => False
@[simp] theorem bkR_d {x : PyData} {μ' : Mem} : bkR (.d x) μ' μ Pw = Pw (.d x) (μ'.take μ.length) := rfl
theorem ok_callR {F : Fn} {ws : List W} (h : datas ws = none) : Ok (callF F ws μ) Pw = Ok (F ws μ) fun w μ' => bkR w μ' μ Pw := by
  unfold callF
  rw [h]
  dsimp only
  cases F ws μ with
  | ok w μ' =>
    cases w with
    | d x => rfl
    | r n =>
      simp only [ok_ok, bkR, back]
      split
      · rfl
      · cases μ'[n]? with
        | none => rfl
        | some o => cases o <;> rfl
    | s n => rfl
  | exc _ _ => rfl
  | bad => rfl
/-! loops -/
theorem forL_none {xs : List PyData} {g : PyData → Env → Option Env} {b : DS} : forL (xs, none) g b [] ρ μ = .nx ρ μ := by
  unfold forL
  rw [if_pos (show live (xs, none) μ from trivial)]
theorem forL_cons {xs : List PyData} {g : PyData → Env → Option Env} {b : DS} {x : PyData} {r : List PyData} : Oks (forL (xs, none) g b (x :: r) ρ μ) N R B C = match g x ρ with
    | none => False
    | some ρ1 => Oks (b ρ1 μ) (fun ρ2 μ2 => Oks (forL (xs, none) g b r ρ2 μ2) N R B C) R (fun ρ2 μ2 => N ρ2 μ2) (fun ρ2 μ2 => Oks (forL (xs, none) g b r ρ2 μ2) N R B C) := by
  rw [forL]
  rw [if_pos (show live (xs, none) μ from trivial)]
  cases g x ρ with
  | none => rfl
  | some ρ1 =>
    dsimp only
    cases b ρ1 μ <;> rfl
/-- a loop over plain data: an invariant of what is gone through -/
theorem for_inv {xs : List PyData} {s : Src} {i : Nat} {b : DS} (I : List PyData → Env → Mem → Prop) (hs : s.1 = xs) (hl : ∀ done ρ μ, (∃ r, done ++ r = xs) → I done ρ μ → live s μ) (h0 : I [] ρ μ)
    (hstep : ∀ done x r ρ μ, done ++ x :: r = xs → I done ρ μ → Oks (b (ρ.set i (some (.d x))) μ) (fun ρ μ => I (done ++ [x]) ρ μ) R N (fun ρ μ => I (done ++ [x]) ρ μ)) (hend : ∀ ρ μ, I xs ρ μ → N ρ μ) :
    Oks (forL s (gN i) b s.1 ρ μ) N R B C := by
  rw [hs]
  suffices main : ∀ (r done : List PyData) (ρ : Env) (μ : Mem), done ++ r = xs → I done ρ μ → Oks (forL s (gN i) b r ρ μ) N R B C from main xs [] ρ μ rfl h0
  intro r
  induction r with
  | nil =>
    intro done ρ μ e hI
    rw [forL, if_pos (hl _ _ _ ⟨[], e⟩ hI)]
    rw [List.append_nil] at e
    subst e
    exact hend _ _ hI
  | cons x r ih =>
    intro done ρ μ e hI
    rw [forL, if_pos (hl _ _ _ ⟨_, e⟩ hI)]
    have hs := hstep done x r ρ μ e hI
    simp only [gN]
    cases q : b (ρ.set i (some (.d x))) μ with
    | nx ρ2 μ2 => rw [q] at hs; exact ih _ _ _ (by rw [List.append_assoc]; exact e) hs
    | ct ρ2 μ2 => rw [q] at hs; exact ih _ _ _ (by rw [List.append_assoc]; exact e) hs
    | bk ρ2 μ2 => rw [q] at hs; exact hs
    | rt w μ2 => rw [q] at hs; exact hs
    | exc _ _ _ => rw [q] at hs; exact hs
    | bad => rw [q] at hs; exact hs
@[simp] theorem oks_for {di : DI} {g : PyData → Env → Option Env} {b : DS} : Oks (sFor di g b ρ μ) N R B C = Ok (di ρ μ) fun s μ1 => Oks (forL s g b s.1 ρ μ1) N R B C := by
  unfold sFor
  cases di ρ μ <;> rfl
/-! comprehensions -/
theorem ok_noX {r : Res α} : Ok (noX r) P = Ok r P := by cases r <;> rfl
theorem ok_dLc {own : Bool} {di : DI} {g : PyData → Env → Option Env} {tt : DT} {te : DE} {vs : List Nat} : Ok (dLc own di g tt te vs ρ μ) Pw = Ok (di ρ μ) fun s μ1 => Ok (lcL s g (lcOne tt te) (wipeE ρ vs) s.1 [] μ1) fun acc μ2 => Ok (lcEnd own acc μ2) Pw := by
  unfold dLc
  simp
@[simp] theorem lcEnd_f {acc : List PyData} : Ok (lcEnd false acc μ) Pw = Pw (.d (.list acc)) μ := rfl
@[simp] theorem lcEnd_t {acc : List PyData} : Ok (lcEnd true acc μ) Pw = Pw (.r μ.length) (μ ++ [.l acc]) := rfl
theorem ok_lcOne {tt : DT} {te : DE} {acc : List PyData} {Pa : List PyData → Mem → Prop} : Ok (lcOne tt te ρ acc μ) Pa = Ok (tt ρ μ) fun b μ1 => if b = true then Ok (te ρ μ1) fun w μ2 => match w with
    | .d y => acc.length < sizeLine ∧ Pa (acc ++ [y]) μ2
    | _ => False else Pa acc μ1 := by
  unfold lcOne
  simp only [ok_bnd, ok_noX]
  congr 1
  funext b μ1
  split
  · simp only [ok_bnd, ok_noX]
    congr 1
    funext w μ2
    cases w with
    | d y =>
      dsimp only
      split
      · rename_i hz; simp [hz]
      · rename_i hz; simp [hz]
    | r n => rfl
    | s n => rfl
  · rfl
/-- a comprehension over what stands, with an invariant -/
theorem lc_inv {s : Src} {xs acc : List PyData} {i : Nat} {f : Env → List PyData → Mem → Res (List PyData)} {Pa : List PyData → Mem → Prop} (I : List PyData → List PyData → Mem → Prop) (hs : s.1 = xs) (hl : ∀ done acc μ, (∃ r, done ++ r = xs) → I done acc μ → live s μ) (h0 : I [] acc μ)
    (hstep : ∀ done x r acc μ, done ++ x :: r = xs → I done acc μ → Ok (f (ρ.set i (some (.d x))) acc μ) fun acc1 μ1 => I (done ++ [x]) acc1 μ1) (hend : ∀ acc μ, I xs acc μ → Pa acc μ) : Ok (lcL s (gN i) f ρ s.1 acc μ) Pa := by
  rw [hs]
  suffices main : ∀ (r done acc : List PyData) (μ : Mem), done ++ r = xs → I done acc μ → Ok (lcL s (gN i) f ρ r acc μ) Pa from main xs [] acc μ rfl h0
  intro r
  induction r with
  | nil =>
    intro done acc μ e hI
    rw [lcL, if_pos (hl _ _ _ ⟨[], e⟩ hI)]
    rw [List.append_nil] at e
    subst e
    exact hend _ _ hI
  | cons x r ih =>
    intro done acc μ e hI
    rw [lcL, if_pos (hl _ _ _ ⟨_, e⟩ hI)]
    have hs := hstep done x r acc μ e hI
    simp only [gN]
    obtain ⟨a, μ1, q, h⟩ := hs.ex
    rw [q, bnd_ok]
    exact ih _ _ _ (by rw [List.append_assoc]; exact e) h
/-- each thing by itself, nothing else turns -/
theorem lc_map {s : Src} {xs ys : List PyData} {i : Nat} {te : DE} {Pa : List PyData → Mem → Prop} (hs : s.1 = xs) (hl : live s μ) (hx : xs.length = ys.length) (hz : xs.length ≤ sizeLine)
    (hstep : ∀ (j : Nat) (x y : PyData), xs[j]? = some x → ys[j]? = some y → te (ρ.set i (some (.d x))) μ = .ok (.d y) μ) (hend : Pa ys μ) : Ok (lcL s (gN i) (lcOne dYes te) ρ s.1 [] μ) Pa := by
  refine lc_inv (xs := xs) (fun done acc μ' => acc = ys.take done.length ∧ μ' = μ) hs (fun _ _ _ _ h => h.2 ▸ hl) ⟨by simp, rfl⟩ (fun done x r acc μ' e h => ?_) fun acc μ' h => ?_
  · obtain ⟨rfl, rfl⟩ := h
    have hj : xs[done.length]? = some x := by rw [← e]; simp
    have hd : done.length < xs.length := (List.getElem?_eq_some_iff.mp hj).1
    have hy : ys[done.length]? = some (ys[done.length]'(by omega)) := List.getElem?_eq_getElem _
    have := hstep _ _ _ hj hy
    rw [ok_lcOne]
    simp only [dYes, ok_ok, if_true, this]
    refine ⟨by rw [List.length_take]; omega, ?_, trivial⟩
    rw [List.length_append, List.length_singleton, List.take_add_one, hy]
    rfl
  · obtain ⟨rfl, rfl⟩ := h
    rw [hx, List.take_length]
    exact hend
end
/-! operations on plain data -/
section
variable {μ : Mem} {Pw : W → Mem → Prop}
@[simp] theorem listV_l {xs : List PyData} : listV (.d (.list xs)) μ = some xs := rfl
@[simp] theorem viewL_l {xs : List PyData} : viewL (.d (.list xs)) μ = some xs := rfl
@[simp] theorem viewL_t {xs : List PyData} : viewL (.d (.tuple xs)) μ = some xs := rfl
@[simp] theorem seqV_l {xs : List PyData} : seqV (.d (.list xs)) μ = some xs := rfl
@[simp] theorem seqV_t {xs : List PyData} : seqV (.d (.tuple xs)) μ = some xs := rfl
@[simp] theorem seqV_str {x : Str} : seqV (.d (.str x)) μ = none := rfl
@[simp] theorem peek_d {x : PyData} : peek (.d x) μ = some x := rfl
@[simp] theorem iV_l {xs : List PyData} {Ps : Src → Mem → Prop} : Ok (iV (.d (.list xs)) μ) Ps = Ps (xs, none) μ := rfl
@[simp] theorem iV_t {xs : List PyData} {Ps : Src → Mem → Prop} : Ok (iV (.d (.tuple xs)) μ) Ps = Ps (xs, none) μ := rfl
@[simp] theorem frzW_d {x : PyData} : frzW (.d x) μ = some (x, μ) := rfl
end
end Mok09

set_option autoImplicit false
namespace Mok09
open PySem PySem.Spec PyProof.Rows L2
/-! ### places by number, simple operations -/
section
variable {μ : Mem} {Pw : W → Mem → Prop}
@[simp] theorem atI_0 {α : Type} {x : α} {xs : List α} : atI (x :: xs) 0 = some x := by
  unfold atI ixN
  rw [if_pos (by decide), if_pos (by rw [List.length_cons]; omega)]
  rfl
@[simp] theorem atI_1 {α : Type} {x y : α} {xs : List α} : atI (x :: y :: xs) 1 = some y := by
  unfold atI ixN
  rw [if_pos (by decide), if_pos (by simp; omega)]
  rfl
@[simp] theorem atI_2 {α : Type} {x y z : α} {xs : List α} : atI (x :: y :: z :: xs) 2 = some z := by
  unfold atI ixN
  rw [if_pos (by decide), if_pos (by simp; omega)]
  rfl
@[simp] theorem atI_3 {α : Type} {x y z w : α} {xs : List α} : atI (x :: y :: z :: w :: xs) 3 = some w := by
  unfold atI ixN
  rw [if_pos (by decide), if_pos (by simp; omega)]
  rfl
theorem atI_in {α : Type} {xs : List α} {i : Int} (h0 : 0 ≤ i) (h1 : i < xs.length) : ∃ x, atI xs i = some x ∧ x ∈ xs := by
  unfold atI ixN
  rw [if_pos h0, if_pos h1]
  have : i.toNat < xs.length := by omega
  exact ⟨xs[i.toNat], by simp [this], List.getElem_mem _⟩
@[simp] theorem seqV_r {n : Nat} : seqV (.r n) μ = match μ[n]? with
    | some (.l xs) => some xs
    | _ => none := rfl
@[simp] theorem peek_r {n : Nat} : peek (.r n) μ = match μ[n]? with
    | some (.l xs) => some (.list xs)
    | some (.k kvs) => some (.dict kvs)
    | _ => none := rfl
@[simp] theorem listV_r {n : Nat} : listV (.r n) μ = match μ[n]? with
    | some (.l xs) => some xs
    | _ => none := rfl
/-- o[i] of a list, a tuple -/
theorem okO_ix {o : W} {i : Int} : OkO (opIxA [o, .d (.int i)] μ) Pw = match seqV o μ with
    | some xs => (match atI xs i with
      | some x => Pw (.d x) μ
      | none => OkO (opIxD [o, .d (.int i)] μ) Pw)
    | none => OkO (opIxA [o, .d (.int i)] μ) Pw := by
  cases h : seqV o μ with
  | none => rfl
  | some xs =>
    dsimp only
    simp only [opIxA, orO, opIx, h]
    cases atI xs i with
    | none => rfl
    | some x => rfl
theorem okO_ixr {n : Nat} {i : Int} {xs : List PyData} {x : PyData} (h : μ[n]? = some (.l xs)) (e : atI xs i = some x) : OkO (opIxA [.r n, .d (.int i)] μ) Pw = Pw (.d x) μ := by
  rw [okO_ix]
  simp [h, e]
@[simp] theorem okO_ixt {xs : List PyData} {i : Int} : OkO (opIxA [.d (.tuple xs), .d (.int i)] μ) Pw = match atI xs i with
    | some x => Pw (.d x) μ
    | none => False := by
  rw [okO_ix]
  simp only [seqV_t]
  cases atI xs i with
  | none => rfl
  | some x => rfl
@[simp] theorem okO_ixl {xs : List PyData} {i : Int} : OkO (opIxA [.d (.list xs), .d (.int i)] μ) Pw = match atI xs i with
    | some x => Pw (.d x) μ
    | none => False := by
  rw [okO_ix]
  simp only [seqV_l]
  cases atI xs i with
  | none => rfl
  | some x => rfl
@[simp] theorem okO_add {own : Bool} {i j : Int} : OkO (opAdd own [.d (.int i), .d (.int j)] μ) Pw = Pw (.d (.int (i + j))) μ := rfl
@[simp] theorem okO_sub {i j : Int} : OkO (opSub [.d (.int i), .d (.int j)] μ) Pw = Pw (.d (.int (i - j))) μ := rfl
@[simp] theorem okO_gt {i j : Int} : OkO (opGt [.d (.int i), .d (.int j)] μ) Pw = Pw (.d (.bool (decide (j < i)))) μ := rfl
@[simp] theorem okO_ge {i j : Int} : OkO (opGe [.d (.int i), .d (.int j)] μ) Pw = Pw (.d (.bool (decide (j ≤ i)))) μ := rfl
@[simp] theorem okO_le {i j : Int} : OkO (opLe [.d (.int i), .d (.int j)] μ) Pw = Pw (.d (.bool (decide (i ≤ j)))) μ := rfl
@[simp] theorem okO_lt {i j : Int} : OkO (opLt [.d (.int i), .d (.int j)] μ) Pw = Pw (.d (.bool (decide (i < j)))) μ := rfl
@[simp] theorem okO_mod {i j : Int} : OkO (opMod [.d (.int i), .d (.int j)] μ) Pw = (0 < j ∧ Pw (.d (.int (i % j))) μ) := by
  unfold opMod
  dsimp only
  split <;> simp [*, pI]
@[simp] theorem okO_div {i j : Int} : OkO (opDiv [.d (.int i), .d (.int j)] μ) Pw = (CDivW i j ∧ Pw (.d (.int (i / j))) μ) := by
  unfold opDiv
  dsimp only
  split <;> simp [*, pI]
@[simp] theorem okO_pow {i j : Int} : OkO (opPow [.d (.int i), .d (.int j)] μ) Pw = (CPow i j ∧ Pw (.d (.int (i ^ j.toNat))) μ) := by
  unfold opPow
  dsimp only
  split <;> simp [*, pI]
@[simp] theorem okO_mul {own : Bool} {i j : Int} : OkO (opMul own [.d (.int i), .d (.int j)] μ) Pw = (CMulX i j ∧ Pw (.d (.int (i * j))) μ) := by
  unfold opMul
  dsimp only
  split <;> simp [*, pI]
theorem okO_len {w : W} {xs : List PyData} (h : seqV w μ = some xs) : OkO ((orO opLen opLenD) [w] μ) Pw = Pw (.d (.int xs.length)) μ := by
  simp [orO, opLen, h, pI]
@[simp] theorem okO_lenl {xs : List PyData} : OkO ((orO opLen opLenD) [.d (.list xs)] μ) Pw = Pw (.d (.int xs.length)) μ := okO_len rfl
@[simp] theorem okO_lent {xs : List PyData} : OkO ((orO opLen opLenD) [.d (.tuple xs)] μ) Pw = Pw (.d (.int xs.length)) μ := okO_len rfl
@[simp] theorem strs_s {x y : Str} : bothS (.str x) (.str y) = true := rfl
@[simp] theorem strs_i {x : Int} {y : PyData} : bothS (.int x) y = false := rfl
@[simp] theorem strs_l {x : List PyData} {y : PyData} : bothS (.list x) y = false := rfl
@[simp] theorem strs_t {x : List PyData} {y : PyData} : bothS (.tuple x) y = false := rfl
@[simp] theorem strs_b {x : Bool} {y : PyData} : bothS (.bool x) y = false := rfl
@[simp] theorem strs_n {y : PyData} : bothS .none y = false := rfl
@[simp] theorem okO_eq {x y : PyData} : OkO (opEq false [.d x, .d y] μ) Pw = ((bothS x y = true ∨ SeqAt.shaped x = true ∧ SeqAt.shaped y = true) ∧ Pw (.d (.bool (PyData.eqv x y))) μ) := by
  simp only [opEq, peek_d, Bool.or_eq_true, Bool.and_eq_true]
  split <;> simp [*, pB]
@[simp] theorem okO_ne {x y : PyData} : OkO (opEq true [.d x, .d y] μ) Pw = ((bothS x y = true ∨ SeqAt.shaped x = true ∧ SeqAt.shaped y = true) ∧ Pw (.d (.bool (!PyData.eqv x y))) μ) := by
  simp only [opEq, peek_d, Bool.or_eq_true, Bool.and_eq_true]
  split <;> simp [*, pB]
@[simp] theorem okO_lst0 {ws : List W} : OkO (opLst false ws μ) Pw = match datas ws with
    | some xs => xs.length ≤ sizeLine ∧ Pw (.d (.list xs)) μ
    | none => False := by
  unfold opLst
  cases datas ws with
  | none => rfl
  | some xs =>
    simp only [Option.bind_some, mkL, sz, decide_eq_true_eq]
    split <;> simp [*]
@[simp] theorem okO_lst1 {ws : List W} : OkO (opLst true ws μ) Pw = match datas ws with
    | some xs => xs.length ≤ sizeLine ∧ Pw (.r μ.length) (μ ++ [.l xs])
    | none => False := by
  unfold opLst
  cases datas ws with
  | none => rfl
  | some xs =>
    simp only [Option.bind_some, mkL, sz, decide_eq_true_eq]
    split <;> simp [*]
@[simp] theorem okO_tup {ws : List W} : OkO (opTup ws μ) Pw = match datas ws with
    | some xs => xs.length ≤ sizeLine ∧ Pw (.d (.tuple xs)) μ
    | none => False := by
  unfold opTup
  cases datas ws with
  | none => rfl
  | some xs =>
    simp only [Option.bind_some, mkT, sz, decide_eq_true_eq]
    split <;> simp [*]
@[simp] theorem datas_nil : datas [] = some [] := rfl
@[simp] theorem datas_d {x : PyData} {ws : List W} : datas (.d x :: ws) = (datas ws).map (x :: ·) := rfl
@[simp] theorem datas_r {n : Nat} {ws : List W} : datas (.r n :: ws) = none := rfl
@[simp] theorem datas_s {n : List Int} {ws : List W} : datas (.s n :: ws) = none := rfl
@[simp] theorem ok_fnF0 {n : Nat} {body : DS} : Ok (fnF 0 n body [] μ) Pw = Oks (body (List.replicate n none) μ) (fun _ μ1 => Pw (.d .none) μ1) Pw (fun _ _ => False) (fun _ _ => False) := by
  rw [ok_fnF (by rfl)]; rfl
@[simp] theorem ok_fnF1 {n : Nat} {body : DS} {a : W} : Ok (fnF 1 n body [a] μ) Pw = Oks (body (some a :: List.replicate (n - 1) none) μ) (fun _ μ1 => Pw (.d .none) μ1) Pw (fun _ _ => False) (fun _ _ => False) := by
  rw [ok_fnF (by rfl)]; rfl
@[simp] theorem ok_fnF2 {n : Nat} {body : DS} {a b : W} : Ok (fnF 2 n body [a, b] μ) Pw = Oks (body (some a :: some b :: List.replicate (n - 2) none) μ) (fun _ μ1 => Pw (.d .none) μ1) Pw (fun _ _ => False) (fun _ _ => False) := by
  rw [ok_fnF (by rfl)]; rfl
@[simp] theorem ok_fnF3 {n : Nat} {body : DS} {a b c : W} : Ok (fnF 3 n body [a, b, c] μ) Pw = Oks (body (some a :: some b :: some c :: List.replicate (n - 3) none) μ) (fun _ μ1 => Pw (.d .none) μ1) Pw (fun _ _ => False) (fun _ _ => False) := by
  rw [ok_fnF (by rfl)]; rfl
@[simp] theorem ok_fnF4 {n : Nat} {body : DS} {a b c d : W} : Ok (fnF 4 n body [a, b, c, d] μ) Pw = Oks (body (some a :: some b :: some c :: some d :: List.replicate (n - 4) none) μ) (fun _ μ1 => Pw (.d .none) μ1) Pw (fun _ _ => False) (fun _ _ => False) := by
  rw [ok_fnF (by rfl)]; rfl
theorem stW_r {n : Nat} {k : Int} {x : PyData} {xs : List PyData} {j : Nat} (h : μ[n]? = some (.l xs)) (e : ixN xs.length k = some j) : stW (.r n) (.d (.int k)) (.d x) μ = some (μ.set n (.l (xs.set j x))) := by
  simp [stW, h, e]
theorem okO_ixs {n : Nat} {i : Int} {xs : List PyData} (h : n < μ.length) : OkO (opIxA [.r n, .d (.int i)] (μ.set n (.l xs))) Pw = match atI xs i with
    | some x => Pw (.d x) (μ.set n (.l xs))
    | none => False := by
  have e : (μ.set n (.l xs))[n]? = some (.l xs) := List.getElem?_set_self h
  rw [okO_ix]
  simp only [seqV_r, e]
  cases atI xs i with
  | none => simp [opIxD, e]
  | some x => rfl
theorem stW_s {n : Nat} {k : Int} {x : PyData} {xs : List PyData} (h : n < μ.length) : stW (.r n) (.d (.int k)) (.d x) (μ.set n (.l xs)) = match ixN xs.length k with
    | some j => some (μ.set n (.l (xs.set j x)))
    | none => none := by
  simp only [stW, List.getElem?_set_self h]
  cases ixN xs.length k with
  | none => rfl
  | some j => simp
@[simp] theorem ok_asB {b : Bool} {PB : Bool → Mem → Prop} : Ok (asB (.d (.bool b)) μ) PB = PB b μ := rfl
end
/-! ### the feed of a law of the first lot -/
def drawB : DS := (sSeq (sSt (dP2 (opAdd false) (dP2 opIxA (dV 0) (dC (.int 3))) (dC (.int 1))) (dV 0) (dC (.int 3)))
  (sSeq (sIf (dTb (dP2 opGt (dP2 opIxA (dV 0) (dC (.int 2))) (dC (.int 0))))
  (sSeq (sSet 2 (dP2 opMod (dP2 opIxA (dV 0) (dC (.int 2))) (dV 1)))
  (sSeq (sSt (dP2 opDiv (dP2 opIxA (dV 0) (dC (.int 2))) (dV 1)) (dV 0) (dC (.int 2)))
  (sRet (dV 2)))) sNext)
  (sSeq (sSet 3 (dC (.int 5)))
  (sSeq (sIf (dTb (dP2 (opEq true) (dP2 opIxA (dV 0) (dC (.int 0))) (dPn (opLst false) dNil)))
  (sSet 3 (dP2 opIxA (dP2 opIxA (dV 0) (dC (.int 0))) (dP2 opMod (dP2 opIxA (dV 0) (dC (.int 1))) (dPn (orO opLen opLenD) (dCons (dP2 opIxA (dV 0) (dC (.int 0))) dNil))))) sNext)
  (sSeq (sSt (dP2 (opAdd false) (dP2 opIxA (dV 0) (dC (.int 1))) (dC (.int 1))) (dV 0) (dC (.int 1)))
  (sSeq (sIf (dAnd (dTb (dP2 opGe (dV 3) (dP2 opPow (dC (.int 10)) (dC (.int 18))))) (dTb (dP2 opLe (dP2 opIxA (dV 0) (dC (.int 1))) (dPn (orO opLen opLenD) (dCons (dP2 opIxA (dV 0) (dC (.int 0))) dNil)))))
  (sSeq (sSt (dP2 opDiv (dV 3) (dV 1)) (dV 0) (dC (.int 2)))
  (sRet (dP2 opMod (dV 3) (dV 1)))) sNext)
  (sSeq (sSet 4 (dP2 opMod (dP2 opPow (dP2 (opAdd false) (dP2 (opAdd false) (dP2 opMod (dV 3) (dC (.int 2147483629))) (dP2 (opMul false) (dC (.int 7919)) (dP2 opIxA (dV 0) (dC (.int 3))))) (dC (.int 1))) (dC (.int 5))) (dC (.int 2147483647))))
  (sRet (dP2 opMod (dP2 opDiv (dP2 opMod (dP2 opPow (dP2 (opAdd false) (dV 4) (dP2 (opMul false) (dC (.int 104729)) (dP2 opIxA (dV 0) (dC (.int 3))))) (dC (.int 5))) (dC (.int 2147483587))) (dC (.int 64))) (dV 1))))))))))
def feedB : DS := (sRet (dPn (opLst true) (dCons (dSl false (dV 0) dNo (dPart (dC (.int 63)))) (dCons (dC (.int 0)) (dCons (dC (.int 0)) (dCons (dC (.int 0)) dNil))))))
def feedL (ns : List Int) (a b c : Int) : List PyData := [.list (ns.map .int), .int a, .int b, .int c]
/-- a feed behind no more than k draws -/
def FdOk (k : Int) (xs : List PyData) : Prop := ∃ ns a b c, xs = feedL ns a b c ∧ ns.length ≤ 63 ∧ 0 ≤ a ∧ a ≤ k ∧ 0 ≤ b ∧ 0 ≤ c ∧ c ≤ k
theorem FdOk.mono {k m : Int} {xs : List PyData} (h : FdOk k xs) (e : k ≤ m) : FdOk m xs := by
  obtain ⟨ns, a, b, c, h0, h1, h2, h3, h4, h5, h6⟩ := h
  exact ⟨ns, a, b, c, h0, h1, h2, by omega, h4, h5, by omega⟩
theorem small64 {i : Int} (h1 : -(2 ^ 64) < i) (h2 : i < 2 ^ 64) : Builtin.Int.intBits i ≤ 64 := intBits_le_64 h1 h2
theorem mulX {i j : Int} (h1 : -(2 ^ 64) < i) (h2 : i < 2 ^ 64) (h3 : -(2 ^ 64) < j) (h4 : j < 2 ^ 64) : CMulX i j := by
  have a := small64 h1 h2
  have b := small64 h3 h4
  unfold CMulX
  omega
theorem divW {i sz : Int} (h0 : 0 < sz) (h1 : sz ≤ 1000) : CDivW i sz := wide_div (b := 10) h0 (by omega) (by decide) (by decide)
theorem canInts (ns : List Int) : PyData.canLayAll0 (ns.map .int) = true := by
  induction ns with
  | nil => rfl
  | cons n ns ih => simpa [PyData.canLayAll0, PyData.canLay0] using ih
@[simp] theorem shInts (ns : List Int) : SeqAt.shaped (.list (ns.map .int)) = true := by
  have h := PySem.W.depth_ints ns
  simp [SeqAt.shaped, PyData.canLay0, canInts ns, PyData.depth, h]
@[simp] theorem sh_nil : SeqAt.shaped (.list []) = true := by decide
theorem powC {i : Int} (h : i.natAbs < 2 ^ 64) : CPow i 5 := ⟨by decide, by decide, h⟩
theorem draw_ok {μ : Mem} {n : Nat} {k sz : Int} {xs : List PyData} (h : μ[n]? = some (.l xs)) (hf : FdOk k xs) (hk : k ≤ 1000000000) (h0 : 0 < sz) (h1 : sz ≤ 1000) :
    Ok (fnF 2 5 drawB [.r n, .d (.int sz)] μ) fun w μ' => ∃ v xs', w = .d (.int v) ∧ μ' = μ.set n (.l xs') ∧ FdOk (k + 1) xs' ∧ 0 ≤ v ∧ v < sz := by
  obtain ⟨ns, a, b, c, rfl, hns, ha, ha1, hb, hc, hc1⟩ := hf
  have hn : n < μ.length := (List.getElem?_eq_some_iff.mp h).1
  have hd : ∀ i : Int, CDivW i sz := fun i => divW h0 h1
  have m0 : ∀ i : Int, 0 ≤ i % sz := fun i => Int.emod_nonneg _ (by omega)
  have m1 : ∀ i : Int, i % sz < sz := fun i => Int.emod_lt_of_pos _ h0
  have fd : ∀ a' b' : Int, 0 ≤ a' → a' ≤ k + 1 → 0 ≤ b' → FdOk (k + 1) [.list (ns.map .int), .int a', .int b', .int (c + 1)] := fun a' b' h1 h2 h3 => ⟨ns, a', b', c + 1, rfl, hns, h1, h2, h3, by omega, by omega⟩
  have p18 : CPow 10 18 := ⟨by decide, by decide, by decide⟩
  have c1 : CMulX 7919 (c + 1) := mulX (by decide) (by decide) (by omega) (by omega)
  have c2 : CMulX 104729 (c + 1) := mulX (by decide) (by decide) (by omega) (by omega)
  have d64 : ∀ i : Int, CDivW i 64 := fun i => divW (by decide) (by decide)
  have pa : ∀ i : Int, 0 ≤ i → i < 2147483629 → CPow (i + 7919 * (c + 1) + 1) 5 := fun i h1 h2 => powC (by omega)
  have pb : ∀ i : Int, CPow (i % 2147483647 + 104729 * (c + 1)) 5 := fun i => by
    have a0 := Int.emod_nonneg i (show (2147483647 : Int) ≠ 0 by decide)
    have a1 := Int.emod_lt_of_pos i (show (0 : Int) < 2147483647 by decide)
    exact powC (by omega)
  simp [drawB, feedL, okO_ixr h, stW_r h (k := 3) (j := 3) rfl, okO_ixs hn, stW_s hn, ixN, hd, h0, m0, m1, p18, c1, c2, d64, pa 5 (by decide) (by decide), pb]
  split
  · exact ⟨_, rfl, fd _ _ ha (by omega) (Int.ediv_nonneg hb (by omega))⟩
  split
  · exact ⟨_, rfl, fd _ _ (by omega) (by omega) hb⟩
  · rename_i hne
    have hl : 0 < ns.length := by
      cases ns with
      | nil => exact (hne (by simp [PyData.eqv, PyData.eqvAll])).elim
      | cons _ _ => simp
    refine ⟨hl, ?_⟩
    obtain ⟨x, hx, mx⟩ := atI_in (xs := ns.map PyData.int) (i := a % ns.length) (Int.emod_nonneg _ (by omega)) (by rw [List.length_map]; exact Int.emod_lt_of_pos _ (by omega))
    rw [hx]
    obtain ⟨z, _, rfl⟩ := List.mem_map.mp mx
    have z0 := Int.emod_nonneg z (show (2147483629 : Int) ≠ 0 by decide)
    have z1 := Int.emod_lt_of_pos z (show (0 : Int) < 2147483629 by decide)
    simp [okO_ixs hn, stW_s hn, ixN, hd, h0, m0, m1, c1, c2, d64, pb, pa _ z0 z1]
    split
    · rename_i hz
      split
      · exact ⟨_, rfl, fd _ _ (by omega) (by omega) (Int.ediv_nonneg (by omega) (by omega))⟩
      · exact ⟨_, rfl, fd _ _ (by omega) (by omega) hb⟩
    · exact ⟨_, rfl, fd _ _ (by omega) (by omega) hb⟩
theorem feed_ok {ns : List Int} {μ : Mem} (h : ns.length ≤ 63) : Ok (fnF 1 1 feedB [.s ns] μ) fun w μ' => ∃ xs, w = .r μ.length ∧ μ' = μ ++ [.l xs] ∧ FdOk 0 xs := by
  have h1 := cut_len ns none (some 63)
  have hz : (cutD ns none (some 63)).length ≤ sizeLine := Nat.le_trans h1 (Nat.le_trans h (by decide))
  have h4 : 4 ≤ sizeLine := by decide
  simp [feedB, slW, mkL, sz, hz, h4]
  exact ⟨_, 0, 0, 0, rfl, by omega, by omega, by omega, by omega, by omega, by omega⟩
noncomputable def drawF : Fn := fnF 2 5 drawB
noncomputable def feedF : Fn := fnF 1 1 feedB
theorem take_len {μ μ' : Mem} (h : μ'.length = μ.length) : μ'.take μ.length = μ' := by
  rw [← h, List.take_length]
theorem call_draw {μ : Mem} {n : Nat} {k sz : Int} {xs : List PyData} {P : W → Mem → Prop} (h : μ[n]? = some (.l xs)) (hf : FdOk k xs) (hk : k ≤ 1000000000) (h0 : 0 < sz) (h1 : sz ≤ 1000)
    (q : ∀ v xs', FdOk (k + 1) xs' → 0 ≤ v → v < sz → P (.d (.int v)) (μ.set n (.l xs'))) : Ok (callF drawF [.r n, .d (.int sz)] μ) P := by
  rw [ok_callR rfl]
  refine (draw_ok h hf hk h0 h1).mono ?_
  rintro w μ' ⟨v, xs', rfl, rfl, h2, h3, h4⟩
  rw [bkR_d, take_len (by simp)]
  exact q v xs' h2 h3 h4
end Mok09

set_option autoImplicit false
namespace Mok09
open PySem PySem.Spec PyProof.Rows L2
/-! ### sayings -/
inductive Sg where
  | lt (x : Str)
  | no (s : Sg)
  | many (w : Bool) (l : List Sg)
  | so (a b : Sg)
  | tl (a b : Sg)
  | mod (w : Bool) (h : Str) (s : Sg)
def wMany (w : Bool) : Str := if w = true then "or" else "and"
def wMod (w : Bool) : Str := if w = true then "may" else "must"
mutual
def Sg.d : Sg → PyData
  | .lt x => .tuple [.str "letter", .str x]
  | .no s => .tuple [.str "not", s.d]
  | .many w l => .tuple [.str (wMany w), .tuple (Sg.ds l)]
  | .so a b => .tuple [.str "so", a.d, b.d]
  | .tl a b => .tuple [.str "told", a.d, b.d]
  | .mod w h s => .tuple [.str (wMod w), .str h, s.d]
def Sg.ds : List Sg → List PyData
  | [] => []
  | s :: r => s.d :: Sg.ds r
end
mutual
/-- how many parts are no letters -/
def Sg.int : Sg → Nat
  | .lt _ => 0
  | .no s => s.int + 1
  | .many _ l => Sg.ints l + 1
  | .so a b => a.int + b.int + 1
  | .tl a b => a.int + b.int + 1
  | .mod _ _ s => s.int + 1
def Sg.ints : List Sg → Nat
  | [] => 0
  | s :: r => s.int + Sg.ints r
end
mutual
/-- of these letters and hands, of no more than three parts -/
def Sg.ok (t : Bool) : Sg → Prop
  | .lt x => x = "a" ∨ x = "b" ∨ x = "p"
  | .no s => s.ok t
  | .many _ l => Sg.oks t l ∧ l.length ≤ 3
  | .so a b => a.ok t ∧ b.ok t
  | .tl a b => t = true ∧ a.ok t ∧ b.ok t
  | .mod _ h s => (h = "h" ∨ h = "k") ∧ s.ok t
def Sg.oks (t : Bool) : List Sg → Prop
  | [] => True
  | s :: r => s.ok t ∧ Sg.oks t r
end
mutual
/-- how many parts have none within -/
def Sg.lv : Sg → Nat
  | .lt _ => 1
  | .no s => s.lv
  | .many _ l => max 1 (Sg.lvs l)
  | .so a b => a.lv + b.lv
  | .tl a b => a.lv + b.lv
  | .mod _ _ s => s.lv
def Sg.lvs : List Sg → Nat
  | [] => 0
  | s :: r => s.lv + Sg.lvs r
end
theorem lvs_app : ∀ l m : List Sg, Sg.lvs (l ++ m) = Sg.lvs l + Sg.lvs m
  | [], m => by simp [Sg.lvs]
  | s :: r, m => by rw [List.cons_append, Sg.lvs, lvs_app r m, Sg.lvs]; omega
theorem ds_map : ∀ l : List Sg, Sg.ds l = l.map Sg.d
  | [] => rfl
  | s :: r => by rw [Sg.ds, ds_map r]; rfl
theorem ints_app : ∀ l m : List Sg, Sg.ints (l ++ m) = Sg.ints l + Sg.ints m
  | [], m => by simp [Sg.ints]
  | s :: r, m => by rw [List.cons_append, Sg.ints, ints_app r m, Sg.ints]; omega
theorem oks_all {t : Bool} : ∀ {l : List Sg}, Sg.oks t l ↔ ∀ s ∈ l, s.ok t
  | [] => by simp [Sg.oks]
  | s :: r => by simp [Sg.oks, oks_all (l := r)]
/-- by going into what stands within -/
theorem Sg.ind {P : Sg → Prop} (h1 : ∀ x, P (.lt x)) (h2 : ∀ s, P s → P (.no s)) (h3 : ∀ w l, (∀ s ∈ l, P s) → P (.many w l)) (h4 : ∀ a b, P a → P b → P (.so a b)) (h5 : ∀ a b, P a → P b → P (.tl a b)) (h6 : ∀ w h s, P s → P (.mod w h s)) (s : Sg) : P s :=
  Sg.rec (motive_1 := P) (motive_2 := fun l => ∀ s ∈ l, P s) h1 (fun s h => h2 s h) (fun w l h => h3 w l h) (fun a b => h4 a b) (fun a b => h5 a b) (fun w h s q => h6 w h s q) (fun _ h => by cases h) (fun s r h k x hx => by
    rcases List.mem_cons.mp hx with e | hx
    · exact e ▸ h
    · exact k x hx) s
/-- the feed and what is left, both lists that are written -/
def two2 (μ : Mem) (nf nl : Nat) (xs : List PyData) (L : Int) : Mem := (μ.set nf (.l xs)).set nl (.l [.int L])
section
variable {μ : Mem} {nf nl : Nat} {xs ys : List PyData} {L M : Int}
@[simp] theorem two2_len : (two2 μ nf nl xs L).length = μ.length := by simp [two2]
theorem two2_f (h : nf ≠ nl) (hf : nf < μ.length) : (two2 μ nf nl xs L)[nf]? = some (.l xs) := by
  unfold two2
  rw [List.getElem?_set_ne (Ne.symm h), List.getElem?_set_self hf]
theorem two2_l (hl : nl < μ.length) : (two2 μ nf nl xs L)[nl]? = some (.l [.int L]) := by
  unfold two2
  rw [List.getElem?_set_self (by simpa using hl)]
theorem two2_setf (h : nf ≠ nl) : (two2 μ nf nl xs L).set nf (.l ys) = two2 μ nf nl ys L := by
  unfold two2
  rw [List.set_comm _ _ (Ne.symm h), List.set_set]
theorem two2_setl : (two2 μ nf nl xs L).set nl (.l [.int M]) = two2 μ nf nl xs M := by
  unfold two2
  rw [List.set_set]
theorem two2_self (h1 : μ[nf]? = some (.l xs)) (h2 : μ[nl]? = some (.l [.int L])) : two2 μ nf nl xs L = μ := by
  unfold two2
  have e1 : μ.set nf (.l xs) = μ := by
    apply List.ext_getElem?
    intro j
    by_cases e : nf = j
    · subst e; rw [List.getElem?_set_self (List.getElem?_eq_some_iff.mp h1).1, h1]
    · rw [List.getElem?_set_ne e]
  rw [e1]
  apply List.ext_getElem?
  intro j
  by_cases e : nl = j
  · subst e; rw [List.getElem?_set_self (List.getElem?_eq_some_iff.mp h2).1, h2]
  · rw [List.getElem?_set_ne e]
end
noncomputable def sayB (self : Fn) : DS := (sSeq (sSt (dP2 opSub (dP2 opIxA (dV 1) (dC (.int 0))) (dC (.int 1))) (dV 1) (dC (.int 0)))
  (sSeq (sSet 3 (dCall drawF [] (dCons (dV 0) (dCons (dC (.int 14)) dNil))))
  (sSeq (sIf (dOr (dTb (dP2 opLt (dV 3) (dC (.int 3)))) (dTb (dP2 opLt (dP2 opIxA (dV 1) (dC (.int 0))) (dC (.int 1)))))
  (sRet (dPn opTup (dCons (dC (.str "letter")) (dCons (dP2 opIxA (dPn (opLst false) (dCons (dC (.str "a")) (dCons (dC (.str "b")) (dCons (dC (.str "p")) dNil)))) (dCall drawF [] (dCons (dV 0) (dCons (dC (.int 3)) dNil)))) dNil)))) sNext)
  (sSeq (sIf (dTb (dP2 (opInA false) (dV 3) (dPn opTup (dCons (dC (.int 3)) (dCons (dC (.int 4)) dNil)))))
  (sRet (dPn opTup (dCons (dC (.str "not")) (dCons (dCall self [] (dCons (dV 0) (dCons (dV 1) (dCons (dV 2) dNil)))) dNil)))) sNext)
  (sSeq (sIf (dTb (dP2 opLt (dV 3) (dC (.int 8))))
  (sSeq (sSet 4 (dP2 opIxA (dPn (opLst false) (dCons (dC (.int 2)) (dCons (dC (.int 1)) (dCons (dC (.int 3)) (dCons (dC (.int 2)) (dCons (dC (.int 0)) dNil)))))) (dCall drawF [] (dCons (dV 0) (dCons (dC (.int 5)) dNil)))))
  (sSeq (sSet 5 (dLc false (dIs iR1 (dCons (dV 4) dNil)) (gN 7) (dTb (dP2 opGt (dP2 opIxA (dV 1) (dC (.int 0))) (dC (.int 0)))) (dCall self [] (dCons (dV 0) (dCons (dV 1) (dCons (dV 2) dNil)))) [7]))
  (sRet (dPn opTup (dCons (dP2 opIxA (dPn (opLst false) (dCons (dC (.str "and")) (dCons (dC (.str "or")) dNil))) (dP2 opMod (dV 3) (dC (.int 2)))) (dCons (dPn opTu (dCons (dV 5) dNil)) dNil)))))) sNext)
  (sSeq (sIf (dOr (dTb (dP2 (opInA false) (dV 3) (dPn opTup (dCons (dC (.int 8)) (dCons (dC (.int 9)) dNil))))) (dAnd (dTb (dP2 (opEq false) (dV 3) (dC (.int 13)))) (dNot (dTv (dV 2)))))
  (sRet (dPn opTup (dCons (dC (.str "so")) (dCons (dCall self [] (dCons (dV 0) (dCons (dV 1) (dCons (dV 2) dNil)))) (dCons (dCall self [] (dCons (dV 0) (dCons (dV 1) (dCons (dV 2) dNil)))) dNil))))) sNext)
  (sSeq (sIf (dTb (dP2 (opEq false) (dV 3) (dC (.int 13))))
  (sRet (dPn opTup (dCons (dC (.str "told")) (dCons (dCall self [] (dCons (dV 0) (dCons (dV 1) (dCons (dV 2) dNil)))) (dCons (dCall self [] (dCons (dV 0) (dCons (dV 1) (dCons (dV 2) dNil)))) dNil))))) sNext)
  (sSeq (sSet 6 (dP2 opIxA (dPn (opLst false) (dCons (dC (.str "h")) (dCons (dC (.str "k")) dNil))) (dCall drawF [] (dCons (dV 0) (dCons (dC (.int 2)) dNil)))))
  (sRet (dPn opTup (dCons (dP2 opIxA (dPn (opLst false) (dCons (dC (.str "must")) (dCons (dC (.str "may")) dNil))) (dP2 opMod (dV 3) (dC (.int 2)))) (dCons (dV 6) (dCons (dCall self [] (dCons (dV 0) (dCons (dV 1) (dCons (dV 2) dNil)))) dNil)))))))))))))
noncomputable def sayF : Nat → Fn
  | 0 => fun _ _ => .bad
  | n + 1 => fnF 3 8 (sayB (sayF n))
def fL (L : Int) : Nat := (L - 1).toNat
@[simp] theorem eqv_int {i j : Int} : PyData.eqv (.int i) (.int j) = (i == j) := by simp [PyData.eqv]
@[simp] theorem eqv_str {i j : Str} : PyData.eqv (.str i) (.str j) = (i == j) := by simp [PyData.eqv]
@[simp] theorem eqv_bool {i j : Bool} : PyData.eqv (.bool i) (.bool j) = (i == j) := by simp [PyData.eqv]
@[simp] theorem eqv_nn : PyData.eqv .none .none = true := by simp [PyData.eqv]
@[simp] theorem le_size {n : Nat} (h : n ≤ 1000) : n ≤ sizeLine := Nat.le_trans h (by decide)
@[simp] theorem lay_int {i : Int} : PyData.canLay0 (.int i) = true := by simp [PyData.canLay0]
@[simp] theorem lay_bool {i : Bool} : PyData.canLay0 (.bool i) = true := by simp [PyData.canLay0]
@[simp] theorem lay_none : PyData.canLay0 .none = true := by simp [PyData.canLay0]
@[simp] theorem lay_str {i : Str} : PyData.canLay0 (.str i) = PyData.strOk i := by simp [PyData.canLay0]
@[simp] theorem lay_nil : PyData.canLayAll0 [] = true := by simp [PyData.canLayAll0]
@[simp] theorem lay_cons {x : PyData} {xs : List PyData} : PyData.canLayAll0 (x :: xs) = (PyData.canLay0 x && PyData.canLayAll0 xs) := by simp [PyData.canLayAll0]
@[simp] theorem lay_tuple {xs : List PyData} : PyData.canLay0 (.tuple xs) = PyData.canLayAll0 xs := by simp [PyData.canLay0]
@[simp] theorem lay_list {xs : List PyData} : PyData.canLay0 (.list xs) = PyData.canLayAll0 xs := by simp [PyData.canLay0]
@[simp] theorem ok_iR1 {i : Int} {μ : Mem} {Ps : Src → Mem → Prop} : Ok (iR1 [.d (.int i)] μ) Ps = (inR i = true ∧ Ps (intsOf 0 i.toNat, none) μ) := by
  unfold iR1
  dsimp only
  split <;> simp [*]
@[simp] theorem okO_in2 {neg : Bool} {x : PyData} {ys : List PyData} {μ : Mem} {Pw : W → Mem → Prop} (h : SeqAt.shaped x = true) (k : PyData.canLayAll0 ys = true) : OkO (opInA neg [.d x, .d (.tuple ys)] μ) Pw = Pw (.d (.bool (if neg = true then !(ys.any fun y => PyData.eqv y x) else ys.any fun y => PyData.eqv y x))) μ := by
  simp [opInA, orO, opIn, h, k, pB]
@[simp] theorem sh_int {i : Int} : SeqAt.shaped (.int i) = true := by simp [SeqAt.shaped, PyData.canLay0, PyData.depth]
@[simp] theorem sh_str {x : Str} : SeqAt.shaped (.str x) = PyData.strOk x := by simp [SeqAt.shaped, PyData.canLay0, PyData.depth]
theorem iteP {c : Prop} [Decidable c] {A B : Prop} (h1 : c → A) (h2 : ¬ c → B) : if c then A else B := by
  by_cases h : c
  · rw [if_pos h]; exact h1 h
  · rw [if_neg h]; exact h2 h
/-- what a call of the saying's maker comes to -/
structure SayR (K L : Int) (t : Bool) (s : Sg) (xs : List PyData) (M : Int) : Prop where
  fd : FdOk (K + 2 * (1 + 3 * (s.int : Int))) xs
  le : M ≤ L
  lf : s.int + fL M ≤ fL L
  lv : (1 ≤ L → s.lv + M.toNat ≤ L.toNat) ∧ (L ≤ 0 → s.lv = 1 ∧ M.toNat = 0)
  ok : s.ok t
def ManyI (K L : Int) (t : Bool) (μ : Mem) (nf nl : Nat) (done acc : List PyData) (μ' : Mem) : Prop := ∃ (l : List Sg) (xs' : List PyData) (M : Int), acc = Sg.ds l ∧ l.length ≤ done.length ∧ μ' = two2 μ nf nl xs' M ∧ FdOk (K + 2 + 2 * (l.length : Int) + 6 * (Sg.ints l : Int)) xs' ∧ M ≤ L - 1 ∧ Sg.ints l + fL M ≤ fL (L - 1) ∧ Sg.lvs l + M.toNat ≤ (L - 1).toNat ∧ Sg.oks t l
theorem saying_ok : ∀ (n : Nat) (μ : Mem) (nf nl : Nat) (xs : List PyData) (K L : Int) (t : Bool), nf ≠ nl → nf < μ.length → nl < μ.length → FdOk K xs → 0 < n → L ≤ n → K + 2 * (1 + 3 * (fL L : Int)) ≤ 1000000000 →
    Ok (sayF n [.r nf, .r nl, .d (.bool t)] (two2 μ nf nl xs L)) fun w μ' => ∃ s xs' M, w = .d s.d ∧ μ' = two2 μ nf nl xs' M ∧ SayR K L t s xs' M := by
  intro n
  induction n with
  | zero => intro μ nf nl xs K L t _ _ _ _ h; omega
  | succ n ih =>
    intro μ nf nl xs K L t hne hf hl hfd _ hLn hK
    have ixl : ∀ {xs L P}, OkO (opIxA [.r nl, .d (.int 0)] (two2 μ nf nl xs L)) P = P (.d (.int L)) (two2 μ nf nl xs L) := fun {xs L P} => okO_ixr (two2_l hl) (by simp)
    have stl : ∀ {xs L x}, stW (.r nl) (.d (.int 0)) (.d (.int x)) (two2 μ nf nl xs L) = some (two2 μ nf nl xs x) := fun {xs L x} => by rw [stW_r (two2_l hl) (j := 0) rfl]; simp [two2_setl]
    have call : ∀ {xs : List PyData} {K L : Int} {P : W → Mem → Prop}, FdOk K xs → 0 < n → L ≤ n → K + 2 * (1 + 3 * (fL L : Int)) ≤ 1000000000 → (∀ s xs' M, SayR K L t s xs' M → P (.d s.d) (two2 μ nf nl xs' M)) → Ok (callF (sayF n) [.r nf, .r nl, .d (.bool t)] (two2 μ nf nl xs L)) P := by
      intro xs K L P h1 h2 h3 h4 q
      rw [ok_callR rfl]
      refine (ih μ nf nl xs K L t hne hf hl h1 h2 h3 h4).mono ?_
      rintro w μ' ⟨s, xs', M, rfl, rfl, r⟩
      rw [bkR_d, take_len (by simp)]
      exact q s xs' M r
    have draw : ∀ {xs K L sz P}, FdOk K xs → K ≤ 1000000000 → 0 < sz → sz ≤ 1000 → (∀ v xs', FdOk (K + 1) xs' → 0 ≤ v → v < sz → P (.d (.int v)) (two2 μ nf nl xs' L)) → Ok (callF drawF [.r nf, .d (.int sz)] (two2 μ nf nl xs L)) P := by
      intro xs K L sz P h1 h2 h3 h4 q
      refine call_draw (two2_f hne hf) h1 h2 h3 h4 fun v xs' h5 h6 h7 => ?_
      rw [two2_setf hne]
      exact q v xs' h5 h6 h7
    simp [sayF, sayB, ixl, stl]
    refine draw hfd (by omega) (by decide) (by decide) fun way xs1 hf1 w0 w1 => ?_
    have leaf : Ok (callF drawF [W.r nf, W.d (PyData.int 3)] (two2 μ nf nl xs1 (L - 1))) fun y μ2 =>
        OkO (opIxA [W.d (PyData.list [PyData.str (Str.ofString "a"), PyData.str (Str.ofString "b"), PyData.str (Str.ofString "p")]), y] μ2)
          fun x μ1 => match Option.map (fun x => PyData.str (Str.ofString "letter") :: x) (datas [x]) with
          | some xs => xs.length ≤ sizeLine ∧ ∃ s, PyData.tuple xs = s.d ∧ ∃ x x_1, μ1 = two2 μ nf nl x x_1 ∧ SayR K L t s x x_1
          | none => False := by
      refine draw hf1 (by omega) (by decide) (by decide) fun v xs2 hf2 v0 v1 => ?_
      have r : ∀ x : Str, x = "a" ∨ x = "b" ∨ x = "p" → SayR K L t (.lt x) xs2 (L - 1) := fun x hx => ⟨by simpa [Sg.int, show K + 1 + 1 = K + 2 by omega] using hf2, by omega, by simp only [Sg.int, fL]; omega, ⟨fun _ => by simp only [Sg.lv]; omega, fun _ => ⟨rfl, by omega⟩⟩, hx⟩
      rcases (show v = 0 ∨ v = 1 ∨ v = 2 by omega) with rfl | rfl | rfl
      · simp
        exact ⟨.lt "a", rfl, _, _, rfl, r _ (.inl rfl)⟩
      · simp
        exact ⟨.lt "b", rfl, _, _, rfl, r _ (.inr (.inl rfl))⟩
      · simp
        exact ⟨.lt "p", rfl, _, _, rfl, r _ (.inr (.inr rfl))⟩
    simp (config := { decide := true, maxSteps := 400000 }) [ixl, stl]
    refine iteP (fun _ => leaf) (fun hw => ?_)
    refine iteP (fun _ => leaf) (fun hL => ?_)
    have eL : fL L = fL (L - 1) + 1 := by unfold fL; omega
    refine iteP (fun _ => ?_) (fun hw2 => ?_)
    · refine call hf1 (by omega) (by omega) (by omega) fun s xs2 M r => ?_
      simp
      refine ⟨.no s, rfl, _, _, rfl, ?_, ?_, ?_, ?_, r.ok⟩
      · exact r.fd.mono (by simp only [Sg.int]; omega)
      · have := r.le; omega
      · have := r.lf; simp only [Sg.int]; omega
      · have := r.lv; simp only [Sg.lv]; omega
    refine iteP (fun hw3 => ?_) (fun hw3 => ?_)
    · -- and, or
      refine draw hf1 (by omega) (by decide) (by decide) fun v xs2 hf2 v0 v1 => ?_
      obtain ⟨many, hm, m0, m3⟩ : ∃ many : Nat, atI [PyData.int 2, PyData.int 1, PyData.int 3, PyData.int 2, PyData.int 0] v = some (.int many) ∧ 0 ≤ many ∧ many ≤ 3 := by
        rcases (show v = 0 ∨ v = 1 ∨ v = 2 ∨ v = 3 ∨ v = 4 by omega) with rfl | rfl | rfl | rfl | rfl
        · exact ⟨2, rfl, by omega, by omega⟩
        · exact ⟨1, rfl, by omega, by omega⟩
        · exact ⟨3, rfl, by omega, by omega⟩
        · exact ⟨2, rfl, by omega, by omega⟩
        · exact ⟨0, rfl, by omega, by omega⟩
      obtain ⟨w, hw⟩ : ∃ w : Bool, atI [PyData.str (Str.ofString "and"), PyData.str (Str.ofString "or")] (way % 2) = some (.str (wMany w)) := by
        rcases (show way % 2 = 0 ∨ way % 2 = 1 by omega) with e | e
        · rw [e]; exact ⟨false, rfl⟩
        · rw [e]; exact ⟨true, rfl⟩
      simp [hm, hw, ok_dLc]
      refine ⟨by simp only [inR, Bool.and_eq_true, decide_eq_true_eq]; omega, ?_⟩
      refine lc_inv (s := (intsOf 0 many, none)) (ManyI K L t μ nf nl) rfl (fun _ _ _ _ _ => trivial)
        ⟨[], xs2, L - 1, rfl, by simp, rfl, hf2.mono (by simp [Sg.ints]; omega), by omega, by simp [Sg.ints], by simp [Sg.lvs], trivial⟩ ?_ ?_
      · rintro done x r acc μ' e ⟨l, xs', M, rfl, h1, rfl, h2, h3, h4, h6, h5⟩
        have hd : done.length < many := by
          have := congrArg List.length e
          simp [intsOf] at this
          omega
        rw [ok_lcOne]
        simp [wipeE, ixl]
        refine iteP (fun h0 => ?_) (fun h0 => ?_)
        · refine call h2 (by omega) (by omega) (by omega) fun s xs3 M3 r3 => ?_
          have a3 := r3.le
          have a4 := r3.lf
          have a5 := r3.lv
          refine ⟨?_, l ++ [s], xs3, M3, ?_, by simp; omega, rfl, r3.fd.mono (by simp [ints_app, Sg.ints]; omega), by omega, by simp [ints_app, Sg.ints]; omega, by simp [lvs_app, Sg.lvs]; omega, ?_⟩
          · rw [ds_map, List.length_map]
            exact Nat.lt_of_le_of_lt (show l.length ≤ 3 by omega) (by decide)
          · simp [ds_map]
          · rw [oks_all] at h5 ⊢
            intro y hy
            rcases List.mem_append.mp hy with hy | hy
            · exact h5 y hy
            · rw [List.mem_singleton.mp hy]
              exact r3.ok
        · exact ⟨l, _, _, rfl, by rw [List.length_append, List.length_singleton]; omega, rfl, h2, h3, h4, h6, h5⟩
      · rintro acc μ' ⟨l, xs', M, rfl, h1, rfl, h2, h3, h4, h6, h5⟩
        have hl3 : l.length ≤ 3 := by simp [intsOf] at h1; omega
        have hz : (Sg.ds l).length ≤ sizeLine := by
          rw [ds_map, List.length_map]
          exact le_size (by omega)
        have ht : opTu [.d (.list (Sg.ds l))] (two2 μ nf nl xs' M) = some (.d (.tuple (Sg.ds l)), two2 μ nf nl xs' M) := by
          simp [opTu, opTuple, mkT, sz, hz]
        simp only [lcEnd_f, ht, okO_some]
        refine ⟨le_size (by decide : 2 ≤ 1000), .many w l, rfl, _, _, rfl, ?_, by omega, by simp only [Sg.int]; omega, by simp only [Sg.lv]; omega, h5, hl3⟩
        refine h2.mono ?_
        simp only [Sg.int]
        omega
    have two : ∀ (f : Sg → Sg → Sg) (w : Str), (∀ a b, (f a b).d = .tuple [.str w, a.d, b.d]) → (∀ a b, (f a b).int = a.int + b.int + 1) → (∀ a b, (f a b).lv = a.lv + b.lv) → (∀ a b, a.ok t → b.ok t → (f a b).ok t) → Ok (callF (sayF n) [W.r nf, W.r nl, W.d (PyData.bool t)] (two2 μ nf nl xs1 (L - 1))) fun x μ1 =>
            Ok (callF (sayF n) [W.r nf, W.r nl, W.d (PyData.bool t)] μ1) fun x_1 μ1 =>
              match Option.map (fun x => PyData.str w :: x) (datas [x, x_1]) with
              | some xs => xs.length ≤ sizeLine ∧ ∃ s, PyData.tuple xs = s.d ∧ ∃ x x_2, μ1 = two2 μ nf nl x x_2 ∧ SayR K L t s x x_2
              | none => False := by
      intro f w e1 e2 e4 e3
      refine call hf1 (by omega) (by omega) (by omega) fun s xs2 M r => ?_
      have a1 := r.le
      have a2 := r.lf
      have a6 := r.lv
      refine call r.fd (by omega) (by omega) (by omega) fun s2 xs3 M3 r3 => ?_
      have a3 := r3.le
      have a4 := r3.lf
      have a5 := r3.lv
      refine ⟨le_size (by decide : 3 ≤ 1000), f s s2, (e1 _ _).symm, _, _, rfl, ?_, by omega, by rw [e2]; omega, by rw [e4]; omega, e3 _ _ r.ok r3.ok⟩
      exact r3.fd.mono (by rw [e2]; omega)
    have md : Ok (callF drawF [W.r nf, W.d (PyData.int 2)] (two2 μ nf nl xs1 (L - 1))) fun y μ2 =>
          OkO (opIxA [W.d (PyData.list [PyData.str (Str.ofString "h"), PyData.str (Str.ofString "k")]), y] μ2) fun w μ1 =>
              match atI [PyData.str (Str.ofString "must"), PyData.str (Str.ofString "may")] (way % 2) with
              | some x => Ok (callF (sayF n) [W.r nf, W.r nl, W.d (PyData.bool t)] μ1) fun x_1 μ1 =>
                  match Option.map (fun x_2 => x :: x_2) (datas [w, x_1]) with
                  | some xs => xs.length ≤ sizeLine ∧ ∃ s, PyData.tuple xs = s.d ∧ ∃ x x_2, μ1 = two2 μ nf nl x x_2 ∧ SayR K L t s x x_2
                  | none => False
              | none => False := by
      refine draw hf1 (by omega) (by decide) (by decide) fun v xs2 hf2 v0 v1 => ?_
      obtain ⟨h, hh, ho⟩ : ∃ h : Str, atI [PyData.str (Str.ofString "h"), PyData.str (Str.ofString "k")] v = some (.str h) ∧ (h = "h" ∨ h = "k") := by
        rcases (show v = 0 ∨ v = 1 by omega) with rfl | rfl
        · exact ⟨_, rfl, .inl rfl⟩
        · exact ⟨_, rfl, .inr rfl⟩
      obtain ⟨w, hw⟩ : ∃ w : Bool, atI [PyData.str (Str.ofString "must"), PyData.str (Str.ofString "may")] (way % 2) = some (.str (wMod w)) := by
        rcases (show way % 2 = 0 ∨ way % 2 = 1 by omega) with e | e
        · rw [e]; exact ⟨false, rfl⟩
        · rw [e]; exact ⟨true, rfl⟩
      simp only [okO_ixl, hh, hw]
      refine call hf2 (by omega) (by omega) (by omega) fun s xs2 M r => ?_
      have a1 := r.le
      have a2 := r.lf
      have a5 := r.lv
      simp
      exact ⟨.mod w h s, rfl, _, _, rfl, r.fd.mono (by simp only [Sg.int]; omega), by omega, by simp only [Sg.int]; omega, by simp only [Sg.lv]; omega, ho, r.ok⟩
    have so := two .so "so" (fun _ _ => by simp [Sg.d]) (fun _ _ => by simp [Sg.int]) (fun _ _ => by simp [Sg.lv]) (fun _ _ h k => ⟨h, k⟩)
    refine iteP (fun _ => so) (fun _ => iteP (fun h13 => ?_) (fun h13 => ?_))
    · cases t with
      | true =>
        rw [if_pos rfl, if_pos h13]
        exact two .tl "told" (fun _ _ => by simp [Sg.d]) (fun _ _ => by simp [Sg.int]) (fun _ _ => by simp [Sg.lv]) (fun _ _ h k => ⟨rfl, h, k⟩)
      | false =>
        rw [if_neg (by decide)]
        exact so
    · rw [if_neg h13]
      exact md
end Mok09

set_option autoImplicit false
namespace Mok09
open PySem PySem.Spec PyProof.Rows L2
/-! ### how much is written -/
mutual
def wt : PyData → Nat
  | .none => 4
  | .bool _ => 5
  | .int i => (PyData.int i).shown.length
  | .str x => (PyData.str x).shown.length
  | .list xs => wts xs + 3
  | .tuple xs => wts xs + 3
  | .dict _ => 0
def wts : List PyData → Nat
  | [] => 0
  | x :: r => wt x + 2 + wts r
end
mutual
theorem shown_wt : ∀ d : PyData, d.canLay0 = true → d.shown.length ≤ wt d
  | .none, _ => by decide
  | .bool b, _ => by cases b <;> decide
  | .int i, _ => Nat.le_refl _
  | .str x, _ => Nat.le_refl _
  | .list xs, h => by
    have e := shown_wts xs (by simpa using h)
    have l := listText_len_le (PyData.shownAll xs)
    simp only [PyData.shown, wt]
    omega
  | .tuple xs, h => by
    have e := shown_wts xs (by simpa using h)
    have l := tupleText_len_le (PyData.shownAll xs)
    simp only [PyData.shown, wt]
    omega
  | .dict _, h => by simp [PyData.canLay0] at h
theorem shown_wts : ∀ xs : List PyData, PyData.canLayAll0 xs = true → ((PyData.shownAll xs).map (·.length)).sum + 2 * (PyData.shownAll xs).length ≤ wts xs
  | [], _ => by simp [PyData.shownAll, wts]
  | x :: r, h => by
    simp only [lay_cons, Bool.and_eq_true] at h
    have a := shown_wt x h.1
    have b := shown_wts r h.2
    simp only [PyData.shownAll, List.map_cons, List.sum_cons, List.length_cons, wts]
    omega
end
/-- data that may be written, compared -/
structure Rp (d : PyData) : Prop where
  lay : d.canLay0 = true
  dep : d.depth ≤ 64
  shw : d.showable = true
  len : wt d ≤ sizeLine
section
variable {μ : Mem} {Pw : W → Mem → Prop}
theorem okO_repr {d : PyData} (h : Rp d) : OkO (opRepr [.d d] μ) Pw = Pw (.d (.str d.shown)) μ := by
  have e : SeqAt.shaped d = true := by simp [SeqAt.shaped, h.lay, h.dep]
  have z : d.shown.length ≤ sizeLine := Nat.le_trans (shown_wt d h.lay) h.len
  simp [opRepr, e, h.shw, sz, z]
end
/-! ### defs that run for themselves -/
theorem call_pure {F : Fn} {ws : List W} {xs : List PyData} {y : PyData} {μ : Mem} (hd : datas ws = some xs) (h : Ok (F ws []) fun w _ => w = .d y) : callF F ws μ = .ok (.d y) μ := by
  obtain ⟨w, μ', e, rfl⟩ := h.ex
  unfold callF
  rw [hd, e]
/-! ### sayings: how many parts, how high -/
mutual
def Sg.sz : Sg → Nat
  | .lt _ => 1
  | .no s => s.sz + 1
  | .many _ l => Sg.szs l + 1
  | .so a b => a.sz + b.sz + 1
  | .tl a b => a.sz + b.sz + 1
  | .mod _ _ s => s.sz + 1
def Sg.szs : List Sg → Nat
  | [] => 0
  | s :: r => s.sz + Sg.szs r
end
mutual
def Sg.ht : Sg → Nat
  | .lt _ => 0
  | .no s => s.ht + 1
  | .many _ l => Sg.hts l + 1
  | .so a b => max a.ht b.ht + 1
  | .tl a b => max a.ht b.ht + 1
  | .mod _ _ s => s.ht + 1
def Sg.hts : List Sg → Nat
  | [] => 0
  | s :: r => max s.ht (Sg.hts r)
end
/-! ### texts of small letters -/
def cp (x : Str) : List Nat := x.cps.toList
theorem cp_app (x y : Str) : cp (x ++ y) = cp x ++ cp y := by
  show (x.cps ++ y.cps).toList = _
  rw [Array.toList_append]
  rfl
theorem cp_inj {x y : Str} (h : cp x = cp y) : x = y := by
  cases x with
  | mk a =>
    cases y with
    | mk b =>
      have : a = b := Array.toList_inj.mp h
      rw [this]
def low (c : Nat) : Bool := decide (97 ≤ c ∧ c ≤ 122)
def lowS (x : Str) : Bool := (cp x).all low
theorem reprChar_low : ∀ c : Nat, low c = true → Builtin.Str.reprChar 39 c = [c] := by
  intro c h
  have h1 : 97 ≤ c ∧ c ≤ 122 := of_decide_eq_true h
  have main : ∀ k : Nat, k < 26 → Builtin.Str.reprChar 39 (97 + k) = [97 + k] := by decide +kernel
  have := main (c - 97) (by omega)
  rw [show 97 + (c - 97) = c by omega] at this
  exact this
theorem reprFold (l : List Nat) (h : ∀ c ∈ l, low c = true) : ∀ acc : Array Nat, (l.foldl (fun out c => out ++ (Builtin.Str.reprChar 39 c).toArray) acc).toList = acc.toList ++ l := by
  induction l with
  | nil => intro acc; simp
  | cons c l ih =>
    intro acc
    rw [List.foldl_cons, ih (fun d hd => h d (List.mem_cons_of_mem _ hd)), reprChar_low c (h c (by simp))]
    simp
theorem low_all {x : Str} (h : lowS x = true) : ∀ c ∈ cp x, low c = true := List.all_eq_true.mp h
theorem repr_low {x : Str} (h : lowS x = true) : cp (PyData.str x).shown = 39 :: cp x ++ [39] := by
  have h1 := low_all h
  have e : reprQuote x = 39 := by
    unfold reprQuote
    have : x.cps.contains 39 = false := by
      cases q : x.cps.contains 39 with
      | false => rfl
      | true =>
        have hm : (39 : Nat) ∈ cp x := by
          rw [Array.contains_iff_mem] at q
          exact Array.mem_toList_iff.mpr q
        have := h1 39 hm
        revert this
        decide
    rw [this]
    rfl
  show cp (reprText x) = _
  unfold reprText cp
  rw [e]
  show ((x.cps.foldl (fun out c => out ++ (Builtin.Str.reprChar 39 c).toArray) #[39]).push 39).toList = _
  rw [Array.toList_push, ← Array.foldl_toList, reprFold x.cps.toList h1]
  simp [cp]
/-- words: of no more than eight small letters -/
def Sw (x : Str) : Prop := lowS x = true ∧ (cp x).length ≤ 8
instance (x : Str) : Decidable (Sw x) := by unfold Sw; infer_instance
theorem Sw.ok {x : Str} (h : Sw x) : PyData.strOk x = true := by
  unfold PyData.strOk
  rw [Array.all_eq_true']
  intro c hc
  have := low_all h.1 c (Array.mem_toList_iff.mpr hc)
  simp only [low, decide_eq_true_eq] at this ⊢
  omega
theorem Sw.len {x : Str} (h : Sw x) : wt (.str x) ≤ 10 := by
  have e := congrArg List.length (repr_low h.1)
  have h2 := h.2
  have : (PyData.str x).shown.length = (cp (PyData.str x).shown).length := by simp [cp, Str.length]
  simp only [wt]
  rw [this, e]
  simp
  omega
mutual
def Sg.sok : Sg → Prop
  | .lt x => Sw x
  | .no s => s.sok
  | .many _ l => Sg.soks l ∧ l.length ≤ 1000
  | .so a b => a.sok ∧ b.sok
  | .tl a b => a.sok ∧ b.sok
  | .mod _ h s => Sw h ∧ s.sok
def Sg.soks : List Sg → Prop
  | [] => True
  | s :: r => s.sok ∧ Sg.soks r
end
theorem soks_all : ∀ {l : List Sg}, Sg.soks l ↔ ∀ s ∈ l, s.sok
  | [] => by simp [Sg.soks]
  | s :: r => by simp [Sg.soks, soks_all (l := r)]
mutual
theorem Sg.ok.sok {t : Bool} : ∀ {s : Sg}, s.ok t → s.sok
  | .lt x, h => by rcases h with rfl | rfl | rfl <;> simp only [Sg.sok] <;> decide +kernel
  | .no s, h => Sg.ok.sok (s := s) h
  | .many w l, h => ⟨Sg.oks.soks h.1, Nat.le_trans h.2 (by decide)⟩
  | .so a b, h => ⟨Sg.ok.sok h.1, Sg.ok.sok h.2⟩
  | .tl a b, h => ⟨Sg.ok.sok h.2.1, Sg.ok.sok h.2.2⟩
  | .mod w x s, h => ⟨by rcases h.1 with rfl | rfl <;> decide +kernel, Sg.ok.sok h.2⟩
theorem Sg.oks.soks {t : Bool} : ∀ {l : List Sg}, Sg.oks t l → Sg.soks l
  | [], _ => trivial
  | s :: r, h => ⟨Sg.ok.sok h.1, Sg.oks.soks h.2⟩
end
theorem wMany_wt (w : Bool) : wt (.str (wMany w)) ≤ 5 := by cases w <;> decide +kernel
theorem wMod_wt (w : Bool) : wt (.str (wMod w)) ≤ 6 := by cases w <;> decide +kernel
theorem wMany_ok (w : Bool) : PyData.strOk (wMany w) = true := by cases w <;> decide +kernel
theorem wMod_ok (w : Bool) : PyData.strOk (wMod w) = true := by cases w <;> decide +kernel
theorem wt_letter : wt (.str (Str.ofString "letter")) = 8 := by decide +kernel
theorem wt_not : wt (.str (Str.ofString "not")) = 5 := by decide +kernel
theorem wt_so : wt (.str (Str.ofString "so")) = 4 := by decide +kernel
theorem wt_told : wt (.str (Str.ofString "told")) = 6 := by decide +kernel
mutual
theorem sg_rp : ∀ {s : Sg}, s.sok → s.d.canLay0 = true ∧ s.d.depth ≤ 2 * s.ht + 1 ∧ s.d.showable = true ∧ wt s.d + 2 ≤ 30 * s.sz
  | .lt x, h => by
    have a := Sw.ok h
    have b := Sw.len h
    simp only [Sg.d, Sg.ht, Sg.sz, lay_tuple, lay_cons, lay_str, lay_nil, a, PyData.depth, PyData.depthAll, PyData.showable, PyData.showableAll, wts, wt_letter, wt.eq_6]
    refine ⟨by decide +kernel, by omega, rfl, by omega⟩
  | .no s, h => by
    obtain ⟨h1, h2, h3, h4⟩ := sg_rp (s := s) h
    simp only [Sg.d, Sg.ht, Sg.sz, lay_tuple, lay_cons, lay_str, lay_nil, PyData.depth, PyData.depthAll, PyData.showable, PyData.showableAll, wt.eq_6, wts, wt_not, h1, h3]
    refine ⟨by decide +kernel, by omega, rfl, by omega⟩
  | .many w l, h => by
    obtain ⟨h1, h2, h3, h4⟩ := sg_rps (l := l) h.1
    have e := wMany_wt w
    simp only [Sg.d, Sg.ht, Sg.sz, lay_tuple, lay_cons, lay_str, lay_nil, PyData.depth, PyData.depthAll, PyData.showable, PyData.showableAll, wt.eq_6, wts, h1, h3, wMany_ok]
    refine ⟨rfl, by omega, rfl, by omega⟩
  | .so a b, h => by
    obtain ⟨h1, h2, h3, h4⟩ := sg_rp (s := a) h.1
    obtain ⟨k1, k2, k3, k4⟩ := sg_rp (s := b) h.2
    simp only [Sg.d, Sg.ht, Sg.sz, lay_tuple, lay_cons, lay_str, lay_nil, PyData.depth, PyData.depthAll, PyData.showable, PyData.showableAll, wt.eq_6, wts, wt_so, h1, h3, k1, k3]
    refine ⟨by decide +kernel, by omega, rfl, by omega⟩
  | .tl a b, h => by
    obtain ⟨h1, h2, h3, h4⟩ := sg_rp (s := a) h.1
    obtain ⟨k1, k2, k3, k4⟩ := sg_rp (s := b) h.2
    simp only [Sg.d, Sg.ht, Sg.sz, lay_tuple, lay_cons, lay_str, lay_nil, PyData.depth, PyData.depthAll, PyData.showable, PyData.showableAll, wt.eq_6, wts, wt_told, h1, h3, k1, k3]
    refine ⟨by decide +kernel, by omega, rfl, by omega⟩
  | .mod w x s, h => by
    obtain ⟨h1, h2, h3, h4⟩ := sg_rp (s := s) h.2
    have e := wMod_wt w
    have a := Sw.ok h.1
    have b := Sw.len h.1
    simp only [Sg.d, Sg.ht, Sg.sz, lay_tuple, lay_cons, lay_str, lay_nil, PyData.depth, PyData.depthAll, PyData.showable, PyData.showableAll, wt.eq_6, wts, h1, h3, wMod_ok, a, b]
    refine ⟨rfl, by omega, rfl, by omega⟩
theorem sg_rps : ∀ {l : List Sg}, Sg.soks l → PyData.canLayAll0 (Sg.ds l) = true ∧ PyData.depthAll (Sg.ds l) ≤ 2 * Sg.hts l + 1 ∧ PyData.showableAll (Sg.ds l) = true ∧ wts (Sg.ds l) ≤ 30 * Sg.szs l
  | [], _ => by simp [Sg.ds, PyData.depthAll, PyData.showableAll, wts]
  | s :: r, h => by
    obtain ⟨h1, h2, h3, h4⟩ := sg_rp (s := s) h.1
    obtain ⟨k1, k2, k3, k4⟩ := sg_rps (l := r) h.2
    simp only [Sg.ds, Sg.hts, Sg.szs, lay_cons, PyData.depthAll, PyData.showableAll, wts, h1, h3, k1, k3]
    refine ⟨rfl, by omega, rfl, by omega⟩
end
end Mok09

set_option autoImplicit false
namespace Mok09
open PySem PySem.Spec PyProof.Rows L2
@[simp] theorem strOk_of (s : String) : PyData.strOk (Str.ofString s) = true := by
  rw [Str.ofString_eq_toList]
  unfold PyData.strOk
  rw [Array.all_eq_true']
  intro x hx
  rw [List.mem_toArray] at hx
  obtain ⟨c, _, rfl⟩ := List.mem_map.mp hx
  have h := c.valid
  simp only [decide_eq_true_eq, Char.toNat]
  rcases h with h | h
  · have : c.val.toNat < 55296 := h
    omega
  · exact h.2
/-! ### inner_sayings, with_inner -/
def innerB : DS := (sSeq (sSet 1 (dP2 opIxA (dV 0) (dC (.int 0))))
  (sSeq (sIf (dTb (dP2 (opEq false) (dV 1) (dC (.str "letter"))))
  (sRet (dPn opTup dNil)) sNext)
  (sSeq (sIf (dTb (dP2 (opInA false) (dV 1) (dPn opTup (dCons (dC (.str "and")) (dCons (dC (.str "or")) dNil)))))
  (sRet (dP2 opIxA (dV 0) (dC (.int 1)))) sNext)
  (sSeq (sIf (dTb (dP2 (opInA false) (dV 1) (dPn opTup (dCons (dC (.str "must")) (dCons (dC (.str "may")) dNil)))))
  (sRet (dSl false (dV 0) (dPart (dC (.int 2))) dNo)) sNext)
  (sRet (dSl false (dV 0) (dPart (dC (.int 1))) dNo))))))
def withB : DS := (sSeq (sSet 2 (dP2 opIxA (dV 0) (dC (.int 0))))
  (sSeq (sIf (dTb (dP2 (opEq false) (dV 2) (dC (.str "letter"))))
  (sRet (dV 0)) sNext)
  (sSeq (sIf (dTb (dP2 (opInA false) (dV 2) (dPn opTup (dCons (dC (.str "and")) (dCons (dC (.str "or")) dNil)))))
  (sRet (dPn opTup (dCons (dV 2) (dCons (dV 1) dNil)))) sNext)
  (sSeq (sIf (dTb (dP2 (opInA false) (dV 2) (dPn opTup (dCons (dC (.str "must")) (dCons (dC (.str "may")) dNil)))))
  (sRet (dPn opTup (dCons (dV 2) (dCons (dP2 opIxA (dV 0) (dC (.int 1))) (dStar (dV 1) dNil))))) sNext)
  (sRet (dPn opTup (dCons (dV 2) (dStar (dV 1) dNil))))))))
noncomputable def innerF : Fn := fnF 1 2 innerB
noncomputable def withF : Fn := fnF 2 3 withB
def Sg.inn : Sg → List Sg
  | .lt _ => []
  | .no s => [s]
  | .many _ l => l
  | .so a b => [a, b]
  | .tl a b => [a, b]
  | .mod _ _ s => [s]
/-- with others within -/
def Sg.wi : Sg → List Sg → Sg
  | .no _, [x] => .no x
  | .many w _, l => .many w l
  | .so _ _, [x, y] => .so x y
  | .tl _ _, [x, y] => .tl x y
  | .mod w h _, [x] => .mod w h x
  | s, _ => s
theorem inn_ht {s x : Sg} (h : x ∈ s.inn) : x.ht < s.ht := by
  cases s with
  | lt _ => cases h
  | no s => rw [List.mem_singleton.mp h, Sg.ht]; omega
  | many w l =>
    rw [Sg.ht]
    have : ∀ l : List Sg, x ∈ l → x.ht ≤ Sg.hts l := fun l => by
      induction l with
      | nil => intro h; cases h
      | cons y r ih =>
        intro h
        rw [Sg.hts]
        rcases List.mem_cons.mp h with rfl | h
        · omega
        · have := ih h; omega
    have := this l h
    omega
  | so a b =>
    rw [Sg.ht]
    rcases List.mem_cons.mp h with rfl | h
    · omega
    · rw [List.mem_singleton.mp h]; omega
  | tl a b =>
    rw [Sg.ht]
    rcases List.mem_cons.mp h with rfl | h
    · omega
    · rw [List.mem_singleton.mp h]; omega
  | mod _ _ s => rw [List.mem_singleton.mp h, Sg.ht]; omega
theorem inn_sok {s x : Sg} (h : x ∈ s.inn) (k : s.sok) : x.sok := by
  cases s with
  | lt _ => cases h
  | no s => rw [List.mem_singleton.mp h]; exact k
  | many w l => exact soks_all.mp k.1 x h
  | so a b =>
    rcases List.mem_cons.mp h with rfl | h
    · exact k.1
    · rw [List.mem_singleton.mp h]; exact k.2
  | tl a b =>
    rcases List.mem_cons.mp h with rfl | h
    · exact k.1
    · rw [List.mem_singleton.mp h]; exact k.2
  | mod _ _ s => rw [List.mem_singleton.mp h]; exact k.2
@[simp] theorem cut1 {α : Type} {x : α} {xs : List α} : cutD (x :: xs) (some 1) none = xs := by
  have e1 : HT.sIx (xs.length + 1) 0 (some 1) = 1 := by unfold HT.sIx; simp <;> omega
  have e2 : HT.sIx (xs.length + 1) (xs.length + 1) none = xs.length + 1 := rfl
  unfold cutD
  simp only [List.length_cons, e1, e2]
  simp
@[simp] theorem cut2 {α : Type} {x y : α} {xs : List α} : cutD (x :: y :: xs) (some 2) none = xs := by
  have e1 : HT.sIx (xs.length + 1 + 1) 0 (some 2) = 2 := by unfold HT.sIx; simp <;> omega
  have e2 : HT.sIx (xs.length + 1 + 1) (xs.length + 1 + 1) none = xs.length + 1 + 1 := rfl
  unfold cutD
  simp only [List.length_cons, e1, e2]
  simp
@[simp] theorem okO_slt {own : Bool} {lo hi : Option Int} {xs : List PyData} {μ : Mem} {Pw : W → Mem → Prop} : OkO (slW own lo hi (.d (.tuple xs)) μ) Pw = ((cutD xs lo hi).length ≤ sizeLine ∧ Pw (.d (.tuple (cutD xs lo hi))) μ) := by
  simp only [slW, mkT, sz, decide_eq_true_eq]
  split <;> simp [*]
@[simp] theorem okO_tut {xs : List PyData} {μ : Mem} {Pw : W → Mem → Prop} : OkO (opTu [.d (.tuple xs)] μ) Pw = Pw (.d (.tuple xs)) μ := rfl
@[simp] theorem okO_tul {xs : List PyData} {μ : Mem} {Pw : W → Mem → Prop} : OkO (opTu [.d (.list xs)] μ) Pw = (xs.length ≤ sizeLine ∧ Pw (.d (.tuple xs)) μ) := by
  simp only [opTu, opTuple, seqV_l, mkT, sz, decide_eq_true_eq]
  split <;> simp [*]
theorem inner_ok (s : Sg) (μ : Mem) : Ok (innerF [.d s.d] μ) fun w _ => w = .d (.tuple (Sg.ds s.inn)) := by
  cases s with
  | many w l => cases w <;> simp (config := { decide := true }) [innerF, innerB, Sg.d, Sg.inn, Sg.ds, wMany]
  | mod w h s => cases w <;> simp (config := { decide := true }) [innerF, innerB, Sg.d, Sg.inn, Sg.ds, wMod]
  | _ => simp (config := { decide := true }) [innerF, innerB, Sg.d, Sg.inn, Sg.ds]
theorem inn_len {s : Sg} (h : s.sok) : s.inn.length ≤ sizeLine := by
  cases s with
  | many w l => exact le_size h.2
  | _ => exact le_size (by simp [Sg.inn])
/-- its word -/
def Sg.w : Sg → Str
  | .lt _ => "letter"
  | .no _ => "not"
  | .many w _ => wMany w
  | .so _ _ => "so"
  | .tl _ _ => "told"
  | .mod w _ _ => wMod w
@[simp] theorem ix0_sg {s : Sg} {μ : Mem} {Pw : W → Mem → Prop} : OkO (opIxA [.d s.d, .d (.int 0)] μ) Pw = Pw (.d (.str s.w)) μ := by
  cases s <;> simp [Sg.d, Sg.w]
@[simp] theorem strOk_w (s : Sg) : PyData.strOk s.w = true := by
  cases s with
  | many w _ => exact wMany_ok w
  | mod w _ _ => exact wMod_ok w
  | _ => exact strOk_of _
theorem inner_eq (s : Sg) (μ : Mem) : callF innerF [.d s.d] μ = .ok (.d (.tuple (Sg.ds s.inn))) μ := call_pure rfl (inner_ok s [])
theorem with_ok (s : Sg) (r : List Sg) (h : r.length = s.inn.length) (μ : Mem) : Ok (withF [.d s.d, .d (.tuple (Sg.ds r))] μ) fun w _ => w = .d (s.wi r).d := by
  cases s with
  | many w l => cases w <;> simp (config := { decide := true }) [withF, withB, Sg.d, Sg.wi, Sg.ds, wMany]
  | mod w x s =>
    obtain ⟨y, rfl⟩ := List.length_eq_one_iff.mp h
    cases w <;> simp (config := { decide := true }) [withF, withB, Sg.d, Sg.wi, Sg.ds, wMod]
  | lt x => simp (config := { decide := true }) [withF, withB, Sg.d, Sg.wi, Sg.ds]
  | no s =>
    obtain ⟨y, rfl⟩ := List.length_eq_one_iff.mp h
    simp (config := { decide := true }) [withF, withB, Sg.d, Sg.wi, Sg.ds]
  | so a b =>
    obtain ⟨x, y, rfl⟩ : ∃ x y, r = [x, y] := by
      match r, h with
      | [x, y], _ => exact ⟨x, y, rfl⟩
    simp (config := { decide := true }) [withF, withB, Sg.d, Sg.wi, Sg.ds]
  | tl a b =>
    obtain ⟨x, y, rfl⟩ : ∃ x y, r = [x, y] := by
      match r, h with
      | [x, y], _ => exact ⟨x, y, rfl⟩
    simp (config := { decide := true }) [withF, withB, Sg.d, Sg.wi, Sg.ds]
theorem with_eq (s : Sg) (r : List Sg) (h : r.length = s.inn.length) (μ : Mem) : callF withF [.d s.d, .d (.tuple (Sg.ds r))] μ = .ok (.d (s.wi r).d) μ := call_pure rfl (with_ok s r h [])
/-- f of each thing of a row, one by one -/
theorem each_list {l : List Sg} {f : Sg → Sg} {te : DE} {i : Nat} {ρ : Env} {μ : Mem} {Pa : List PyData → Mem → Prop} (hz : l.length ≤ sizeLine) (h : ∀ x ∈ l, te (ρ.set i (some (.d x.d))) μ = .ok (.d (f x).d) μ) (q : Pa (Sg.ds (l.map f)) μ) :
    Ok (lcL (Sg.ds l, none) (gN i) (lcOne dYes te) ρ (Sg.ds l) [] μ) Pa := by
  refine lc_map (s := (Sg.ds l, none)) (ys := Sg.ds (l.map f)) rfl trivial (by simp [ds_map]) (by simpa [ds_map] using hz) (fun j x y hx hy => ?_) q
  rw [ds_map, List.getElem?_map] at hx hy
  obtain ⟨a, ha, rfl⟩ := Option.map_eq_some_iff.mp hx
  rw [List.getElem?_map, ha] at hy
  cases hy
  exact h a (List.mem_of_getElem? ha)
@[simp] theorem okO_addt {own : Bool} {xs ys : List PyData} {μ : Mem} {Pw : W → Mem → Prop} : OkO (opAdd own [.d (.tuple xs), .d (.tuple ys)] μ) Pw = (xs.length + ys.length ≤ sizeLine ∧ Pw (.d (.tuple (xs ++ ys))) μ) := by
  simp only [opAdd, mkT, sz, decide_eq_true_eq, List.length_append]
  split <;> simp [*]
/-- f of each thing within, one by one -/
theorem each_inner {s : Sg} {f : Sg → Sg} {te : DE} {i : Nat} {ρ : Env} {μ : Mem} {Pa : List PyData → Mem → Prop} (hz : s.inn.length ≤ sizeLine) (h : ∀ x ∈ s.inn, te (ρ.set i (some (.d x.d))) μ = .ok (.d (f x).d) μ) (q : Pa (Sg.ds (s.inn.map f)) μ) :
    Ok (lcL (Sg.ds s.inn, none) (gN i) (lcOne dYes te) ρ (Sg.ds s.inn) [] μ) Pa := by
  refine lc_map (s := (Sg.ds s.inn, none)) (ys := Sg.ds (s.inn.map f)) rfl trivial (by simp [ds_map]) (by simpa [ds_map] using hz) (fun j x y hx hy => ?_) q
  rw [ds_map, List.getElem?_map] at hx hy
  obtain ⟨a, ha, rfl⟩ := Option.map_eq_some_iff.mp hx
  rw [List.getElem?_map, ha] at hy
  cases hy
  exact h a (List.mem_of_getElem? ha)
end Mok09

set_option autoImplicit false
namespace Mok09
open PySem PySem.Spec PyProof.Rows L2
section
variable {μ : Mem} {Pw : W → Mem → Prop}
@[simp] theorem okO_addl {xs ys : List PyData} : OkO (opAdd false [.d (.list xs), .d (.list ys)] μ) Pw = (xs.length + ys.length ≤ sizeLine ∧ Pw (.d (.list (xs ++ ys))) μ) := by
  simp only [opAdd, listV_l, mkL, sz, decide_eq_true_eq, List.length_append]
  split <;> simp [*]
theorem okO_app {n : Nat} {xs : List PyData} {x : PyData} (h : μ[n]? = some (.l xs)) (hz : xs.length + 1 ≤ sizeLine) : OkO (opAppend [.r n, .d x] μ) Pw = Pw (.d .none) (μ.set n (.l (xs ++ [x]))) := by
  simp [opAppend, h, sz, hz]
end
/-- the feed stands first, behind no more than K draws -/
def Mf (K : Int) (μ : Mem) : Prop := ∃ xs, μ[0]? = some (.l xs) ∧ FdOk K xs
theorem Mf.mono {K M : Int} {μ : Mem} (h : Mf K μ) (e : K ≤ M) : Mf M μ := by
  obtain ⟨xs, h1, h2⟩ := h
  exact ⟨xs, h1, h2.mono e⟩
/-- what stands behind the feed stays -/
def Beh (μ μ' : Mem) : Prop := ∀ (j : Nat) (o : MO), 1 ≤ j → μ[j]? = some o → μ'[j]? = some o
theorem Beh.refl (μ : Mem) : Beh μ μ := fun _ _ _ h => h
theorem Beh.trans {a b c : Mem} (h : Beh a b) (k : Beh b c) : Beh a c := fun j o h1 h2 => k j o h1 (h j o h1 h2)
theorem Mf.app {K : Int} {μ : Mem} (h : Mf K μ) (o : MO) : Mf K (μ ++ [o]) := by
  obtain ⟨xs, h1, h2⟩ := h
  exact ⟨xs, mem_get _ h1, h2⟩
theorem Mf.set {K : Int} {μ : Mem} (h : Mf K μ) {j : Nat} (hj : 1 ≤ j) (o : MO) : Mf K (μ.set j o) := by
  obtain ⟨xs, h1, h2⟩ := h
  exact ⟨xs, by rw [List.getElem?_set_ne (by omega)]; exact h1, h2⟩
theorem Beh.app (μ : Mem) (o : MO) : Beh μ (μ ++ [o]) := fun _ _ _ h => mem_get _ h
theorem Beh.set0 (μ : Mem) (o : MO) : Beh μ (μ.set 0 o) := fun j u h1 h => by rw [List.getElem?_set_ne (by omega)]; exact h
theorem call_draw0 {μ : Mem} {K sz : Int} {P : W → Mem → Prop} (hf : Mf K μ) (hk : K ≤ 1000000000) (h0 : 0 < sz) (h1 : sz ≤ 1000)
    (q : ∀ v μ', Mf (K + 1) μ' → Beh μ μ' → 0 ≤ v → v < sz → P (.d (.int v)) μ') : Ok (callF drawF [.r 0, .d (.int sz)] μ) P := by
  obtain ⟨xs, h, hf⟩ := hf
  have hn := (List.getElem?_eq_some_iff.mp h).1
  exact call_draw h hf hk h0 h1 fun v xs' a b c => q v _ ⟨xs', List.getElem?_set_self hn, a⟩ (.set0 _ _) b c
/-- a saying is drawn -/
structure SayS (L : Int) (t : Bool) (s : Sg) : Prop where
  int : s.int ≤ fL L
  lv : 1 ≤ L → s.lv ≤ L.toNat
  ok : s.ok t
theorem call_say {n : Nat} {μ : Mem} {K L : Int} {t : Bool} {P : W → Mem → Prop} (hf : Mf K μ) (h0 : 0 < n) (hL : L ≤ n) (hK : K + 2 * (1 + 3 * (fL L : Int)) ≤ 1000000000)
    (q : ∀ s μ', SayS L t s → Mf (K + 2 * (1 + 3 * (fL L : Int))) μ' → Beh μ μ' → P (.d s.d) μ') : Ok (callF (sayF n) [.r 0, .r μ.length, .d (.bool t)] (μ ++ [.l [.int L]])) P := by
  obtain ⟨xs, h, hf⟩ := hf
  have hn := (List.getElem?_eq_some_iff.mp h).1
  have e : two2 (μ ++ [.l [.int L]]) 0 μ.length xs L = μ ++ [.l [.int L]] := two2_self (mem_get _ h) (by simp)
  rw [ok_callR rfl]
  have main := saying_ok n (μ ++ [.l [.int L]]) 0 μ.length xs K L t (by omega) (by simp) (by simp) hf h0 hL hK
  rw [e] at main
  refine main.mono ?_
  rintro w μ' ⟨s, xs', M, rfl, rfl, r⟩
  rw [bkR_d, take_len (by simp)]
  have a := r.lf
  have b := r.lv
  refine q s _ ⟨by omega, fun h => by have := b.1 h; omega, r.ok⟩ ⟨xs', two2_f (by omega) (by simp), r.fd.mono (by omega)⟩ fun j o h1 h2 => ?_
  unfold two2
  have hj := (List.getElem?_eq_some_iff.mp h2).1
  rw [List.getElem?_set_ne (by omega), List.getElem?_set_ne (by omega)]
  exact mem_get _ h2
theorem lv_int : ∀ s : Sg, s.sz ≤ s.int + s.lv ∧ s.ht ≤ s.int :=
  Sg.rec (motive_1 := fun s => s.sz ≤ s.int + s.lv ∧ s.ht ≤ s.int) (motive_2 := fun l => Sg.szs l ≤ Sg.ints l + Sg.lvs l ∧ Sg.hts l ≤ Sg.ints l) (fun x => by simp [Sg.sz, Sg.int, Sg.lv, Sg.ht]) (fun s h => by simp only [Sg.sz, Sg.int, Sg.lv, Sg.ht]; omega) (fun w l h => by simp only [Sg.sz, Sg.int, Sg.lv, Sg.ht]; omega) (fun a b h k => by simp only [Sg.sz, Sg.int, Sg.lv, Sg.ht]; omega)
    (fun a b h k => by simp only [Sg.sz, Sg.int, Sg.lv, Sg.ht]; omega) (fun w x s h => by simp only [Sg.sz, Sg.int, Sg.lv, Sg.ht]; omega) (by simp [Sg.szs, Sg.ints, Sg.lvs, Sg.hts]) (fun s r h k => by simp only [Sg.szs, Sg.ints, Sg.lvs, Sg.hts]; omega)
end Mok09

set_option autoImplicit false
namespace Mok09
open PySem PySem.Spec PyProof.Rows L2
/-! ### names of the module that hold data -/
def GlobAt (K : PySem.W.Frag) (mg : Str → Option Value) (x : Str) (d : PyData) : Prop := ∃ u v, mg x = some u ∧ RelV v u ∧ ∀ L H, Dv K L H v d
def GDict (K : PySem.W.Frag) (w : World) (mg : Str → Option Value) (x : Str) (f : Str → Option PyData) : Prop := ∃ p, mg x = some (.ref p) ∧ ∀ z y, f z = some y → ∃ v, KDct K w p z v ∧ ∀ L H, Dv K L H v y
def dKD (f : Str → Option PyData) (d : DE) : DE := fun ρ μ => bnd (d ρ μ) fun w μ1 => match w with
  | .d (.str z) => match f z with
    | some y => .ok (.d y) μ1
    | none => .bad
  | _ => .bad
section
variable {X : Cx} {ct : Ct} {Z : WX}
theorem mG {x : Str} {pos : Pos} {d : PyData} (G : GlobAt X.K X.mg x d) (hg : Gl X x := by rfl) (hd : (x == ("__debug__" : Str)) = false := by decide) : ME X ct Z (.Name x pos) (dC d) := by
  obtain ⟨u, v, h1, h2, h3⟩ := G
  exact mConst (pe_glob hg h1 h2 (hd := hd)) h3
@[simp] theorem ok_dKD {f : Str → Option PyData} {d : DE} {ρ : Env} {μ : Mem} {P : W → Mem → Prop} : Ok (dKD f d ρ μ) P = Ok (d ρ μ) fun w μ1 => match w with
  | .d (.str z) => match f z with
    | some y => P (.d y) μ1
    | none => False
  | _ => False := by
  simp only [dKD, ok_bnd]
  congr 1
  funext w μ1
  split
  · split <;> simp [*]
  · simp
@[simp] theorem okO_int {i : Int} {μ : Mem} {P : W → Mem → Prop} : OkO (opInt [.d (.int i)] μ) P = P (.d (.int i)) μ := rfl
@[simp] theorem okO_intb {b : Bool} {μ : Mem} {P : W → Mem → Prop} : OkO (opInt [.d (.bool b)] μ) P = P (.d (.int (if b then 1 else 0))) μ := rfl
end
theorem glob_int {K : PySem.W.Frag} {mg : Str → Option Value} {h : Heap} {x : Str} {i : Int} {t : Nat} (X : K.In h) (G : h.Ns mainGlobals mg) (a : PySem.W.nsIn K mainGlobals x = some (some (.int i t))) : GlobAt K mg x (.int i) :=
  ⟨.int i t, .int i, PySem.W.mg_of X G a, ⟨t, rfl⟩, fun _ _ => .int i⟩
end Mok09

set_option autoImplicit false
namespace Mok09
open PySem PySem.Spec PyProof.Rows L2
/-! ### instances of the module's classes: fields hold plain data -/
/-- the class that stands under a name of the module, with names that are fields alone -/
def ClassAt (K : PySem.W.Frag) (mg : Str → Option Value) (x : Str) (names : List Str) : Prop := ∃ C : Addr, PySem.W.nsIn K mainGlobals x = some (some (.ref C)) ∧ mg x = some (.ref C) ∧ Cls K C ∧ ∀ f ∈ names, NoAttr K C f
def putO (f : Str) (y : PyData) : List (Str × PyData) → List (Str × PyData)
  | [] => [(f, y)]
  | (g, x) :: r => if g = f then (g, y) :: r else (g, x) :: putO f y r
theorem obj_at {K : PySem.W.Frag} {m : Ms} {H : Hp} {μ : Mem} {n : Nat} {v : V} {x : Str} {fs : List (Str × PyData)} (r : RV K m H (.r n) v) (hh : RH K m H μ) (e : μ[n]? = some (.o x fs)) :
    ∃ a C dx us, m.v[n]? = some (some [a]) ∧ v = .ref a ∧ PySem.W.nsIn K mainGlobals x = some (some (.ref C)) ∧ H a = some (.ins C dx us) ∧ FsR K m H us fs := by
  obtain ⟨l, b, h1, h2, h3, a, C, dx, us, h4, h5, h6, h7⟩ := ref_at r hh e (by intro z; cases z)
  cases h4
  cases h2
  exact ⟨_, C, dx, us, h1, h3, h5, h6, h7⟩
theorem fs_look {K : PySem.W.Frag} {m : Ms} {H : Hp} {f : Str} : ∀ {us : List (Str × V)} {fs : List (Str × PyData)}, FsR K m H us fs → ∀ {y : PyData}, fs.lookup f = some y → ∃ v, us.lookup f = some v ∧ Dv K (Live m) H v y
  | _, _, .nil, y, e => by cases e
  | (g, v) :: us, (g', z) :: fs, .cons h t, y, e => by
    obtain ⟨rfl, h2⟩ := h
    dsimp only at h2
    rw [List.lookup] at e ⊢
    cases q : (f == g) with
    | true =>
      simp only [q] at e ⊢
      cases e
      exact ⟨v, rfl, h2⟩
    | false =>
      simp only [q] at e ⊢
      exact fs_look t e
theorem fs_miss {K : PySem.W.Frag} {m : Ms} {H : Hp} {f : Str} : ∀ {us : List (Str × V)} {fs : List (Str × PyData)}, FsR K m H us fs → fs.lookup f = none → us.lookup f = none
  | _, _, .nil, _ => rfl
  | (g, v) :: us, (g', z) :: fs, .cons h t, e => by
    obtain ⟨rfl, h2⟩ := h
    rw [List.lookup] at e ⊢
    cases q : (f == g) with
    | true => simp [q] at e
    | false =>
      simp only [q] at e ⊢
      exact fs_miss t e
theorem fs_put {K : PySem.W.Frag} {m : Ms} {H : Hp} {f : Str} {v : V} {y : PyData} (r : Dv K (Live m) H v y) : ∀ {us : List (Str × V)} {fs : List (Str × PyData)}, FsR K m H us fs → FsR K m H (putF f v us) (putO f y fs)
  | _, _, .nil => .cons ⟨rfl, r⟩ .nil
  | (g, w) :: us, (g', z) :: fs, .cons h t => by
    obtain ⟨rfl, h2⟩ := h
    by_cases e : g = f
    · simp only [putF, putO, e, if_true]
      exact .cons ⟨rfl, r⟩ t
    · simp only [putF, putO, e, if_false]
      exact .cons ⟨rfl, h2⟩ (fs_put r t)
theorem putO_len (f : Str) (y : PyData) : ∀ fs, (putO f y fs).length ≤ fs.length + 1
  | [] => by simp [putO]
  | (g, x) :: r => by
    have := putO_len f y r
    unfold putO
    split <;> simp <;> omega
/-- o.f -/
def atW (x f : Str) : W → Mem → Res W
  | .r n, μ => match μ[n]? with
    | some (.o y fs) => if y = x then (match fs.lookup f with
      | some z => .ok (.d z) μ
      | none => .bad) else .bad
    | _ => .bad
  | _, _ => .bad
def dAt (x f : Str) (d : DE) : DE := fun ρ μ => bnd (d ρ μ) (atW x f)
/-- o.f = .. -/
def setAt (x f : Str) (y : PyData) : W → Mem → Res Unit
  | .r n, μ => match μ[n]? with
    | some (.o z fs) => if z = x ∧ fs.length < 900 then .ok () (μ.set n (.o z (putO f y fs))) else .bad
    | _ => .bad
  | _, _ => .bad
def sAt (x f : Str) (dv d : DE) : DS := fun ρ μ => nxt ρ (fun _ => ρ) (bnd (dv ρ μ) fun w μ1 => bnd (d ρ μ1) fun u μ2 => match w with
  | .d y => setAt x f y u μ2
  | _ => .bad)
section
variable {X : Cx} {ct : Ct} {Z : WX}
theorem mAt {x f : Str} {names : List Str} {e : Expr} {pos : Pos} {d : DE} (c : ClassAt X.K X.mg x names) (he : ME X ct Z e d) (hf : f ∈ names := by decide) (hb : attributeBase e f X.env (eval e X.env) = eval e X.env := by rfl) : ME X ct Z (.Attribute e f pos) (dAt x f d) := by
  obtain ⟨C, c1, c2, c3, c4⟩ := c
  refine ⟨pe_imp (pe_fld he.pe hb) fun σ H Q h => ?_⟩
  obtain ⟨m, ρ, μ, hr, hh, g⟩ := h
  refine ⟨m, ρ, μ, hr, hh, (Gd.bnd g).mono fun w μ1 m1 H1 e1 h1 g1 v r1 => ?_⟩
  cases w with
  | d _ => exact g1.elim
  | s _ => exact g1.elim
  | r n =>
    unfold atW at g1
    dsimp only at g1
    split at g1
    · rename_i y fs hq
      split at g1
      · rename_i hy
        subst hy
        split at g1
        · rename_i z hz
          obtain ⟨a, C', dx, us, k1, rfl, k3, k4, k5⟩ := obj_at r1 h1 hq
          rw [c1] at k3
          cases k3
          obtain ⟨u, l1, l2⟩ := fs_look k5 hz
          exact ⟨a, C, dx, us, u, rfl, k4, c3, c4 f hf, l1, g1 m1 H1 (.refl _ _) h1 u l2⟩
        · exact g1.elim
      · exact g1.elim
    · exact g1.elim
theorem fs_len {K : PySem.W.Frag} {m : Ms} {H : Hp} {us : List (Str × V)} {fs : List (Str × PyData)} (h : FsR K m H us fs) : us.length = fs.length := Paired.length h
theorem put_obj {K : PySem.W.Frag} {m : Ms} {H : Hp} {μ : Mem} {n : Nat} {a C dx : Addr} {x f : Str} {us : List (Str × V)} {fs : List (Str × PyData)} {v : V} {y : PyData} (hh : RH K m H μ) (k1 : m.v[n]? = some (some [a])) (k3 : PySem.W.nsIn K mainGlobals x = some (some (.ref C))) (k4 : H a = some (.ins C dx us)) (k5 : FsR K m H us fs) (r : Dv K (Live m) H v y) :
    Ext m H m (upd H a (.ins C dx (putF f v us))) ∧ RH K m (upd H a (.ins C dx (putF f v us))) (μ.set n (.o x (putO f y fs))) := by
  have e : Ext m H m (upd H a (.ins C dx (putF f v us))) := .put (vl_at k1 (by simp)) k4 trivial
  exact ⟨e, hh.put k1 k4 trivial ⟨a, C, dx, _, rfl, k3, upd_same, (fs_put r k5).keeps e.ks⟩⟩
theorem msAt {x f : Str} {names : List Str} {o value : Expr} {pos pos' : Pos} {dv d : DE} (c : ClassAt X.K X.mg x names) (hv : ME X ct Z value dv) (ho : ME X ct Z o d) (hf : f ∈ names := by decide)
    (hs : swapsWith value (some (.Attribute o f pos')) pos.line X.env = pure false := by rfl) : MS X ct Z (.Assign [.Attribute o f pos'] value pos) (sAt x f dv d) := by
  obtain ⟨C, c1, c2, c3, c4⟩ := c
  refine ⟨ps_imp (ps_fld ho.pe hv.pe hs) fun D σ H h => ?_⟩
  obtain ⟨m, ρ, μ, he, hh, g⟩ := h
  refine ⟨m, ρ, μ, he, hh, ?_⟩
  unfold sAt at g
  have g1 := gs_gd (σ := σ) (f := fun _ => ρ) (P := fun _ μ1 m1 H1 => D.nx σ H1) he g fun a μ1 m1 H1 e1 h1 g1 => g1 m1 σ H1 (.refl _ _) h1 (he.ext e1)
  refine (Gd.bnd g1).mono fun w μ1 m1 H1 e1 h1 g2 v r1 => ⟨m1, ρ, μ1, he.ext e1, h1, (Gd.bnd g2).mono fun u μ2 m2 H2 e2 h2 g3 ov r2 => ?_⟩
  cases w with
  | r _ => exact g3.elim
  | s _ => exact g3.elim
  | d y =>
    cases u with
    | d _ => exact g3.elim
    | s _ => exact g3.elim
    | r n =>
      unfold setAt at g3
      dsimp only at g3
      split at g3
      · rename_i z fs hq
        split at g3
        · rename_i hc
          obtain ⟨rfl, hl⟩ := hc
          obtain ⟨a, C', dx, us, k1, rfl, k3, k4, k5⟩ := obj_at r2 h2 hq
          have k3' := k3
          rw [c1] at k3'
          cases k3'
          obtain ⟨e4, h4⟩ := put_obj (f := f) h2 k1 k3 k4 k5 (Dv.stay r1 e2.ks)
          exact ⟨a, C, dx, us, rfl, k4, c3, c4 f hf, by rw [fs_len k5]; omega, g3 m2 _ e4 h4⟩
        · exact g3.elim
      · exact g3.elim
end
/-! ### methods, making -/
/-- the promise of a method of the class under that name -/
def CalM (P : Program) (w : World) (K : PySem.W.Frag) (mg : Str → Option Value) (base : Heap) (ct : Ct) (k : Nat) (x m : Str) (F : Fn) : Prop := ∃ (C f : Addr) (fd : FuncData) (ps : List Str), PySem.W.nsIn K mainGlobals x = some (some (.ref C)) ∧ Cls K C ∧ Meth K C m f ∧ FnG P w K mg base ct k f fd ps F ∧ Binds K fd ps []
def mthW (x m : Str) : W → Mem → Bool
  | .r n, μ => match μ[n]? with
    | some (.o y fs) => decide (y = x) && (fs.lookup m).isNone
    | _ => false
  | _, _ => false
def dMeth (x m : Str) (F : Fn) (d : DE) (da : DA) : DE := fun ρ μ => bnd (d ρ μ) fun w μ1 => if mthW x m w μ1 = true then bnd (da ρ μ1) fun ws μ2 => callF F (w :: ws) μ2 else .bad
section
variable {X : Cx} {ct : Ct} {Z : WX}
theorem mMeth {x mt : Str} {k : Nat} {F : Fn} {o e : Expr} {es : List Expr} {pos apos : Pos} {d : DE} {da : DA} {pl : Sem Bool} (c : CalM X.prog X.w X.K X.mg X.base ct k x mt F) (hr : Room k X.A) (hgd : X.A.guards = some []) (tk : Takes X Z) (ho : ME X ct Z o d) (ha : MA X ct Z (e :: es) da)
    (hst : starEach (e :: es) X.env = (false, eval e X.env) :: starEach es X.env := by rfl) (hpl : (backTo pos (starEach es X.env)).any (·.1) = false := by rfl)
    (ht : eval (.Call (.Attribute o mt apos) (e :: es) [] pos) X.env = (do
      let ov ← eval o X.env
      standAt apos.atName
      let (f, first) ← holding [ov] (getMethod ov mt pl)
      callWith pos f first (backTo pos (starEach (e :: es) X.env)) (backToKw pos (keywordEach [] X.env))) := by rfl) : ME X ct Z (.Call (.Attribute o mt apos) (e :: es) [] pos) (dMeth x mt F d da) := by
  obtain ⟨C, f, fd, ps, c1, c3, cm, G, hb⟩ := c
  refine ⟨⟨fun pins s σ H Q I h => ?_⟩⟩
  obtain ⟨m, ρ, μ, hρ, hh, g⟩ := h
  refine PySem.W.methodCall_KW (pl := pl) (thn (ho.pe.run pins s σ H (fun v H1 => ∃ (a dx : Addr) (us : List (Str × V)) (m1 : Ms) (μ1 : Mem) (w : W), v = .ref a ∧ H1 a = some (.ins C dx us) ∧ us.lookup mt = none ∧ RV X.K m1 H1 w v ∧ EnvR X.K m1 H1 ρ σ ∧ RH X.K m1 H1 μ1 ∧ Gd X.K ct Z m1 σ H1 (bnd (da ρ μ1) fun ws μ2 => callF F (w :: ws) μ2) (PV X.K Q)) I
    ⟨m, ρ, μ, hρ, hh, (Gd.bnd g).mono fun w μ1 m1 H1 e1 h1 g1 v r1 => ?_⟩) fun u s1 ⟨v, H1, I1, rv, q⟩ => ?_) ht
  · split at g1
    · rename_i hm
      cases w with
      | d _ => cases hm
      | s _ => cases hm
      | r n =>
        unfold mthW at hm
        dsimp only at hm
        split at hm
        · rename_i y fs hq
          rw [Bool.and_eq_true, decide_eq_true_eq] at hm
          obtain ⟨rfl, hn⟩ := hm
          obtain ⟨a, C', dx, us, k1, rfl, k3, k4, k5⟩ := obj_at r1 h1 hq
          rw [c1] at k3
          cases k3
          exact ⟨a, dx, us, m1, μ1, .r n, rfl, k4, fs_miss k5 (Option.isNone_iff_eq_none.mp hn), r1, hρ.ext e1, h1, g1⟩
        · cases hm
    · exact g1.elim
  · obtain ⟨a, dx, us, m1, μ1, w, rfl, k4, kn, r1, hρ1, h1, g1⟩ := q
    obtain rfl : u = Value.ref a := rv
    refine getmeth_ok I1 k4 c3 cm kn ?_
    refine PySem.W.callWith_K (first := [.ref a]) (h₀ := X.base) I1.ok.mod.kin cm.kp (thn (ha.pa.run pos pins s1 σ H1 (fun vs H2 => ∃ m μ ws, RVs X.K m H2 ws (V.ref a :: vs) ∧ RH X.K m H2 μ ∧ Gd X.K ct Z m σ H2 (callF F ws μ) (PV X.K Q)) I1
      ⟨m1, ρ, μ1, hρ1, h1, (Gd.bnd g1).mono fun ws μ2 m2 H2 e2 h2 g2 vs r2 => ⟨m2, μ2, w :: ws, .cons (r1.ext e2) r2, h2, g2⟩⟩) fun zs s2 ⟨vs, H2, I2, r, m2, μ2, ws, r2, h2, g2⟩ => ⟨I2.kIn, ?_⟩) hst hpl
    exact fn_run (us := .ref a :: zs) (vs := .ref a :: vs) (dws := []) G hb .nil (fun _ _ => .nil) hr hgd tk I2 (.cons rfl r) r2 h2 (by simpa using g2)
end
end Mok09

set_option autoImplicit false
namespace Mok09
open PySem PySem.Spec PyProof.Rows L2
/-- the promise of a class's __init__ -/
def CalI (P : Program) (w : World) (K : PySem.W.Frag) (mg : Str → Option Value) (base : Heap) (ct : Ct) (k : Nat) (x : Str) (F : Fn) : Prop := ∃ (C f : Addr) (fd : FuncData) (ps : List Str), PySem.W.nsIn K mainGlobals x = some (some (.ref C)) ∧ mg x = some (.ref C) ∧ Mk K C f ∧ FnG P w K mg base ct k f fd ps F ∧ Binds K fd ps []
def mkI (x : Str) (F : Fn) (ws : List W) (μ1 : Mem) : Res W := match F (.r μ1.length :: ws) (μ1 ++ [.o x []]) with
  | .ok (.d .none) μ2 => .ok (.r μ1.length) (μ2.take (μ1.length + 1))
  | _ => .bad
def dMake (x : Str) (F : Fn) (da : DA) : DE := fun ρ μ => bnd (da ρ μ) fun ws μ1 => mkI x F ws μ1
section
variable {X : Cx} {ct : Ct} {Z : WX}
theorem run_new {x : Str} {k : Nat} {F : Fn} {C f : Addr} {fd : FuncData} {ps : List Str} (c1 : PySem.W.nsIn X.K mainGlobals x = some (some (.ref C))) (M : Mk X.K C f) (G : FnG X.prog X.w X.K X.mg X.base ct k f fd ps F) (hb : Binds X.K fd ps []) (hr : Room (k + 1) X.A) (hgd : X.A.guards = some [])
    {pins : List (Addr × Obj)} {σ : L2.St} {H : Hp} {s : Shared} {Q : VK} {us : List Value} {vs : List V} {m : Ms} {μ : Mem} {ws : List W} (I : Inv X pins σ H s) (r : Vals vs us) (rv : RVs X.K m H ws vs) (hh : RH X.K m H μ)
    (g : Gd X.K ct Z m σ H (mkI x F ws μ) (PV X.K Q)) : wpAny (model X.prog X.w) X.A (call (.ref C) us) (EP X pins σ Q) X.xe s := by
  obtain ⟨dx, hdx⟩ : ∃ dx, dx = s.heap.objs.size := ⟨_, rfl⟩
  have I2 := Inv.made (C := C) I
  have n1 : H s.heap.objs.size = none := I.hok.fresh (Nat.le_refl _)
  have n2 : H (s.heap.objs.size + 1) = none := I.hok.fresh (Nat.le_succ _)
  have n3 : (upd H s.heap.objs.size (.own (s.heap.objs.size + 1))) (s.heap.objs.size + 1) = none := by
    rw [upd_ne (Nat.succ_ne_self _)]
    exact n2
  rw [← hdx] at n1 n2 n3 I2
  have e1 : Ext m H m (upd H dx (.own (dx + 1))) := .laid n1 _
  have h1 := hh.laid n1 (.own (dx + 1))
  have e2 : Ext m (upd H dx (.own (dx + 1))) (m.add (dx + 1)) (upd (upd H dx (.own (dx + 1))) (dx + 1) (.ins C dx [])) := .made n3 _
  have h2 : RH X.K (m.add (dx + 1)) (upd (upd H dx (.own (dx + 1))) (dx + 1) (.ins C dx [])) (μ ++ [.o x []]) := h1.made n3 ⟨_, C, dx, [], rfl, c1, upd_same, .nil⟩
  have rx : RV X.K (m.add (dx + 1)) (upd (upd H dx (.own (dx + 1))) (dx + 1) (.ins C dx [])) (.r μ.length) (.ref (dx + 1)) := rv_last hh.len
  have e12 := e1.trans e2
  have rall : RVs X.K (m.add (dx + 1)) (upd (upd H dx (.own (dx + 1))) (dx + 1) (.ins C dx [])) (.r μ.length :: ws) (.ref (dx + 1) :: vs) := .cons rx (rv.ext e12)
  have rvals : Vals (V.ref (dx + 1) :: vs) (Value.ref (dx + 1) :: us) := .cons rfl r
  unfold mkI at g
  cases hF : F (.r μ.length :: ws) (μ ++ [.o x []]) with
  | bad => rw [hF] at g; exact g.elim
  | exc x' μ' => rw [hF] at g; exact g.elim
  | ok w2 μ2 =>
    rw [hF] at g
    have hw : w2 = .d .none := by
      cases w2 with
      | d y => cases y <;> first | rfl | exact g.elim
      | r _ => exact g.elim
      | s _ => exact g.elim
    subst hw
    dsimp only at g
    have hlen : (Value.ref (dx + 1) :: us ++ []).length = ps.length := by
      rw [List.append_nil, ← rvals.length, ← Paired.length rall]
      exact G.len _ (μ ++ [.o x []]) (by rw [hF]; intro z; cases z)
    have hb' := hb _ (Value.ref (dx + 1) :: us) I2.kIn hlen
    rw [List.append_nil] at hb'
    have gd : Gd X.K ct (fun c d _ H' => (fun (_ : Value) (_ : Option Addr) (_ : Hp) => False) c d H') (m.add (dx + 1)) [] (upd (upd H dx (.own (dx + 1))) (dx + 1) (.ins C dx [])) (F (.r μ.length :: ws) (μ ++ [.o x []])) (PV X.K fun v H2 => v = .non ∧ Q (.ref (dx + 1)) H2) := by
      rw [hF]
      intro m3 H3 e3 h3 v r3
      cases r3
      refine ⟨rfl, ?_⟩
      have rx3 := rx.ext e3
      have ln : μ.length + 1 = (m.add (dx + 1)).v.length := by simp [Ms.add, hh.len]
      rw [ln] at g
      refine g (m3.cut (m.add (dx + 1)).v.length) H3 (e12.trans e3.drop) (h3.drop _) _ ?_
      have e : (m3.cut (m.add (dx + 1)).v.length).v[μ.length]? = m3.v[μ.length]? := List.getElem?_take_of_lt (by omega)
      show (m3.cut (m.add (dx + 1)).v.length).v[μ.length]? = some none ∨ _
      rw [e]
      exact rx3
    subst hdx
    refine wpAny_call (make_map (f := f) I.kIn M.makes M.init (beq_iff_eq.mp M.fn) (codeAny_mono (G.run _ X.stack _ _ ⟨Value.ref (s.heap.objs.size + 1) :: us, []⟩ _ _ _ (fun _ _ _ => False) _ _ _ (hr.make C us []) hgd (I2.env0.make C us []) hb' rvals rall h2 gd) fun res s' hq => ?_))
    cases res with
    | error e =>
      obtain ⟨_, _, _, _, _, _, _, _, _, _, _, _, z⟩ := hq
      exact z.elim
    | ok fl =>
      cases fl with
      | next => exact hq.elim
      | brk => exact hq.elim
      | cont => exact hq.elim
      | ret u =>
        obtain ⟨v, H', I3, q1, q2, q3⟩ := I2.after hq
        subst q2
        exact ⟨q1, V.ref (s.heap.objs.size + 1), H', I3, rfl, q3⟩
theorem mMake {x : Str} {k : Nat} {F : Fn} {p pos : Pos} {e : Expr} {es : List Expr} {da : DA} (c : CalI X.prog X.w X.K X.mg X.base ct k x F) (hr : Room (k + 1) X.A) (hgd : X.A.guards = some []) (ha : MA X ct Z (e :: es) da) (hg : Gl X x := by rfl)
    (hdb : (x == ("__debug__" : Str)) = false := by decide) (he : starEach (e :: es) X.env = (false, eval e X.env) :: starEach es X.env := by rfl) (hpl : (backTo pos (starEach es X.env)).any (·.1) = false := by rfl) : ME X ct Z (.Call (.Name x p) (e :: es) [] pos) (dMake x F da) := by
  obtain ⟨C, f, fd, ps, c1, c2, M, G, hb⟩ := c
  refine ⟨⟨fun pins s σ H Q I h => ?_⟩⟩
  obtain ⟨m, ρ, μ, hρ, hh, g⟩ := h
  refine wpAny_Call_Name_kw (ld_glob I hg c2 ?_ hdb)
  refine PySem.W.callWith_K (h₀ := X.base) I.ok.mod.kin M.kp (thn (ha.pa.run pos pins s σ H (fun vs H1 => ∃ m1 μ1 ws, RVs X.K m1 H1 ws vs ∧ RH X.K m1 H1 μ1 ∧ Gd X.K ct Z m1 σ H1 (mkI x F ws μ1) (PV X.K Q)) I
    ⟨m, ρ, μ, hρ, hh, (Gd.bnd g).mono fun ws μ1 m1 H1 e1 h1 g1 vs r1 => ⟨m1, μ1, ws, r1, h1, g1⟩⟩) fun us s1 ⟨vs, H1, I1, r, m1, μ1, ws, r1, h1, g1⟩ => ⟨I1.kIn, ?_⟩) he hpl
  exact run_new c1 M G hb hr hgd I1 r r1 h1 g1
end
/-! ### what they come to -/
section
variable {ρ : Env} {μ : Mem} {P : W → Mem → Prop} {x f : Str}
@[simp] theorem ok_dAt {d : DE} : Ok (dAt x f d ρ μ) P = Ok (d ρ μ) fun w μ1 => Ok (atW x f w μ1) P := by simp [dAt]
theorem ok_atW {n : Nat} {fs : List (Str × PyData)} {y : PyData} (h : μ[n]? = some (.o x fs)) (e : fs.lookup f = some y) : Ok (atW x f (.r n) μ) P = P (.d y) μ := by
  simp [atW, h, e]
@[simp] theorem oks_sAt {dv d : DE} {N B C : Env → Mem → Prop} {R : W → Mem → Prop} : Oks (sAt x f dv d ρ μ) N R B C = Ok (dv ρ μ) fun w μ1 => Ok (d ρ μ1) fun u μ2 => match w with
  | .d y => Ok (setAt x f y u μ2) fun _ μ3 => N ρ μ3
  | _ => False := by
  unfold sAt
  rw [show ∀ r : Res Unit, Oks (nxt ρ (fun _ => ρ) r) N R B C = Ok r fun _ μ => N ρ μ from fun r => by cases r <;> rfl]
  simp only [ok_bnd]
  congr 1
  funext w μ1
  congr 1
  funext u μ2
  cases w <;> rfl
theorem ok_setAt {n : Nat} {fs : List (Str × PyData)} {y : PyData} {Pu : Unit → Mem → Prop} (h : μ[n]? = some (.o x fs)) (e : fs.length < 900) : Ok (setAt x f y (.r n) μ) Pu = Pu () (μ.set n (.o x (putO f y fs))) := by
  simp [setAt, h, e]
@[simp] theorem ok_dMeth {m : Str} {F : Fn} {d : DE} {da : DA} : Ok (dMeth x m F d da ρ μ) P = Ok (d ρ μ) fun w μ1 => mthW x m w μ1 = true ∧ Ok (da ρ μ1) fun ws μ2 => Ok (callF F (w :: ws) μ2) P := by
  simp only [dMeth, ok_bnd]
  congr 1
  funext w μ1
  split <;> simp [*]
@[simp] theorem ok_dMake {F : Fn} {da : DA} : Ok (dMake x F da ρ μ) P = Ok (da ρ μ) fun ws μ1 => Ok (mkI x F ws μ1) P := by simp [dMake]
theorem ok_mkI {F : Fn} {ws : List W} : Ok (mkI x F ws μ) P = Ok (F (.r μ.length :: ws) (μ ++ [.o x []])) fun w μ2 => w = .d .none ∧ P (.r μ.length) (μ2.take (μ.length + 1)) := by
  unfold mkI
  cases F (.r μ.length :: ws) (μ ++ [.o x []]) with
  | ok w μ2 =>
    cases w with
    | d y => cases y <;> simp
    | r _ => simp
    | s _ => simp
  | exc _ _ => rfl
  | bad => rfl
end
end Mok09

set_option autoImplicit false
namespace Mok09
open PySem PySem.Spec PyProof.Rows L2
open PySem.SeqAt (EqAt RcLt)
open PySem.W (keyToks keyToksAll dataLt)
/-! ### sorted of tuples that begin with a text -/
mutual
theorem reads_uniq {h : Heap} : ∀ (d e : PyData) (v : Value) (as bs : List Addr), d.canLay0 = true → Reads h v d as → Reads h v e bs → d = e
  | .none, e, v, as, bs, _, r, r' => by
    cases r
    cases r'
    rfl
  | .bool b, e, v, as, bs, _, r, r' => by
    cases r
    cases r'
    rfl
  | .int i, e, v, as, bs, _, r, r' => by
    cases r
    cases r'
    rfl
  | .str x, e, v, as, bs, _, r, r' => by
    cases r
    cases r'
    rfl
  | .list xs, e, v, as, bs, s, r, r' => by
    cases r with
    | list h1 h2 h3 h4 =>
      cases r' with
      | tuple k1 k2 k3 k4 =>
        rw [h1] at k1
        cases k1
        rw [h2] at k2
        exact absurd (Value.type.inj k2) (by decide)
      | list k1 k2 k3 k4 =>
        rw [h1] at k1
        cases k1
        rw [h3] at k3
        cases k3
        rw [reads_uniqs xs _ _ _ _ (by simpa using s) h4 k4]
      | dict k1 k2 k3 k4 =>
        rw [h1] at k1
        cases k1
        rw [h2] at k2
        exact absurd (Value.type.inj k2) (by decide)
  | .tuple xs, e, v, as, bs, s, r, r' => by
    cases r with
    | tuple h1 h2 h3 h4 =>
      cases r' with
      | list k1 k2 k3 k4 =>
        rw [h1] at k1
        cases k1
        rw [h2] at k2
        exact absurd (Value.type.inj k2) (by decide)
      | tuple k1 k2 k3 k4 =>
        rw [h1] at k1
        cases k1
        rw [h3] at k3
        cases k3
        rw [reads_uniqs xs _ _ _ _ (by simpa using s) h4 k4]
      | dict k1 k2 k3 k4 =>
        rw [h1] at k1
        cases k1
        rw [h2] at k2
        exact absurd (Value.type.inj k2) (by decide)
  | .dict _, _, _, _, _, h, _, _ => by simp [PyData.canLay0] at h
theorem reads_uniqs {h : Heap} : ∀ (xs ys : List PyData) (vs : List Value) (as bs : List Addr), PyData.canLayAll0 xs = true → ReadsAll h vs xs as → ReadsAll h vs ys bs → xs = ys
  | [], _, _, _, _, _, r, r' => by
    cases r
    cases r'
    rfl
  | x :: xs, _, _, _, _, s, r, r' => by
    simp only [lay_cons, Bool.and_eq_true] at s
    cases r with
    | cons r1 r2 =>
      cases r' with
      | cons k1 k2 => rw [reads_uniq x _ _ _ _ s.1 r1 k1, reads_uniqs xs _ _ _ _ s.2 r2 k2]
end
/-- a tuple that begins with a text -/
def begins : PyData → Bool
  | .tuple (.str _ :: _) => true
  | _ => false
theorem begins_is {d : PyData} (h : begins d = true) : ∃ (x : Str) (r : List PyData), d = .tuple (.str x :: r) := by
  unfold begins at h
  split at h
  · exact ⟨_, _, rfl⟩
  · cases h
section
variable {prog : Program} {w : World} {A : Around} {E : Value → Shared → Prop} {s : Shared}
theorem kat_fst {fin k : Bool} {Q : Bool → Shared → Prop} (q : Q k s) : ∀ {l : List (Value × Value)} {i : Nat}, 1 ≤ i → Fst A s fin l k → PySem.W.KatLex prog w A true fin Q l i s := by
  intro l i hi hF
  induction hF generalizing i with
  | nil => exact q
  | same he hr ih =>
    refine he prog w _ _ ?_
    rw [if_pos rfl]
    exact ih q (by omega)
  | diff he hr =>
    refine he prog w _ _ ?_
    rw [if_neg (by decide)]
    have e : (true && i == 0) = false := by
      simp
      omega
    rw [e, oneLt'_eq]
    simp only [Bool.false_eq_true, if_false]
    exact wpAny_bind (hr prog w _ _ (wpAny_truthy_bool q))
theorem kat_two {a b : Value} {d e : PyData} {as bs : List Addr} (ra : Reads s.heap a d as) (rb : Reads s.heap b e bs) (h1 : begins d = true) (h2 : begins e = true) (c : cmpOk d e = true) (l1 : d.canLay0 = true) (l2 : e.canLay0 = true) (hu : A.units + min d.depth e.depth < cLine) :
    wpAny (model prog w) A (keyLt' (tuples' true) a b) (fun r s' => s' = s ∧ r = dataLt d e) (fun _ _ => False) s := by
  obtain ⟨x, r, rfl⟩ := begins_is h1
  obtain ⟨y, t, rfl⟩ := begins_is h2
  simp only [lay_tuple, lay_cons, Bool.and_eq_true] at l1 l2
  simp only [cmpOk, cmpOks] at c
  cases ra with
  | @tuple l o vs nn _ as₁ g1 g2 g3 g4 =>
    cases rb with
    | @tuple l' o' ws mm _ bs₁ k1 k2 k3 k4 =>
      obtain ⟨vl⟩ := vs
      obtain ⟨wl⟩ := ws
      refine PySem.W.kat_lt g1 g3 k1 k3 ?_
      simp only [PyData.depth] at hu
      have hu' : A.units + min (PyData.depthAll (.str x :: r)) (PyData.depthAll (.str y :: t)) < cLine := by omega
      cases g4 with
      | cons u1 u2 =>
        cases k4 with
        | cons v1 v2 =>
          have he := PySem.SeqAt.eqAt_reads (.str x) (.str y) A s _ _ _ _ u1 v1 l1.1 l2.1 (by simp only [PyData.depth]; omega)
          cases u1
          cases v1
          rw [PySem.W.dataLt_tuple]
          by_cases q : x = y
          · subst q
            rw [lt_same]
            have hs : same (.str x) (.str x) = true := by simp [same]
            rw [(same_refl (.str x) l1.1).2] at he
            rw [if_pos hs] at c
            refine he prog w _ _ ?_
            rw [if_pos rfl]
            refine kat_fst ⟨rfl, rfl⟩ (Nat.le_refl _) ?_
            have hf := rc_datas r t A s _ _ _ _ u2 v2 c l1.2 l2.2 (PySem.SeqAt.room_tail hu')
            have hd : ∀ {v w' : Value} {vs ws : List Value}, decide ((v :: vs).toArray.size < (w' :: ws).toArray.size) = decide (vs.length < ws.length) := fun {v w' vs ws} => by simp
            rw [hd]
            exact hf
          · have hn : same (.str x) (.str y) = false := by simp [same, q]
            rw [lt_diff rfl hn, PySem.W.dataLt_str]
            have hf : PyData.eqv (.str x) (.str y) = false := by simp [PyData.eqv, q]
            rw [hf] at he
            refine he prog w _ _ ?_
            rw [if_neg (by decide)]
            exact oneLt_str ⟨rfl, rfl⟩
theorem kat_words {h : Heap} : ∀ {vs : List Value}, (∀ v ∈ vs, ∃ d as, Reads h v d as ∧ begins d = true) → ∃ fs, PySem.W.KatTups h vs fs ∧ fs.length = vs.length ∧ ∀ f ∈ fs, ∃ x t, f = Value.str x t
  | [], _ => ⟨[], .nil, rfl, by simp⟩
  | v :: vs, g => by
    obtain ⟨fs, h1, h2, h3⟩ := kat_words fun u hu => g u (List.mem_cons_of_mem _ hu)
    obtain ⟨d, as, hr, hs⟩ := g v List.mem_cons_self
    obtain ⟨x, r, rfl⟩ := begins_is hs
    cases hr with
    | @tuple l o us nn _ as₁ g1 g2 g3 g4 =>
      obtain ⟨ul⟩ := us
      cases g4 with
      | cons u1 u2 =>
        cases u1
        refine ⟨_ :: fs, .cons g1 g2 g3 rfl h1, by simp [h2], fun f hf => ?_⟩
        rcases List.mem_cons.mp hf with rfl | hf
        · exact ⟨_, _, rfl⟩
        · exact h3 f hf
/-- what may be sorted: any two can be compared -/
structure Srt (ds : List PyData) : Prop where
  beg : ∀ d ∈ ds, begins d = true
  cmp : ∀ d ∈ ds, ∀ e ∈ ds, cmpOk d e = true
  lay : ∀ d ∈ ds, d.canLay0 = true ∧ d.depth ≤ 60
theorem sortable_any {ds : List PyData} {a : Addr} {h0 : Heap} {vs : List Value} {dec : Value → PyData} (S : Srt ds) (h2 : 2 ≤ vs.length) (hs : ∀ v ∈ vs, dec v ∈ ds ∧ ∃ as, Reads h0 v (dec v) as) (ha : ∀ b o, h0.get? b = some o → b ≠ a ∧ s.heap.get? b = some o) (hu : A.units + 60 < cLine) :
    SrtO.SortableO prog w A s a vs fun v u => dataLt (dec v) (dec u) := by
  intro h' keep
  have kk : ∀ b o, h0.get? b = some o → h'.get? b = some o := fun b o e => keep b o (ha b o e).1 (ha b o e).2
  have hs' : ∀ v ∈ vs, dec v ∈ ds ∧ ∃ as, Reads h' v (dec v) as := fun v hv => ⟨(hs v hv).1, let ⟨as, r⟩ := (hs v hv).2; ⟨as, PySem.W.reads_keeps kk r⟩⟩
  obtain ⟨fs, g1, g2, g3⟩ := kat_words (h := h') (vs := vs) fun v hv => let ⟨a, as, r⟩ := hs' v hv; ⟨_, as, r, S.beg _ a⟩
  refine ⟨tuples' true, fun Q E hq => ?_, fun p q hp hq => ?_⟩
  · refine PySem.W.kat_kind (T := .type "str") g1 (by omega) (fun f hm => ?_) (by rfl) ?_
    · obtain ⟨x, t, rfl⟩ := g3 f hm
      exact PySem.W.Looks.now
    · have e : (Value.type "str" != Value.type "tuple") = true := by first | decide +kernel | rfl | decide
      rw [e]
      exact hq
  · obtain ⟨s1, as, r1⟩ := hs' _ hp
    obtain ⟨s2, bs, r2⟩ := hs' _ hq
    have hd := (S.lay _ s1).2
    exact kat_two (s := { s with heap := h' }) r1 r2 (S.beg _ s1) (S.beg _ s2) (S.cmp _ s1 _ s2) (S.lay _ s1).1 (S.lay _ s2).1 (by omega)
end
theorem vals_at {us : List V} {its : List Value} (r : Vals us its) {i : Nat} {v : Value} (h : its[i]? = some v) : ∃ u, us[i]? = some u ∧ RelV u v := by
  have hl := r.length
  cases e : us[i]? with
  | none =>
    have := r.none_of e
    rw [this] at h
    cases h
  | some u =>
    obtain ⟨v', h1, h2⟩ := r.get e
    rw [h] at h1
    cases h1
    exact ⟨u, rfl, h2⟩
theorem dvAll_map {K : PySem.W.Frag} {L : Addr → Prop} {H : Hp} {dec : Value → PyData} : ∀ {out : List Value}, (∀ v ∈ out, Dv K L H (backV v) (dec v)) → DvAll K L H (out.map backV) (out.map dec)
  | [], _ => .nil
  | v :: vs, h => .cons (h v List.mem_cons_self) (dvAll_map fun u hu => h u (List.mem_cons_of_mem _ hu))
/-- there is just one such row -/
theorem perm_sorted : ∀ {l m : List PyData}, l.Perm m → l.Pairwise (fun x y => dataLt y x = false) → m.Pairwise (fun x y => dataLt y x = false) → (∀ d ∈ l, ∀ e ∈ l, cmpOk d e = true) → l = m
  | [], m, p, _, _, _ => (List.Perm.eq_nil p.symm).symm
  | x :: l, [], p, _, _, _ => absurd p.length_eq (by simp)
  | x :: l, y :: m, p, hl, hm, hs => by
    have e : x = y := by
      rcases List.mem_cons.mp (p.mem_iff.mp (List.mem_cons_self (a := x) (l := l))) with e | hx
      · exact e
      · rcases List.mem_cons.mp (p.mem_iff.mpr (List.mem_cons_self (a := y) (l := m))) with e | hy
        · exact e.symm
        · have h1 := (List.pairwise_cons.mp hm).1 x hx
          have h2 := (List.pairwise_cons.mp hl).1 y hy
          exact same_eq _ _ (lt_total (hs x List.mem_cons_self y (List.mem_cons_of_mem _ hy)) h1 h2)
    subst e
    rw [perm_sorted (List.Perm.cons_inv p) (List.pairwise_cons.mp hl).2 (List.pairwise_cons.mp hm).2 fun d hd e he => hs d (List.mem_cons_of_mem _ hd) e (List.mem_cons_of_mem _ he)]
/-- in their order -/
def sortD (xs : List PyData) : List PyData := xs.mergeSort fun x y => !dataLt y x
theorem sortD_perm (xs : List PyData) : (sortD xs).Perm xs := List.mergeSort_perm _ _
theorem sortD_pw (xs : List PyData) : (sortD xs).Pairwise (fun x y => dataLt y x = false) := by
  have := List.pairwise_mergeSort (le := fun x y => !dataLt y x) (fun a b c h1 h2 => by
    simp only [Bool.not_eq_true'] at h1 h2 ⊢
    exact lt_tr _ _ _ h1 h2) (fun a b => by
    rcases SrtO.bcase (dataLt b a) with h | h
    · rw [lt_asym _ _ h]; simp
    · rw [h]; simp) xs
  exact this.imp fun h => by simpa using h
theorem sortD_eq {xs ys : List PyData} (p : ys.Perm xs) (h : ys.Pairwise (fun x y => dataLt y x = false)) (c : ∀ d ∈ xs, ∀ e ∈ xs, cmpOk d e = true) : ys = sortD xs :=
  perm_sorted (p.trans (sortD_perm xs).symm) h (sortD_pw xs) fun d hd e he => c d (p.mem_iff.mp hd) e (p.mem_iff.mp he)
open Classical in
noncomputable def opSorted (own : Bool) : Op
  | [w], μ => match w with
    | .d (.tuple _) => none
    | w => match seqV w μ with
      | some xs => if Srt xs then mkL own (sortD xs) μ else none
      | none => none
  | _, _ => none
section
variable {X : Cx}
theorem sorted_op (hu : X.A.units + 66 < cLine) {own : Bool} : CallO X (.builtin "sorted") (opSorted own) := by
  intro pins s σ H xs us0 Q I r h
  obtain ⟨m, μ, ws, rr, hh, g⟩ := h
  unfold opSorted at g
  split at g
  · rename_i w
    obtain ⟨v0, rfl⟩ : ∃ v, xs = [v] := by
      cases rr with
      | cons _ t => cases t; exact ⟨_, rfl⟩
    have r1 : RV X.K m H w v0 := by
      cases rr with
      | cons h t => exact h
    split at g
    · exact g.elim
    · rename_i hno
      split at g
      · rename_i ds e
        split at g
        · rename_i S
          obtain ⟨a, us, rfl, hq, hd⟩ := seq_list r1 hh e fun ys z => hno ys z
          obtain ⟨u, rfl, ru⟩ := vals1 r
          cases ru
          obtain ⟨its, rv, pl, hz⟩ := I.list hq
          have hlen := rv.length
          have hld := hd.len
          rw [hlen] at hz
          have key : ∀ v ∈ its, ∃ d ∈ ds, (∃ as, Reads s.heap v d as) ∧ Dv X.K (Live m) H (backV v) d ∧ ∃ t, v = .ref t := fun v hv => by
            obtain ⟨i, hi⟩ := List.getElem?_of_mem hv
            obtain ⟨u, h1, h2⟩ := vals_at rv hi
            obtain ⟨d, h3, h4⟩ := hd.get' h1
            have hm := List.mem_of_getElem? h3
            obtain ⟨t, rfl⟩ : ∃ t, u = .ref t := by
              obtain ⟨x, r, rfl⟩ := begins_is (S.beg d hm)
              cases h4
              exact ⟨_, rfl⟩
            cases h2
            exact ⟨d, hm, Dp.reads I _ _ _ (h4.dp (S.lay d hm).1) rfl, h4, t, rfl⟩
          obtain ⟨dec, hdec⟩ : ∃ dec : Value → PyData, ∀ v ∈ its, dec v ∈ ds ∧ (∃ as, Reads s.heap v (dec v) as) ∧ Dv X.K (Live m) H (backV v) (dec v) := by
            refine ⟨fun v => @Classical.epsilon PyData ⟨.none⟩ fun d => d ∈ ds ∧ (∃ as, Reads s.heap v d as) ∧ Dv X.K (Live m) H (backV v) d, fun v hv => ?_⟩
            obtain ⟨d, h1, h2, h3, _⟩ := key v hv
            exact @Classical.epsilon_spec PyData (fun d => d ∈ ds ∧ (∃ as, Reads s.heap v d as) ∧ Dv X.K (Live m) H (backV v) d) ⟨d, h1, h2, h3⟩
          have hsame : its.map dec = ds := by
            refine List.ext_getElem? fun i => ?_
            rw [List.getElem?_map]
            cases e : its[i]? with
            | none =>
              have h1 := List.getElem?_eq_none_iff.mp e
              exact (List.getElem?_eq_none_iff.mpr (by omega)).symm
            | some v =>
              obtain ⟨u, h1, h2⟩ := vals_at rv e
              obtain ⟨d, h3, h4⟩ := hd.get' h1
              obtain ⟨as, r1⟩ := Dp.reads I _ _ _ (h4.dp (S.lay d (List.mem_of_getElem? h3)).1) h2
              obtain ⟨h5, ⟨bs, r2⟩, _⟩ := hdec v (List.mem_of_getElem? e)
              rw [h3]
              exact congrArg some (reads_uniq _ _ _ _ _ (S.lay _ h5).1 r2 r1)
          have O : SrtO.Swo fun v u : Value => dataLt (dec v) (dec u) := ⟨fun x y h => lt_asym _ _ h, fun x y z h1 h2 => lt_tr _ _ _ h1 h2⟩
          refine SrtO.sorted_ord O pl.isList hz (fun h2 h₁ b hb kk => ?_) fun out hs hb => ?_
          · refine sortable_any (s := { s with heap := h₁ }) (h0 := s.heap) S h2 (fun v hv => ⟨(hdec v hv).1, (hdec v hv).2.1⟩) kk ?_
            show X.A.units + 1 + 1 + 60 < cLine
            omega
          · have hm : ∀ v ∈ out, v ∈ its := fun v hv => hb.perm.mem_iff.mp hv
            have h3 : ∀ v ∈ out, ∃ t, v = .ref t := fun v hv => let ⟨_, _, _, _, t⟩ := key v (hm v hv); t
            obtain ⟨e, hat⟩ := sortedAll_at s.heap its (List.toArray out)
            have hsort : out.map dec = sortD ds := sortD_eq (by rw [← hsame]; exact hb.perm.map dec) (List.pairwise_map.mpr hs) S.cmp
            have hdv : DvAll X.K (Live m) H (out.map backV) (sortD ds) := by
              rw [← hsort]
              exact dvAll_map fun v hv => (hdec v (hm v hv)).2.2
            refine ⟨.ref (s.heap.objs.size + 1), upd H (s.heap.objs.size + 1) (.lst (out.map backV)), I.laid (t' := s.toks) (fun b o e => sortedAll_old e) (Nat.le_succ _) ?_, rfl, (lst_new hh hdv g (I.hok.fresh (Nat.le_succ _))).2⟩
            exact ⟨by rw [List.length_map, hb.perm.length_eq]; exact hz, out, e, vals_back h3, hat⟩
        · exact g.elim
      · exact g.elim
  · exact g.elim
end
end Mok09

set_option autoImplicit false
namespace Mok09
open PySem PySem.Spec PyProof.Rows L2
/-! ### isinstance of one built-in type -/
/-- its type's name; empty: none of ours -/
def tyN : W → Mem → String
  | .d .none, _ => "NoneType"
  | .d (.bool _), _ => "bool"
  | .d (.int _), _ => "int"
  | .d (.str _), _ => "str"
  | .d (.list _), _ => "list"
  | .d (.tuple _), _ => "tuple"
  | .d (.dict _), _ => ""
  | .r n, μ => match μ[n]? with
    | some (.l _) => "list"
    | some (.k _) => "dict"
    | _ => ""
  | .s _, _ => ""
theorem tyN_ok {K : PySem.W.Frag} {m : Ms} {H : Hp} {μ : Mem} {w : W} {v : V} (r : RV K m H w v) (hh : RH K m H μ) (n : tyN w μ ≠ "") : TyX K H v (.type (tyN w μ)) := by
  cases w with
  | d x =>
    cases r with
    | non => exact .base .non
    | bl b => exact .base (.bl b)
    | int i => exact .base (.int i)
    | str x => exact .base (.str x)
    | lst hs _ => exact .base (.lst hs.1)
    | tup hs _ =>
      rcases hs with ⟨o, h, _⟩ | ⟨o, its, n, h1, h2, _⟩
      · exact .fTuple h
      · exact .kTuple h1 h2
    | dK _ _ _ => exact (n rfl).elim
  | r k =>
    cases e : μ[k]? with
    | none => simp [tyN, e] at n
    | some o =>
      cases o with
      | dead => simp [tyN, e] at n
      | o x fs => simp [tyN, e] at n
      | q x gs => simp [tyN, e] at n
      | l xs =>
        obtain ⟨a, vs, h1, rfl, h2, h3⟩ := lst_at r hh e
        simp only [tyN, e]
        exact .base (.lst h2)
      | k kvs =>
        obtain ⟨l, a, h1, h2, rfl, a', h4, us, h5, h6⟩ := ref_at r hh e (by intro z; cases z)
        cases h4
        cases h2
        simp only [tyN, e]
        exact .base (.dK h5)
  | s ns => exact (n rfl).elim
def opIsi (T : String) : Op
  | [w], μ => if tyN w μ = "" then none else match kitB (tyN w μ) T with
    | some b => some (.d (.bool b), μ)
    | none => none
  | _, _ => none
section
variable {X : Cx} {ct : Ct} {Z : WX}
theorem mIsi {e : Expr} {x : Str} {T : String} {p p2 pos : Pos} {da : DE} (ha : ME X ct Z e da) (hm : X.mg "isinstance" = none) (hx : X.mg x = none) (hg : Gl X "isinstance" := by rfl) (hgx : Gl X x := by rfl) (hv : bootBuiltins x = some (.type T) := by decide +kernel)
    (hn : x ≠ "__name__" := by decide) (hdb : (x == ("__debug__" : Str)) = false := by decide) (he : starEach [e, .Name x p2] X.env = [(false, eval e X.env), (false, eval (.Name x p2) X.env)] := by rfl) (he2 : starEach [.Name x p2] X.env = [(false, eval (.Name x p2) X.env)] := by rfl)
    (hpl : (backTo pos (starEach [.Name x p2] X.env)).any (·.1) = false := by rfl) : ME X ct Z (.Call (.Name "isinstance" p) [e, .Name x p2] [] pos) (dP1 (opIsi T) da) := by
  have hN : PE X (.Name x p2) (tC (.ty T)) := pe_bltn hgx hx hv rfl hn hdb
  refine ⟨pe_imp (pe_callB call_isi hg hm (by decide +kernel) (pa_cons ha.pe (pa_cons hN pa_nil he2) he) (by decide) (by decide) he hpl) fun σ H Q h => ?_⟩
  obtain ⟨m, ρ, μ, hρ, hh, g⟩ := h
  refine ⟨m, ρ, μ, hρ, hh, (Gd.bnd g).mono fun w μ1 m1 H1 e1 h1 g1 v r1 => ?_⟩
  unfold opIsi at g1
  dsimp only at g1
  split at g1
  · exact g1.elim
  · rename_i hn
    split at g1
    · rename_i b hb
      exact ⟨v, .ty T, _, .type T, b, rfl, .ty _, tyN_ok r1 h1 hn, kit_ty hb, g1 m1 H1 (.refl _ _) h1 _ (.bl _)⟩
    · exact g1.elim
end
/-! ### all, any of truths -/
def boolsD : List PyData → Option (List Bool)
  | [] => some []
  | .bool b :: r => (boolsD r).map (b :: ·)
  | _ :: _ => none
@[simp] theorem boolsD_map : ∀ bs : List Bool, boolsD (bs.map .bool) = some bs
  | [] => rfl
  | b :: bs => by simp [boolsD, boolsD_map bs]
theorem bools_all {K : PySem.W.Frag} {L : Addr → Prop} {H : Hp} : ∀ {vs : List V} {xs : List PyData} {bs : List Bool}, DvAll K L H vs xs → boolsD xs = some bs → vs = bs.map V.bl
  | _, [], bs, h, e => by cases h; cases e; rfl
  | _, x :: xs, bs, h, e => by
    cases h with
    | cons a b =>
      cases x with
      | bool c =>
        simp only [boolsD, Option.map_eq_some_iff] at e
        obtain ⟨cs, h1, rfl⟩ := e
        cases a
        rw [bools_all b h1]
        rfl
      | _ => cases e
def opBools (f : List Bool → Bool) : Op
  | [w], μ => match w with
    | .d (.tuple _) => none
    | w => match listV w μ with
      | some xs => match boolsD xs with
        | some bs => pB (f bs) μ
        | none => none
      | none => none
  | _, _ => none
def opAll : Op := opBools fun bs => bs.all id
def opAny : Op := opBools fun bs => bs.any id
section
variable {X : Cx} {ct : Ct} {Z : WX}
theorem bools_op {id : String} {f : List Bool → Bool} (hc : CallR X (.builtin id) (fun vs H Q => ∃ (a : Addr) (bs : List Bool), vs = [V.ref a] ∧ SqL X.K H a (bs.map V.bl) ∧ Q (.bl (f bs)) H)) : CallO X (.builtin id) (opBools f) := by
  intro pins s σ H xs us Q I r h
  obtain ⟨m, μ, ws, rr, hh, g⟩ := h
  unfold opBools at g
  split at g
  · rename_i w
    cases rr with
    | cons r1 t =>
      cases t
      split at g
      · exact g.elim
      · split at g
        · rename_i ys e
          split at g
          · rename_i bs eb
            obtain ⟨a, vs, rfl, h1, h2⟩ := listV_ok r1 hh e
            have := bools_all h2 eb
            subst this
            exact hc pins s σ H _ us Q I r ⟨a, bs, rfl, .inl (.inl h1), g.now hh (.bl _)⟩
          · exact g.elim
        · exact g.elim
  · exact g.elim
theorem all_op (hc : X.calm = true) : CallO X (.builtin "all") opAll := bools_op (cr_all hc)
/-! ### texts compared -/
def opCmpS (f : Str → Str → Bool) : Op
  | [.d (.str x), .d (.str y)], μ => pB (f x y) μ
  | _, _ => none
theorem op2_cmpS {op : CmpOp} {f : Str → Str → Bool} (ho : OpR X (compareOp op) (fun x y H Q => ∃ i j, x = .str i ∧ y = .str j ∧ Q (.bl (f i j)) H)) : Op2R X (compareOp op) (opCmpS f) := by
  intro pins s σ H x y v u Q I rx ry h
  obtain ⟨m, μ, ws, r, hh, g⟩ := h
  obtain ⟨a, b, rfl, r1, r2⟩ := two r
  unfold opCmpS at g
  split at g
  · rename_i i j e
    simp only [List.cons.injEq, and_true] at e
    obtain ⟨rfl, rfl⟩ := e
    cases r1
    cases r2
    exact ho pins s σ H _ _ v u Q I rx ry ⟨_, _, rfl, rfl, g.now hh (.bl _)⟩
  · exact g.elim
def opLeT : Op := orO opLe (opCmpS fun i j => !decide (j.cps.toList < i.cps.toList))
def opGtT : Op := orO opGt (opCmpS fun i j => decide (j.cps.toList < i.cps.toList))
def opGeT : Op := orO opGe (opCmpS fun i j => !decide (i.cps.toList < j.cps.toList))
theorem op2_leT : Op2R X (compareOp .LtE) opLeT := Op2R.or op2_le (op2_cmpS op_le_str)
/-! ### the signs of a text, one by one -/
def signs (x : Str) : List PyData := x.cps.toList.map fun c => .str ⟨#[c]⟩
@[simp] theorem signs_len (x : Str) : (signs x).length = x.length := by simp [signs, Str.length]
def iVs : W → Mem → Res Src
  | .d (.str x), μ => .ok (signs x, none) μ
  | _, _ => .bad
theorem srv_str {K : PySem.W.Frag} {x : Str} {m : Ms} {H : Hp} : Srv K (Its x) m H (signs x, none) where
  stop := fun m' H' μ e hh _ => by
    show x.cps.size ≤ (signs x).length
    rw [signs_len]
    exact Nat.le_refl _
  go := fun i m' H' μ hi e hh _ => by
    have h : i < (signs x).length := hi
    rw [signs_len] at h
    exact h
  yld := fun i m' H' μ y H2 e hh _ hi hy => by
    obtain ⟨rfl, c, hc, rfl⟩ := hy
    refine ⟨.str ⟨#[c]⟩, ?_, .str _, .refl _ _, hh⟩
    show (signs x)[i]? = _
    unfold signs
    rw [List.getElem?_map, Array.getElem?_toList, hc]
    rfl
theorem miVs {tg e : Expr} {d : DE} (h : ME X ct Z e d) : MI X ct Z tg e (dI iVs d) := by
  refine ⟨pi_imp (pi_str h.pe) fun σ H R q => ?_⟩
  obtain ⟨m, ρ, μ, he, hh, g⟩ := q
  refine ⟨m, ρ, μ, he, hh, (Gd.bnd g).mono fun w μ1 m1 H1 e1 h1 g1 v r1 => ?_⟩
  unfold iVs at g1
  split at g1
  · cases r1
    exact ⟨_, rfl, g1 m1 H1 (.refl _ _) h1 _ srv_str⟩
  · exact g1.elim
/-! ### texts joined -/
def strsD : List PyData → Option (List Str)
  | [] => some []
  | .str b :: r => (strsD r).map (b :: ·)
  | _ :: _ => none
@[simp] theorem strsD_map : ∀ bs : List Str, strsD (bs.map .str) = some bs
  | [] => rfl
  | b :: bs => by simp [strsD, strsD_map bs]
def joinOk (a : Str) (ys : List Str) : Bool := decide ((ys.map (·.length)).sum + ys.length * a.length ≤ 16777216)
def opJoin : Op
  | [.d (.str a), w], μ => match viewL w μ with
    | some xs => match strsD xs with
      | some ys => if joinOk a ys = true then some (.d (.str (Txt.join a ys)), μ) else none
      | none => none
    | none => none
  | _, _ => none
/-! ### a[i], b[j] = x, y -/
/-- one store at a time, from the left -/
def sSwap (dv : DE) (d1 i1 d2 i2 : DE) : DS := fun ρ μ => nxt ρ (fun _ => ρ) (bnd (dv ρ μ) fun v μ1 => match v with
  | .d (.tuple [x, y]) => bnd (d1 ρ μ1) fun o μ2 => bnd (i1 ρ μ2) fun i μ3 => bnd (okM (stW o i (.d x) μ3)) fun _ μ4 => bnd (d2 ρ μ4) fun o μ5 => bnd (i2 ρ μ5) fun i μ6 => okM (stW o i (.d y) μ6)
  | _ => .bad)
end
end Mok09

set_option autoImplicit false
namespace Mok09
open PySem PySem.Spec PyProof.Rows L2
/-! ### t[::-1] of a tuple -/
section
variable {prog : Program} {w : World} {A : Around} {E : Value → Shared → Prop} {s : Shared}
end
def opRev : Op
  | [.d (.tuple xs)], μ => mkT xs.reverse μ
  | _, _ => none
section
variable {X : Cx} {ct : Ct} {Z : WX}
end
/-! ### what these come to -/
section
variable {ρ : Env} {μ : Mem} {Pw : W → Mem → Prop} {N B C : Env → Mem → Prop} {R : W → Mem → Prop}
theorem okO_isi {T : String} {w : W} {b : Bool} (hn : tyN w μ ≠ "") (h : kitB (tyN w μ) T = some b) : OkO (opIsi T [w] μ) Pw = Pw (.d (.bool b)) μ := by
  simp [opIsi, hn, h]
@[simp] theorem okO_rev {xs : List PyData} : OkO (opRev [.d (.tuple xs)] μ) Pw = (xs.length ≤ sizeLine ∧ Pw (.d (.tuple xs.reverse)) μ) := by
  simp only [opRev, mkT, sz, decide_eq_true_eq, List.length_reverse]
  split <;> simp [*]
theorem okO_all {xs : List PyData} {bs : List Bool} (h : boolsD xs = some bs) : OkO (opAll [.d (.list xs)] μ) Pw = Pw (.d (.bool (bs.all id))) μ := by
  simp [opAll, opBools, h, pB]
@[simp] theorem okO_leTi {i j : Int} : OkO (opLeT [.d (.int i), .d (.int j)] μ) Pw = Pw (.d (.bool (decide (i ≤ j)))) μ := rfl
@[simp] theorem okO_leTs {i j : Str} : OkO (opLeT [.d (.str i), .d (.str j)] μ) Pw = Pw (.d (.bool (!decide (j.cps.toList < i.cps.toList)))) μ := rfl
@[simp] theorem ok_iVs {x : Str} {Ps : Src → Mem → Prop} : Ok (iVs (.d (.str x)) μ) Ps = Ps (signs x, none) μ := rfl
end
section
open PySem.W
theorem kb_str_n : kitB "NoneType" "str" = some false := by decide +kernel
theorem kb_str_b : kitB "bool" "str" = some false := by decide +kernel
theorem kb_str_i : kitB "int" "str" = some false := by decide +kernel
theorem kb_str_s : kitB "str" "str" = some true := by decide +kernel
theorem kb_str_l : kitB "list" "str" = some false := by decide +kernel
theorem kb_str_t : kitB "tuple" "str" = some false := by decide +kernel
theorem kb_tup_n : kitB "NoneType" "tuple" = some false := by decide +kernel
theorem kb_tup_b : kitB "bool" "tuple" = some false := by decide +kernel
theorem kb_tup_i : kitB "int" "tuple" = some false := by decide +kernel
theorem kb_tup_s : kitB "str" "tuple" = some false := by decide +kernel
theorem kb_tup_l : kitB "list" "tuple" = some false := by decide +kernel
theorem kb_tup_t : kitB "tuple" "tuple" = some true := by decide +kernel
end
/-- a text? a tuple? -/
def isS : PyData → Bool
  | .str _ => true
  | _ => false
def isT : PyData → Bool
  | .tuple _ => true
  | _ => false
theorem isi_str {d : PyData} {μ : Mem} {Pw : W → Mem → Prop} (h : d.canLay0 = true) : OkO (opIsi "str" [.d d] μ) Pw = Pw (.d (.bool (isS d))) μ := by
  cases d with
  | none => exact okO_isi (by simp [tyN]) kb_str_n
  | bool b => exact okO_isi (by simp [tyN]) kb_str_b
  | int b => exact okO_isi (by simp [tyN]) kb_str_i
  | str b => exact okO_isi (by simp [tyN]) kb_str_s
  | list b => exact okO_isi (by simp [tyN]) kb_str_l
  | tuple b => exact okO_isi (by simp [tyN]) kb_str_t
  | dict _ => simp [PyData.canLay0] at h
theorem isi_tup {d : PyData} {μ : Mem} {Pw : W → Mem → Prop} (h : d.canLay0 = true) : OkO (opIsi "tuple" [.d d] μ) Pw = Pw (.d (.bool (isT d))) μ := by
  cases d with
  | none => exact okO_isi (by simp [tyN]) kb_tup_n
  | bool b => exact okO_isi (by simp [tyN]) kb_tup_b
  | int b => exact okO_isi (by simp [tyN]) kb_tup_i
  | str b => exact okO_isi (by simp [tyN]) kb_tup_s
  | list b => exact okO_isi (by simp [tyN]) kb_tup_l
  | tuple b => exact okO_isi (by simp [tyN]) kb_tup_t
  | dict _ => simp [PyData.canLay0] at h
end Mok09

set_option autoImplicit false
namespace Mok09
open PySem PySem.Spec PyProof.Rows L2
/-! ### for i, x in enumerate(a list) -/
def Itf (K : PySem.W.Frag) (a : Addr) : It :=
  ⟨fun i H => ∃ (xs : List V) (x : V), SqL K H a xs ∧ xs[i]? = some x, fun i H v H' => ∃ T x o, v = .ref T ∧ H T = none ∧ o.dict = none ∧ H' = upd H T (.frz o (.tup [.int (i : Nat), x])) ∧ ∀ xs, SqL K H a xs → xs[i]? = some x, fun i H => ∃ xs : List V, SqL K H a xs ∧ xs.length ≤ i⟩
theorem turn_enumF {P : Program} {w : World} {K : PySem.W.Frag} {elts : List Expr} {kk : Nat} {tpos : Pos} (a e it : Addr) :
    Turn P w K (.Tuple elts kk tpos) (Itf K a) [e, it] e (fun i h => (∃ old, IsEnum h e it ((i : Nat) : Int) old) ∧ h.IsListIter it a i ∧ e ≠ it) where
  mem := by simp
  obj := fun i h st b hb => by
    obtain ⟨⟨old, he⟩, ⟨o, ho, hc, hd⟩, _⟩ := st
    have e' : b = e ∨ b = it := by simpa using hb
    rcases e' with z | z
    · rw [z]; exact ⟨_, he, fun v q => nomatch q⟩
    · rw [z]; exact ⟨o, ho, fun v q => by rw [hd] at q; cases q⟩
  keep := fun i h h' st k => let ⟨⟨old, he⟩, hi, hne⟩ := st; ⟨⟨old, k e (by simp) _ he⟩, hi.at fun o q => k it (by simp) o q, hne⟩
  item := by
    intro X hP hw hK hc i pins s σ H E I hf st hg
    subst hP hw hK
    obtain ⟨⟨old, he⟩, hit, hne⟩ := st
    obtain ⟨xs, x, hq, hx⟩ := hg
    obtain ⟨its, rv, p, hz⟩ := I.list hq
    obtain ⟨u, hu, ru⟩ := rv.get hx
    have hel : e < s.heap.objs.size := Heap.lt_size he
    have hil : it < s.heap.objs.size := by obtain ⟨_, q, _⟩ := hit; exact Heap.lt_size q
    refine wpAny_pyNext_enum_item he hit p.isList (x := u) (by simpa using hu) hne fun h' ho hit' hT hsz hk => ?_
    refine ⟨_, rfl, wpAny_letOwnedTupleGo_enum (s := { s with heap := h', toks := s.toks + 1 }) ho fun h'' he' sb => ?_⟩
    have hT2 : h''.get? s.heap.objs.size = some { cls := .type "tuple", data := .seq #[.int i s.toks, u] } := (sb.2 _ (Nat.ne_of_gt hel)).trans hT
    have new : ObjOk X.prog X.w (upd H s.heap.objs.size (.frz { cls := .type "tuple", data := .seq #[.int i s.toks, u] } (.tup [.int (i : Nat), x]))) h'' s.heap.objs.size (.frz { cls := .type "tuple", data := .seq #[.int i s.toks, u] } (.tup [.int (i : Nat), x])) :=
      ⟨hT2, by show 2 ≤ sizeLine; decide, [.int i s.toks, u], .cons ⟨_, rfl⟩ (.cons ru .nil), ⟨_, hT2, rfl, _, rfl⟩⟩
    have I1 : Inv X pins σ (upd H s.heap.objs.size (.frz { cls := .type "tuple", data := .seq #[.int i s.toks, u] } (.tup [.int (i : Nat), x]))) { s with heap := h'', toks := s.toks + 1 } :=
      I.turnedNew (ch := [e, it]) (fun b ob hb q => (sb.2 b (fun z => hb (by simp [z]))).trans (hk b ob (fun z => hb (by simp [z])) (fun z => hb (by simp [z])) q)) hf (Nat.le_refl _) new
    refine ⟨.ref s.heap.objs.size, _, I1, rfl, ⟨_, x, _, rfl, I.hok.fresh (Nat.le_refl _), rfl, rfl, fun ys hy => by rw [I.list_inj hy hq]; exact hx⟩, ⟨⟨u, ?_⟩, hit'.at fun o q => (sb.2 it (Ne.symm hne)).trans q, hne⟩, fun b hb => ?_⟩
    · have e1 : ((i + 1 : Nat) : Int) = (i : Int) + 1 := by omega
      rw [e1]; exact he'
    · have hb' : b < s.heap.objs.size := by
        have e' : b = e ∨ b = it := by simpa using hb
        rcases e' with z | z
        · rw [z]; exact hel
        · rw [z]; exact hil
      rw [upd_ne (Nat.ne_of_lt hb')]
      exact (hf b hb).1
  done := by
    intro X hP hw hK hc i pins s σ H E I hf st hg
    subst hP hw hK
    obtain ⟨⟨old, he⟩, hit, hne⟩ := st
    obtain ⟨xs, hq, hx⟩ := hg
    obtain ⟨its, rv, p, hz⟩ := I.list hq
    obtain ⟨f0, f1, f2, f3, f4, f5⟩ := hf it (by simp)
    have hl := rv.length
    exact wpAny_pyNext_enum_end (I.ok.hd hc) he hit p.isList (by simp; omega) fun h' eb => ⟨rfl, I.turned (t' := s.toks) (fun b o hb q => eb b o hb q) f0 f1 f3 f4 f5⟩
  self := fun A i s Q E st h => let ⟨⟨_, he⟩, _⟩ := st; wpAny_pyIter_enum he h
def iEnumF (K : PySem.W.Frag) (ta : TA) : TI := fun σ H R => ta σ H fun vs H1 => ∃ a xs, vs = [.ref a] ∧ SqL K H1 a xs ∧ R (Itf K a) H1
theorem pi_enumF {X : Cx} {e : Expr} {ta : TA} {p pos tpos : Pos} {elts : List Expr} {kk : Nat} (hg : Gl X "enumerate") (hm : X.mg "enumerate" = none) (ha : PA X [e] ta) (hs : starEach [e] X.env = [(false, eval e X.env)] := by rfl) :
    PI X (.Tuple elts kk tpos) (.Call (.Name "enumerate" p) [e] [] pos) (iEnumF X.K ta) := by
  refine ⟨fun pins s σ H R I h => ?_⟩
  refine Call_ (ld_blt I hg hm boot_enumerate (PyProof.Rows.callWith_type1 (thn (ha.run pos pins s σ H _ I h) fun us s1 ⟨vs, H1, I1, r1, q1⟩ => ?_) hs rfl))
  obtain ⟨a, xs, ex, hq, q⟩ := q1
  subst ex
  cases r1 with
  | cons r rr =>
    cases rr
    cases r
    obtain ⟨its, rv, p', hz⟩ := I1.list hq
    refine call_enumerate_list p'.isList fun h' he hit hsz hk => wpAny_pyIter_enum he ?_
    have I2 : Inv X pins σ H1 { s1 with heap := h' } := I1.kept (t' := s1.toks) hk
    refine ⟨s1.heap.objs.size + 1, [s1.heap.objs.size + 1, s1.heap.objs.size], _, _, H1, rfl, I2, turn_enumF a (s1.heap.objs.size + 1) s1.heap.objs.size, ⟨⟨.none, he⟩, hit, Nat.succ_ne_self _⟩, fun b hb => ?_, q⟩
    have e' : b = s1.heap.objs.size + 1 ∨ b = s1.heap.objs.size := by simpa using hb
    have hle : s1.heap.objs.size ≤ b := by
      rcases e' with z | z
      · rw [z]; exact Nat.le_add_right _ _
      · rw [z]; exact Nat.le_refl _
    exact I1.fpOk hle (I1.hok.fresh hle)
/-- each with its place -/
def numb (i : Nat) : List PyData → List PyData
  | [] => []
  | x :: r => .tuple [.int (i : Nat), x] :: numb (i + 1) r
theorem numb_len : ∀ (xs : List PyData) (i : Nat), (numb i xs).length = xs.length
  | [], _ => rfl
  | x :: r, i => by simp [numb, numb_len r]
theorem numb_at : ∀ (xs : List PyData) (k i : Nat) {x : PyData}, xs[i]? = some x → (numb k xs)[i]? = some (.tuple [.int ((k + i : Nat) : Int), x])
  | y :: xs, k, 0, x, h => by
    simp only [List.getElem?_cons_zero, Option.some.injEq] at h
    subst h
    simp [numb]
  | y :: xs, k, i + 1, x, h => by
    rw [numb, List.getElem?_cons_succ, numb_at xs (k + 1) i (by simpa using h)]
    rw [show k + 1 + i = k + (i + 1) by omega]
def iEn : List W → Mem → Res Src
  | [.d (.list xs)], μ => .ok (numb 0 xs, none) μ
  | _, _ => .bad
theorem srv_enum {K : PySem.W.Frag} {a : Addr} {m : Ms} {H : Hp} {us : List V} {xs : List PyData} (hq : LsV (Live m) H a us) (ha : DvAll K (Live m) H us xs) : Srv K (Itf K a) m H (numb 0 xs, none) where
  stop := fun m' H' μ e hh _ => ⟨us, (hq.stay e.ks).sq, by show us.length ≤ (numb 0 xs).length; rw [numb_len, ha.len]; exact Nat.le_refl _⟩
  go := fun i m' H' μ hi e hh _ => by
    have h : i < (numb 0 xs).length := hi
    rw [numb_len, ← ha.len] at h
    exact ⟨us, us[i], (hq.stay e.ks).sq, List.getElem?_eq_getElem _⟩
  yld := fun i m' H' μ x H2 e hh _ hi hy => by
    obtain ⟨T, y, o, rfl, hT, hd, rfl, h⟩ := hy
    obtain ⟨d, h1, h2⟩ := (ha.stay e.ks).get' (h us (hq.stay e.ks).sq)
    refine ⟨_, by simpa using numb_at xs 0 i h1, .tup (.new hd) ?_, .laid hT _, hh.laid hT _⟩
    exact .cons (.int _) (.cons (Dv.stay h2 (Ext.laid hT _).ks) .nil)
section
variable {X : Cx} {ct : Ct} {Z : WX}
theorem miEn {a : Expr} {p pos tpos : Pos} {elts : List Expr} {kk : Nat} {da : DA} (h : MA X ct Z [a] da) (hm : X.mg "enumerate" = none) (hg : Gl X "enumerate" := by rfl) (hs : starEach [a] X.env = [(false, eval a X.env)] := by rfl) : MI X ct Z (.Tuple elts kk tpos) (.Call (.Name "enumerate" p) [a] [] pos) (dIs iEn da) := by
  refine ⟨pi_imp (pi_enumF hg hm h.pa hs) fun σ H R q => ?_⟩
  obtain ⟨m, ρ, μ, he, hh, g⟩ := q
  refine ⟨m, ρ, μ, he, hh, (Gd.bnd g).mono fun ws μ1 m1 H1 e1 h1 g1 vs r1 => ?_⟩
  unfold iEn at g1
  split at g1
  · cases r1 with
    | cons a b =>
      cases b
      cases a with
      | lst hq ha => exact ⟨_, _, rfl, hq.sq, g1 m1 H1 (.refl _ _) h1 _ (srv_enum hq ha)⟩
  · exact g1.elim
/-! ### t.index(x) -/
def idxD (ds : List PyData) (x : PyData) : Option Nat := ds.findIdx? fun z => PyData.eqv z x
def opIndexT : Op
  | [.d (.tuple ds), .d x], μ => if (PyData.canLayAll0 ds && SeqAt.shaped x) = true then (match idxD ds x with
    | some j => pI (j : Nat) μ
    | none => none) else none
  | _, _ => none
theorem idx_some {ds : List PyData} {x : PyData} {j : Nat} (h : idxD ds x = some j) : ∃ z, ds[j]? = some z ∧ PyData.eqv z x = true ∧ ∀ (m : Nat) (z' : PyData), m < j → ds[m]? = some z' → PyData.eqv z' x = false := by
  unfold idxD at h
  rw [List.findIdx?_eq_some_iff_getElem] at h
  obtain ⟨h1, h2, h3⟩ := h
  refine ⟨ds[j], List.getElem?_eq_getElem h1, h2, fun m z' hm hz => ?_⟩
  have hlt := (List.getElem?_eq_some_iff.mp hz).1
  have e := (List.getElem?_eq_some_iff.mp hz).2
  have := h3 m hm
  rw [e] at this
  simpa using this
theorem index_opT (hu : X.A.units + 66 < cLine) : MtO X "tuple.index" opIndexT := by
  intro pins s σ H x xs v us Q I rx rs h
  obtain ⟨m, μ, ws, r, hh, g⟩ := h
  unfold opIndexT at g
  split at g
  · rename_i ds d
    split at g
    · rename_i hc
      rw [Bool.and_eq_true] at hc
      split at g
      · rename_i j hj
        obtain ⟨z, hz, hzj, hno⟩ := idx_some hj
        cases r with
        | cons r1 t =>
          cases t with
          | cons r2 t =>
            cases t
            cases r1 with
            | tup hs ha =>
              rename_i a xsv
              cases rx
              cases rs with
              | cons ry rt =>
                rename_i y uy ut
                cases rt
                have hxs := hc.1
                obtain ⟨bs, k1⟩ := Dp.reads I d _ uy (Dv.dp r2 (shaped_lay hc.2)) ry
                have hroom : X.A.units + 1 + min (PyData.depthAll ds) d.depth < cLine := by
                  have := shaped_dep hc.2
                  have := Nat.min_le_right (PyData.depthAll ds) d.depth
                  omega
                obtain ⟨its, rv, pl, hlen⟩ := I.tuple hs.sq
                obtain ⟨⟨cls, dd, data, sls⟩, ho, hcl, n, hdt⟩ := pl
                simp only at hcl hdt
                subst hcl hdt
                obtain ⟨as, h4⟩ := Dp.readsAll I ds _ its (DvAll.dp ha hxs) rv
                have hn : its.length = ds.length := SeqAt.ReadsAll.length ds its as h4
                have hmap : its.map (SeqAt.readOf s.heap) = ds := SeqAt.readsAll_map ds its as hxs h4
                obtain ⟨hjd, _⟩ := List.getElem?_eq_some_iff.mp hz
                have hjl : j < its.length := by omega
                have hjs : j < its.toArray.size := by simpa using hjl
                have at_ : ∀ (m : Nat) (hm : m < its.toArray.size) (z' : PyData), ds[m]? = some z' → SeqAt.readOf s.heap its.toArray[m] = z' := by
                  intro m hm z' hz'
                  have hml : m < its.length := by simpa using hm
                  rw [← hmap, List.getElem?_map, List.getElem?_eq_getElem hml] at hz'
                  have e1 : SeqAt.readOf s.heap its[m] = z' := Option.some.inj (show some (SeqAt.readOf s.heap its[m]) = some z' from hz')
                  simpa using e1
                refine call_meets PySem.F.slot_tuple_index ⟨_, ho, rfl⟩ PySem.F.entry_tuple_index (PySem.F.args_tuple_index_2 _ _)
                  (TI.tuple_indexAt a its.toArray n dd sls uy (fun u => PyData.eqv (SeqAt.readOf s.heap u) d) j hjs ?_ ?_) ⟨ho, SeqAt.items_eqAt (vs := its.toArray) (show ReadsAll s.heap its.toArray.toList ds as from h4) k1 hxs (shaped_lay hc.2) hroom, ?_⟩
                · show PyData.eqv (SeqAt.readOf s.heap its.toArray[j]) d = true
                  rw [at_ j hjs z hz]
                  exact hzj
                · intro m hm hmj
                  have hmd : m < ds.length := by
                    have : its.toArray.size = its.length := by simp
                    omega
                  have hz' : ds[m]? = some ds[m] := List.getElem?_eq_getElem hmd
                  show PyData.eqv (SeqAt.readOf s.heap its.toArray[m]) d = false
                  rw [at_ m hm _ hz']
                  exact hno m _ hmj hz'
                · exact ⟨.int (j : Nat), H, I.tok _, ⟨_, rfl⟩, g.now hh (.int _)⟩
      · exact g.elim
    · exact g.elim
  · exact g.elim
/-! ### the greater, the less of two numbers -/
def opMax : Op
  | [.d (.int i), .d (.int j)], μ => pI (if j > i then j else i) μ
  | _, _ => none
def opMin : Op
  | [.d (.int i), .d (.int j)], μ => pI (if j < i then j else i) μ
  | _, _ => none
end
/-! ### classes of the module -/
def MthAt (K : PySem.W.Frag) (x m qual : Str) (st : Stmt) (ps : List Str) : Prop := ∃ (C f : Addr) (fd : FuncData), PySem.W.nsIn K mainGlobals x = some (some (.ref C)) ∧ Cls K C ∧ Meth K C m f ∧ C8.Fun K m qual st f fd ∧ Binds K fd ps []
def IniAt (K : PySem.W.Frag) (mg : Str → Option Value) (x qual : Str) (st : Stmt) (ps : List Str) : Prop := ∃ (C f : Addr) (fd : FuncData), PySem.W.nsIn K mainGlobals x = some (some (.ref C)) ∧ mg x = some (.ref C) ∧ Mk K C f ∧ C8.Fun K "__init__" qual st f fd ∧ Binds K fd ps []
section
variable {P : Program} {w : World} {K : PySem.W.Frag} {mg : Str → Option Value} {base : Heap} {ct : Ct} {k : Nat} {x m qual : Str} {st : Stmt} {N ps : List Str} {body : DS}
theorem calM_bad (D : MthAt K x m qual st ps) : CalM P w K mg base ct k x m (fun _ _ => .bad) := by
  obtain ⟨C, f, fd, h1, h2, h3, _, h5⟩ := D
  exact ⟨C, f, fd, ps, h1, h2, h3, fnG_bad, h5⟩
theorem calM_of (np n : Nat) (D : MthAt K x m qual st ps) (S : FnScope N ps (C8.fnScope st)) (hnp : np = ps.length) (hn : n = N.length)
    (hb : ∀ (f : Addr) (cdv : Value) (A : Around) (outer : List PySem.Env) (s : Shared) (H : Hp) (E : XK), Room k (A.deeper (envOfC qual (C8.fnScope st) s.heap.objs.size f cdv)) → (A.deeper (envOfC qual (C8.fnScope st) s.heap.objs.size f cdv)).guards = some [] →
      MSs (cxOf (L2.CX P w) P w K mg base N qual (C8.fnScope st) f cdv A outer s H E) ct (fun c d _ H' => E c d H') (C8.fnBody st) body) : CalM P w K mg base ct (k + 1) x m (fnF np n body) := by
  subst hnp hn
  obtain ⟨C, f, fd, h1, h2, h3, h4, h5⟩ := D
  exact ⟨C, f, fd, ps, h1, h2, h3, fnG h4 S (hb f), h5⟩
theorem calI_of (np n : Nat) (D : IniAt K mg x qual st ps) (S : FnScope N ps (C8.fnScope st)) (hnp : np = ps.length) (hn : n = N.length)
    (hb : ∀ (f : Addr) (cdv : Value) (A : Around) (outer : List PySem.Env) (s : Shared) (H : Hp) (E : XK), Room k (A.deeper (envOfC qual (C8.fnScope st) s.heap.objs.size f cdv)) → (A.deeper (envOfC qual (C8.fnScope st) s.heap.objs.size f cdv)).guards = some [] →
      MSs (cxOf (L2.CX P w) P w K mg base N qual (C8.fnScope st) f cdv A outer s H E) ct (fun c d _ H' => E c d H') (C8.fnBody st) body) : CalI P w K mg base ct (k + 1) x (fnF np n body) := by
  subst hnp hn
  obtain ⟨C, f, fd, h1, h2, h3, h4, h5⟩ := D
  exact ⟨C, f, fd, ps, h1, h2, h3, fnG h4 S (hb f), h5⟩
theorem class_mk {h : Heap} {C : Addr} {names : List Str} (KX : K.In h) (G : h.Ns mainGlobals mg) (a : PySem.W.nsIn K mainGlobals x = some (some (.ref C))) (c : Cls K C) (n : ∀ f ∈ names, NoAttr K C f) : ClassAt K mg x names := ⟨C, a, PySem.W.mg_of KX G a, c, n⟩
theorem mth_mk {C f : Addr} {oc kV doc pm cdv ctv : Value} {od an : Option Addr} {osl : Array (Option Value)} (a : PySem.W.nsIn K mainGlobals x = some (some (.ref C))) (cl : Cls K C) (b : PySem.W.findIn K (.ref C) m = some (some (.ref f))) (i : PySem.W.isFn K (.ref f) = true)
    (l : K.lookup f = some ⟨oc, od, .func (PySem.W.fnOf m qual (C8.fnArgs st) (C8.fnBody st) (C8.fnScope st) .none kV doc pm an cdv ctv), osl⟩) (c : PySem.W.codeIn K cdv qual = true) (kp : PySem.W.keepIn K (.ref f) = true)
    (hb : ∀ (kV doc pm : Value) (an : Option Addr) (cdv ct : Value) (us : List Value), us.length = ps.length → bindArgs (PySem.W.fnOf m qual (C8.fnArgs st) (C8.fnBody st) (C8.fnScope st) .none kV doc pm an cdv ct) ⟨us, []⟩ = pure (ps.zip us)) : MthAt K x m qual st ps :=
  ⟨C, f, _, a, cl, ⟨b, i, kp⟩, ⟨oc, od, .none, kV, doc, pm, an, cdv, ctv, osl, rfl, l, c⟩, .all (hb kV doc pm an cdv ctv)⟩
theorem ini_mk {h : Heap} {C f : Addr} {oc kV doc pm cdv ctv : Value} {od an : Option Addr} {osl : Array (Option Value)} (KX : K.In h) (G : h.Ns mainGlobals mg) (a : PySem.W.nsIn K mainGlobals x = some (some (.ref C))) (mk : PySem.W.makesIn K C = true) (b : PySem.W.findIn K (.ref C) "__init__" = some (some (.ref f))) (i : PySem.W.isFn K (.ref f) = true)
    (l : K.lookup f = some ⟨oc, od, .func (PySem.W.fnOf "__init__" qual (C8.fnArgs st) (C8.fnBody st) (C8.fnScope st) .none kV doc pm an cdv ctv), osl⟩) (c : PySem.W.codeIn K cdv qual = true) (kp : PySem.W.keepIn K (.ref C) = true)
    (hb : ∀ (kV doc pm : Value) (an : Option Addr) (cdv ct : Value) (us : List Value), us.length = ps.length → bindArgs (PySem.W.fnOf "__init__" qual (C8.fnArgs st) (C8.fnBody st) (C8.fnScope st) .none kV doc pm an cdv ct) ⟨us, []⟩ = pure (ps.zip us)) : IniAt K mg x qual st ps :=
  ⟨C, f, _, a, PySem.W.mg_of KX G a, ⟨mk, b, i, kp⟩, ⟨oc, od, .none, kV, doc, pm, an, cdv, ctv, osl, rfl, l, c⟩, .all (hb kV doc pm an cdv ctv)⟩
end
end Mok09

set_option autoImplicit false
namespace Mok09
open PySem PySem.Spec PyProof.Rows L2
/-! ### loops and comprehensions, in general -/
theorem oks_whl {c : DT} {b : DS} {n : Nat} {ρ : Env} {μ : Mem} {N B C : Env → Mem → Prop} {R : W → Mem → Prop} : Oks (whl c b (n + 1) ρ μ) N R B C = Ok (c ρ μ) fun t μ1 => if t = true then Oks (b ρ μ1) (fun ρ2 μ2 => Oks (whl c b n ρ2 μ2) N R B C) R N (fun ρ2 μ2 => Oks (whl c b n ρ2 μ2) N R B C) else N ρ μ1 := by
  rw [whl]
  cases c ρ μ with
  | ok t μ1 =>
    cases t with
    | true =>
      simp only [ok_ok, if_true]
      cases b ρ μ1 <;> rfl
    | false => rfl
  | exc _ _ => rfl
  | bad => rfl
theorem Oks.mono {r : SR} {N N' B B' C C' : Env → Mem → Prop} {R R' : W → Mem → Prop} (h : Oks r N R B C) (n : ∀ ρ μ, N ρ μ → N' ρ μ) (q : ∀ w μ, R w μ → R' w μ) (b : ∀ ρ μ, B ρ μ → B' ρ μ) (c : ∀ ρ μ, C ρ μ → C' ρ μ) : Oks r N' R' B' C' := by
  cases r with
  | nx ρ μ => exact n _ _ h
  | rt w μ => exact q _ _ h
  | bk ρ μ => exact b _ _ h
  | ct ρ μ => exact c _ _ h
  | exc _ _ _ => exact h
  | bad => exact h
/-- a while with an invariant and a measure -/
theorem whl_inv {c : DT} {b : DS} {N B C : Env → Mem → Prop} {R : W → Mem → Prop} (I : Nat → Env → Mem → Prop)
    (hstep : ∀ k ρ μ, I k ρ μ → Ok (c ρ μ) fun t μ1 => if t = true then 0 < k ∧ Oks (b ρ μ1) (fun ρ2 μ2 => ∃ j, j < k ∧ I j ρ2 μ2) R N (fun ρ2 μ2 => ∃ j, j < k ∧ I j ρ2 μ2) else N ρ μ1) : ∀ (n k : Nat) (ρ : Env) (μ : Mem), k < n → I k ρ μ → Oks (whl c b n ρ μ) N R B C
  | 0, k, ρ, μ, h, _ => by omega
  | n + 1, k, ρ, μ, h, hI => by
    rw [oks_whl]
    refine (hstep k ρ μ hI).mono fun t μ1 ht => ?_
    split
    · rename_i e
      rw [if_pos e] at ht
      exact ht.2.mono (fun ρ2 μ2 ⟨j, h1, h2⟩ => whl_inv I hstep n j ρ2 μ2 (by omega) h2) (fun _ _ h => h) (fun _ _ h => h) (fun ρ2 μ2 ⟨j, h1, h2⟩ => whl_inv I hstep n j ρ2 μ2 (by omega) h2)
    · rename_i e
      rw [if_neg e] at ht
      exact ht
section
variable {ρ : Env} {μ : Mem} {N B C : Env → Mem → Prop} {R : W → Mem → Prop}
/-- a loop with an invariant, whatever it binds -/
theorem for_invG {xs : List PyData} {s : Src} {g : PyData → Env → Option Env} {b : DS} (I : List PyData → Env → Mem → Prop) (hs : s.1 = xs) (hl : ∀ done ρ μ, (∃ r, done ++ r = xs) → I done ρ μ → live s μ) (h0 : I [] ρ μ)
    (hstep : ∀ done x r ρ μ, done ++ x :: r = xs → I done ρ μ → ∃ ρ1, g x ρ = some ρ1 ∧ Oks (b ρ1 μ) (fun ρ μ => I (done ++ [x]) ρ μ) R N (fun ρ μ => I (done ++ [x]) ρ μ)) (hend : ∀ ρ μ, I xs ρ μ → N ρ μ) :
    Oks (forL s g b s.1 ρ μ) N R B C := by
  rw [hs]
  suffices main : ∀ (r done : List PyData) (ρ : Env) (μ : Mem), done ++ r = xs → I done ρ μ → Oks (forL s g b r ρ μ) N R B C from main xs [] ρ μ rfl h0
  intro r
  induction r with
  | nil =>
    intro done ρ μ e hI
    rw [forL, if_pos (hl _ _ _ ⟨[], e⟩ hI)]
    rw [List.append_nil] at e
    subst e
    exact hend _ _ hI
  | cons x r ih =>
    intro done ρ μ e hI
    rw [forL, if_pos (hl _ _ _ ⟨_, e⟩ hI)]
    obtain ⟨ρ1, e1, hs⟩ := hstep done x r ρ μ e hI
    rw [e1]
    dsimp only
    cases q : b ρ1 μ with
    | nx ρ2 μ2 => rw [q] at hs; exact ih _ _ _ (by rw [List.append_assoc]; exact e) hs
    | ct ρ2 μ2 => rw [q] at hs; exact ih _ _ _ (by rw [List.append_assoc]; exact e) hs
    | bk ρ2 μ2 => rw [q] at hs; exact hs
    | rt w μ2 => rw [q] at hs; exact hs
    | exc _ _ _ => rw [q] at hs; exact hs
    | bad => rw [q] at hs; exact hs
/-- a comprehension with an invariant, whatever it binds -/
theorem lc_invG {s : Src} {xs acc : List PyData} {g : PyData → Env → Option Env} {f : Env → List PyData → Mem → Res (List PyData)} {Pa : List PyData → Mem → Prop} (I : List PyData → List PyData → Mem → Prop) (hs : s.1 = xs) (hl : ∀ done acc μ, (∃ r, done ++ r = xs) → I done acc μ → live s μ) (h0 : I [] acc μ)
    (hstep : ∀ done x r acc μ, done ++ x :: r = xs → I done acc μ → ∃ ρ1, g x ρ = some ρ1 ∧ Ok (f ρ1 acc μ) fun acc1 μ1 => I (done ++ [x]) acc1 μ1) (hend : ∀ acc μ, I xs acc μ → Pa acc μ) : Ok (lcL s g f ρ s.1 acc μ) Pa := by
  rw [hs]
  suffices main : ∀ (r done acc : List PyData) (μ : Mem), done ++ r = xs → I done acc μ → Ok (lcL s g f ρ r acc μ) Pa from main xs [] acc μ rfl h0
  intro r
  induction r with
  | nil =>
    intro done acc μ e hI
    rw [lcL, if_pos (hl _ _ _ ⟨[], e⟩ hI)]
    rw [List.append_nil] at e
    subst e
    exact hend _ _ hI
  | cons x r ih =>
    intro done acc μ e hI
    rw [lcL, if_pos (hl _ _ _ ⟨_, e⟩ hI)]
    obtain ⟨ρ1, e1, hs⟩ := hstep done x r acc μ e hI
    rw [e1]
    dsimp only
    obtain ⟨a, μ1, q, h⟩ := hs.ex
    rw [q, bnd_ok]
    exact ih _ _ _ (by rw [List.append_assoc]; exact e) h
/-- of each thing that passes its picture: nothing else turns -/
theorem lc_pure {s : Src} {xs : List PyData} {g : PyData → Env → Option Env} {tt : DT} {te : DE} {Pa : List PyData → Mem → Prop} (p : PyData → Bool) (f : PyData → PyData) (hs : s.1 = xs) (hl : live s μ) (hz : xs.length ≤ sizeLine)
    (hstep : ∀ x ∈ xs, ∃ ρ1, g x ρ = some ρ1 ∧ Ok (tt ρ1 μ) fun b μ' => b = p x ∧ μ' = μ ∧ (b = true → Ok (te ρ1 μ) fun w μ' => w = .d (f x) ∧ μ' = μ)) (hend : Pa ((xs.filter p).map f) μ) : Ok (lcL s g (lcOne tt te) ρ s.1 [] μ) Pa := by
  refine lc_invG (xs := xs) (fun done acc μ' => acc = (done.filter p).map f ∧ μ' = μ) hs (fun _ _ _ _ h => h.2 ▸ hl) ⟨rfl, rfl⟩ (fun done x r acc μ' e h => ?_) fun acc μ' h => by rw [h.1, h.2]; exact hend
  obtain ⟨rfl, rfl⟩ := h
  obtain ⟨ρ1, e1, h1⟩ := hstep x (by rw [← e]; simp)
  refine ⟨ρ1, e1, ?_⟩
  rw [ok_lcOne]
  refine h1.mono fun b μ' ⟨h2, h3, h4⟩ => ?_
  subst h2 h3
  split
  · rename_i hp
    refine (h4 hp).mono fun w μ' h5 => ?_
    obtain ⟨rfl, rfl⟩ := h5
    have hd : done.length < xs.length := by rw [← e]; simp
    have hf := List.length_filter_le p done
    refine ⟨by rw [List.length_map]; omega, ?_, rfl⟩
    rw [List.filter_append, List.map_append]
    simp [hp]
  · rename_i hp
    refine ⟨?_, rfl⟩
    rw [List.filter_append, List.map_append]
    simp [hp]
/-- any(..), all(..), in: what stands in a row of truths -/
theorem gN_is {i : Nat} {x : PyData} : gN i x ρ = some (ρ.set i (some (.d x))) := rfl
@[simp] theorem gT2 {i j : Nat} {x y : PyData} : gT 2 (gCons' (gN i) (gCons' (gN j) gNil')) (.tuple [x, y]) ρ = some ((ρ.set i (some (.d x))).set j (some (.d y))) := rfl
@[simp] theorem gT3 {i j k : Nat} {x y z : PyData} : gT 3 (gCons' (gN i) (gCons' (gN j) (gCons' (gN k) gNil'))) (.tuple [x, y, z]) ρ = some (((ρ.set i (some (.d x))).set j (some (.d y))).set k (some (.d z))) := rfl
end
/-! ### operations on data -/
theorem snoc_of {α : Type} {l : List α} (h : l ≠ []) : ∃ r x, l = r ++ [x] := ⟨l.dropLast, l.getLast h, (List.dropLast_concat_getLast h).symm⟩
theorem le_million {n : Nat} (h : n ≤ 1000000) : n ≤ sizeLine := Nat.le_trans h (by decide)
section
variable {μ : Mem} {Pw : W → Mem → Prop}
theorem okO_pop {r : List PyData} {x : PyData} {n : Nat} (h : μ[n]? = some (.l (r ++ [x]))) : OkO (opPop [.r n] μ) Pw = Pw (.d x) (μ.set n (.l r)) := by
  simp [opPop, h]
theorem okO_ext {n : Nat} {xs ys : List PyData} (h : μ[n]? = some (.l xs)) (hz : xs.length + ys.length ≤ sizeLine) : OkO (opExtend [.r n, .d (.tuple ys)] μ) Pw = Pw (.d .none) (μ.set n (.l (xs ++ ys))) := by
  simp [opExtend, h, sz, hz]
theorem okO_extl {n : Nat} {xs ys : List PyData} (h : μ[n]? = some (.l xs)) (hz : xs.length + ys.length ≤ sizeLine) : OkO (opExtend [.r n, .d (.list ys)] μ) Pw = Pw (.d .none) (μ.set n (.l (xs ++ ys))) := by
  simp [opExtend, h, sz, hz]
theorem okO_isNone {d : PyData} : OkO (opIs false [.d d, .d .none] μ) Pw = Pw (.d (.bool (match d with
    | .none => true
    | _ => false))) μ := by
  cases d <;> simp [opIs, there, isN, pB]
theorem okO_notNone {d : PyData} : OkO (opIs true [.d d, .d .none] μ) Pw = Pw (.d (.bool (match d with
    | .none => false
    | _ => true))) μ := by
  cases d <;> simp [opIs, there, isN, pB]
@[simp] theorem okO_sll {lo hi : Option Int} {xs : List PyData} : OkO (slW false lo hi (.d (.list xs)) μ) Pw = ((cutD xs lo hi).length ≤ sizeLine ∧ Pw (.d (.list (cutD xs lo hi))) μ) := by
  simp only [slW, listV_l, mkL, sz, decide_eq_true_eq]
  split <;> simp [*]
@[simp] theorem okO_or {i j : Int} : OkO (opOr [.d (.int i), .d (.int j)] μ) Pw = Pw (.d (.int (Builtin.bitOr i j))) μ := rfl
@[simp] theorem okO_and {i j : Int} : OkO (opAnd [.d (.int i), .d (.int j)] μ) Pw = Pw (.d (.int (Builtin.bitAnd i j))) μ := rfl
@[simp] theorem okO_xor {i j : Int} : OkO (opXor [.d (.int i), .d (.int j)] μ) Pw = Pw (.d (.int (Builtin.bitXor i j))) μ := rfl
@[simp] theorem okO_shl {i j : Int} : OkO (opShl [.d (.int i), .d (.int j)] μ) Pw = (CShl i j ∧ Pw (.d (.int (i * 2 ^ j.toNat))) μ) := by
  unfold opShl
  dsimp only
  split <;> simp [*, pI]
@[simp] theorem okO_shr {i j : Int} : OkO (opShr [.d (.int i), .d (.int j)] μ) Pw = (0 ≤ j ∧ Pw (.d (.int (i / 2 ^ j.toNat))) μ) := by
  unfold opShr
  dsimp only
  split <;> simp [*, pI]
@[simp] theorem okO_neg {i : Int} : OkO (opNeg [.d (.int i)] μ) Pw = Pw (.d (.int (-i))) μ := rfl
@[simp] theorem ok_iEn {xs : List PyData} {Ps : Src → Mem → Prop} : Ok (iEn [.d (.list xs)] μ) Ps = Ps (numb 0 xs, none) μ := rfl
@[simp] theorem okO_max {i j : Int} : OkO (opMax [.d (.int i), .d (.int j)] μ) Pw = Pw (.d (.int (if j > i then j else i))) μ := rfl
@[simp] theorem okO_min {i j : Int} : OkO (opMin [.d (.int i), .d (.int j)] μ) Pw = Pw (.d (.int (if j < i then j else i))) μ := rfl
@[simp] theorem okO_lsl {xs : List PyData} : OkO (opLs false [.d (.list xs)] μ) Pw = (xs.length ≤ sizeLine ∧ Pw (.d (.list xs)) μ) := by
  simp only [opLs, opList, seqV_l, mkL, sz, decide_eq_true_eq]
  split <;> simp [*]
@[simp] theorem okO_lst {xs : List PyData} : OkO (opLs false [.d (.tuple xs)] μ) Pw = (xs.length ≤ sizeLine ∧ Pw (.d (.list xs)) μ) := by
  simp only [opLs, opList, seqV_t, mkL, sz, decide_eq_true_eq]
  split <;> simp [*]
end
theorem ds_app (l m : List Sg) : Sg.ds (l ++ m) = Sg.ds l ++ Sg.ds m := by simp [ds_map]
theorem pure_ex {F : Fn} {ws : List W} {xs : List PyData} {P : PyData → Prop} (hd : datas ws = some xs) (h : Ok (F ws []) fun w _ => ∃ y, w = .d y ∧ P y) : ∃ y, P y ∧ ∀ μ, callF F ws μ = .ok (.d y) μ := by
  obtain ⟨w, μ', e, y, rfl, hp⟩ := h.ex
  refine ⟨y, hp, fun μ => ?_⟩
  unfold callF
  rw [hd, e]
theorem atI_nat {xs : List PyData} {i : Nat} {x : PyData} (h : xs[i]? = some x) : atI xs (i : Int) = some x := by
  have hl := (List.getElem?_eq_some_iff.mp h).1
  unfold atI ixN
  rw [if_pos (by omega), if_pos (by omega)]
  simpa using h
end Mok09

set_option autoImplicit false
namespace Mok09
open PySem PySem.Spec PyProof.Rows L2
open PySem.W (dataLt)
/-! ### any two sayings can be compared -/
theorem same_str {x y : Str} : same (.str x) (.str y) = decide (x = y) := by
  simp [same]
  rfl
mutual
theorem cmp_sg : ∀ s t : Sg, cmpOk s.d t.d = true
  | .lt x, t => by
    cases t with
    | lt y => simp (config := { decide := true }) [Sg.d, cmpOk, cmpOks, same_str, wMany, wMod, cmpOk]
    | no u => simp (config := { decide := true }) [Sg.d, cmpOk, cmpOks, same_str, wMany, wMod, cmpOk]
    | many w' m => cases w' <;> simp (config := { decide := true }) [Sg.d, cmpOk, cmpOks, same_str, wMany, wMod, cmpOk]
    | so u v => simp (config := { decide := true }) [Sg.d, cmpOk, cmpOks, same_str, wMany, wMod, cmpOk]
    | tl u v => simp (config := { decide := true }) [Sg.d, cmpOk, cmpOks, same_str, wMany, wMod, cmpOk]
    | mod w' y u => cases w' <;> simp (config := { decide := true }) [Sg.d, cmpOk, cmpOks, same_str, wMany, wMod, cmpOk]
  | .no s, t => by
    have h := cmp_sg s
    cases t with
    | lt y => simp (config := { decide := true }) [Sg.d, cmpOk, cmpOks, same_str, wMany, wMod, h]
    | no u => simp (config := { decide := true }) [Sg.d, cmpOk, cmpOks, same_str, wMany, wMod, h]
    | many w' m => cases w' <;> simp (config := { decide := true }) [Sg.d, cmpOk, cmpOks, same_str, wMany, wMod, h]
    | so u v => simp (config := { decide := true }) [Sg.d, cmpOk, cmpOks, same_str, wMany, wMod, h]
    | tl u v => simp (config := { decide := true }) [Sg.d, cmpOk, cmpOks, same_str, wMany, wMod, h]
    | mod w' y u => cases w' <;> simp (config := { decide := true }) [Sg.d, cmpOk, cmpOks, same_str, wMany, wMod, h]
  | .many true l, t => by
    have h := cmp_sgs l
    cases t with
    | lt y => simp (config := { decide := true }) [Sg.d, cmpOk, cmpOks, same_str, wMany, wMod, h]
    | no u => simp (config := { decide := true }) [Sg.d, cmpOk, cmpOks, same_str, wMany, wMod, h]
    | many w' m => cases w' <;> simp (config := { decide := true }) [Sg.d, cmpOk, cmpOks, same_str, wMany, wMod, h]
    | so u v => simp (config := { decide := true }) [Sg.d, cmpOk, cmpOks, same_str, wMany, wMod, h]
    | tl u v => simp (config := { decide := true }) [Sg.d, cmpOk, cmpOks, same_str, wMany, wMod, h]
    | mod w' y u => cases w' <;> simp (config := { decide := true }) [Sg.d, cmpOk, cmpOks, same_str, wMany, wMod, h]
  | .many false l, t => by
    have h := cmp_sgs l
    cases t with
    | lt y => simp (config := { decide := true }) [Sg.d, cmpOk, cmpOks, same_str, wMany, wMod, h]
    | no u => simp (config := { decide := true }) [Sg.d, cmpOk, cmpOks, same_str, wMany, wMod, h]
    | many w' m => cases w' <;> simp (config := { decide := true }) [Sg.d, cmpOk, cmpOks, same_str, wMany, wMod, h]
    | so u v => simp (config := { decide := true }) [Sg.d, cmpOk, cmpOks, same_str, wMany, wMod, h]
    | tl u v => simp (config := { decide := true }) [Sg.d, cmpOk, cmpOks, same_str, wMany, wMod, h]
    | mod w' y u => cases w' <;> simp (config := { decide := true }) [Sg.d, cmpOk, cmpOks, same_str, wMany, wMod, h]
  | .so a b, t => by
    have h1 := cmp_sg a
    have h2 := cmp_sg b
    cases t with
    | lt y => simp (config := { decide := true }) [Sg.d, cmpOk, cmpOks, same_str, wMany, wMod, h1, h2]
    | no u => simp (config := { decide := true }) [Sg.d, cmpOk, cmpOks, same_str, wMany, wMod, h1, h2]
    | many w' m => cases w' <;> simp (config := { decide := true }) [Sg.d, cmpOk, cmpOks, same_str, wMany, wMod, h1, h2]
    | so u v => simp (config := { decide := true }) [Sg.d, cmpOk, cmpOks, same_str, wMany, wMod, h1, h2]
    | tl u v => simp (config := { decide := true }) [Sg.d, cmpOk, cmpOks, same_str, wMany, wMod, h1, h2]
    | mod w' y u => cases w' <;> simp (config := { decide := true }) [Sg.d, cmpOk, cmpOks, same_str, wMany, wMod, h1, h2]
  | .tl a b, t => by
    have h1 := cmp_sg a
    have h2 := cmp_sg b
    cases t with
    | lt y => simp (config := { decide := true }) [Sg.d, cmpOk, cmpOks, same_str, wMany, wMod, h1, h2]
    | no u => simp (config := { decide := true }) [Sg.d, cmpOk, cmpOks, same_str, wMany, wMod, h1, h2]
    | many w' m => cases w' <;> simp (config := { decide := true }) [Sg.d, cmpOk, cmpOks, same_str, wMany, wMod, h1, h2]
    | so u v => simp (config := { decide := true }) [Sg.d, cmpOk, cmpOks, same_str, wMany, wMod, h1, h2]
    | tl u v => simp (config := { decide := true }) [Sg.d, cmpOk, cmpOks, same_str, wMany, wMod, h1, h2]
    | mod w' y u => cases w' <;> simp (config := { decide := true }) [Sg.d, cmpOk, cmpOks, same_str, wMany, wMod, h1, h2]
  | .mod true x s, t => by
    have h := cmp_sg s
    cases t with
    | lt y => simp (config := { decide := true }) [Sg.d, cmpOk, cmpOks, same_str, wMany, wMod, h]
    | no u => simp (config := { decide := true }) [Sg.d, cmpOk, cmpOks, same_str, wMany, wMod, h]
    | many w' m => cases w' <;> simp (config := { decide := true }) [Sg.d, cmpOk, cmpOks, same_str, wMany, wMod, h]
    | so u v => simp (config := { decide := true }) [Sg.d, cmpOk, cmpOks, same_str, wMany, wMod, h]
    | tl u v => simp (config := { decide := true }) [Sg.d, cmpOk, cmpOks, same_str, wMany, wMod, h]
    | mod w' y u => cases w' <;> simp (config := { decide := true }) [Sg.d, cmpOk, cmpOks, same_str, wMany, wMod, h]
  | .mod false x s, t => by
    have h := cmp_sg s
    cases t with
    | lt y => simp (config := { decide := true }) [Sg.d, cmpOk, cmpOks, same_str, wMany, wMod, h]
    | no u => simp (config := { decide := true }) [Sg.d, cmpOk, cmpOks, same_str, wMany, wMod, h]
    | many w' m => cases w' <;> simp (config := { decide := true }) [Sg.d, cmpOk, cmpOks, same_str, wMany, wMod, h]
    | so u v => simp (config := { decide := true }) [Sg.d, cmpOk, cmpOks, same_str, wMany, wMod, h]
    | tl u v => simp (config := { decide := true }) [Sg.d, cmpOk, cmpOks, same_str, wMany, wMod, h]
    | mod w' y u => cases w' <;> simp (config := { decide := true }) [Sg.d, cmpOk, cmpOks, same_str, wMany, wMod, h]
theorem cmp_sgs : ∀ l m : List Sg, cmpOks (Sg.ds l) (Sg.ds m) = true
  | [], m => by cases m <;> rfl
  | s :: l, m => by
    cases m with
    | nil => rfl
    | cons t m =>
      have h1 := cmp_sg s t
      have h2 := cmp_sgs l m
      simp [Sg.ds, cmpOks, h1, h2]
end
end Mok09

set_option autoImplicit false
namespace Mok09
open PySem PySem.Spec PyProof.Rows L2
open PySem.W (dataLt)
/-! ### a rising row without doubles -/
theorem eqv_cmp {x y : PyData} (h : cmpOk x y = true) (l : x.canLay0 = true) : PyData.eqv x y = true ↔ x = y := by
  constructor
  · intro e
    cases q : same x y with
    | true => exact same_eq _ _ q
    | false => rw [cmp_eqv x y h q] at e; cases e
  · rintro rfl
    exact (same_refl x l).2
theorem strict_eq : ∀ {l m : List PyData}, l.Pairwise (fun x y => dataLt x y = true) → m.Pairwise (fun x y => dataLt x y = true) → (∀ x, x ∈ l ↔ x ∈ m) → l = m
  | [], [], _, _, _ => rfl
  | [], y :: m, _, _, h => by have := (h y).mpr (by simp); simp at this
  | x :: l, [], _, _, h => by have := (h x).mp (by simp); simp at this
  | x :: l, y :: m, hl, hm, h => by
    obtain ⟨h1, h2⟩ := List.pairwise_cons.mp hl
    obtain ⟨k1, k2⟩ := List.pairwise_cons.mp hm
    have irr : ∀ z, dataLt z z = false := fun z => by
      cases q : dataLt z z with
      | false => rfl
      | true => have := lt_asym z z q; rw [q] at this; cases this
    have e : x = y := by
      rcases List.mem_cons.mp ((h x).mp (by simp)) with e | hx
      · exact e
      · rcases List.mem_cons.mp ((h y).mpr (by simp)) with e | hy
        · exact e.symm
        · have := lt_asym _ _ (k1 x hx)
          rw [h1 y hy] at this
          cases this
    subst e
    rw [strict_eq h2 k2 fun z => ?_]
    constructor
    · intro hz
      rcases List.mem_cons.mp ((h z).mp (List.mem_cons_of_mem _ hz)) with rfl | hz'
      · have := h1 z hz; rw [irr] at this; cases this
      · exact hz'
    · intro hz
      rcases List.mem_cons.mp ((h z).mpr (List.mem_cons_of_mem _ hz)) with rfl | hz'
      · have := k1 z hz; rw [irr] at this; cases this
      · exact hz'
def stepD (told : List PyData) (x : PyData) : List PyData := match told.getLast? with
  | none => told ++ [x]
  | some y => if PyData.eqv y x = true then told else told ++ [x]
def nubD (xs : List PyData) : List PyData := xs.foldl stepD []
theorem nub_snoc (xs : List PyData) (x : PyData) : nubD (xs ++ [x]) = stepD (nubD xs) x := by
  unfold nubD
  rw [List.foldl_append]
  rfl
theorem nub_len (xs : List PyData) : (nubD xs).length ≤ xs.length := by
  suffices main : ∀ (xs told : List PyData), (xs.foldl stepD told).length ≤ told.length + xs.length by
    have := main xs []
    simpa [nubD] using this
  intro xs
  induction xs with
  | nil => intro told; simp
  | cons x xs ih =>
    intro told
    have := ih (stepD told x)
    rw [List.foldl_cons, List.length_cons]
    have e : (stepD told x).length ≤ told.length + 1 := by
      unfold stepD
      split
      · simp
      · split <;> simp
    omega
theorem nub_all {S : List PyData} (hs : S.Pairwise (fun x y => dataLt y x = false)) (hc : ∀ x ∈ S, ∀ y ∈ S, cmpOk x y = true) (hl : ∀ x ∈ S, x.canLay0 = true) :
    (nubD S).Pairwise (fun x y => dataLt x y = true) ∧ (∀ x, x ∈ nubD S ↔ x ∈ S) ∧ (nubD S).getLast? = S.getLast? := by
  suffices main : ∀ (r done : List PyData), done ++ r = S → ((nubD done).Pairwise (fun x y => dataLt x y = true) ∧ (∀ x, x ∈ nubD done ↔ x ∈ done) ∧ (nubD done).getLast? = done.getLast?) → (nubD S).Pairwise (fun x y => dataLt x y = true) ∧ (∀ x, x ∈ nubD S ↔ x ∈ S) ∧ (nubD S).getLast? = S.getLast? from
    main S [] rfl ⟨by simp [nubD], by simp [nubD], rfl⟩
  intro r
  induction r with
  | nil =>
    intro done e h
    rw [List.append_nil] at e
    rw [← e]
    exact h
  | cons x r ih =>
    rintro done e ⟨h1, h2, h3⟩
    refine ih (done ++ [x]) (by rw [List.append_assoc]; exact e) ?_
    have mx : x ∈ S := by rw [← e]; simp
    have md : ∀ z ∈ done, z ∈ S := fun z hz => by rw [← e]; exact List.mem_append_left _ hz
    have bef : ∀ z ∈ done, dataLt x z = false := fun z hz => by
      rw [← e, List.pairwise_append] at hs
      exact hs.2.2 z hz x (by simp)
    rw [nub_snoc]
    unfold stepD
    rw [h3]
    cases q : done.getLast? with
    | none =>
      have hd : done = [] := by simpa using q
      subst hd
      simp [nubD]
    | some y =>
      have my : y ∈ done := List.mem_of_getLast? q
      dsimp only
      split
      · rename_i he
        have := (eqv_cmp (hc y (md y my) x mx) (hl y (md y my))).mp he
        subst this
        refine ⟨h1, fun z => ?_, by rw [h3, q]; simp⟩
        rw [h2, List.mem_append]
        exact ⟨.inl, fun h => h.elim id fun h => by rw [List.mem_singleton.mp h]; exact my⟩
      · rename_i he
        refine ⟨List.pairwise_append.mpr ⟨h1, by simp, fun z hz w hw => ?_⟩, fun z => ?_, by simp⟩
        · rw [List.mem_singleton.mp hw]
          have hz' := (h2 z).mp hz
          cases t : dataLt z x with
          | true => rfl
          | false =>
            have sm := lt_total (hc z (md z hz') x mx) t (bef z hz')
            have := same_eq _ _ sm
            subst this
            -- z is x: then the last is z, too
            have hyz : dataLt z y = false := bef y my
            have : ∃ p, nubD done = p ++ [y] := by
              have hl' : (nubD done).getLast? = some y := by rw [h3, q]
              have hne : nubD done ≠ [] := by intro z; rw [z] at hl'; cases hl'
              refine ⟨(nubD done).dropLast, ?_⟩
              rw [List.getLast?_eq_getLast hne] at hl'
              rw [← Option.some.inj hl']
              exact (List.dropLast_concat_getLast hne).symm
            obtain ⟨p, ep⟩ := this
            rw [ep] at hz h1
            rcases List.mem_append.mp hz with hz | hz
            · have := (List.pairwise_append.mp h1).2.2 z hz y (by simp)
              rw [hyz] at this
              cases this
            · rw [List.mem_singleton.mp hz] at he
              exact (he ((eqv_cmp (hc y (md y my) y (md y my)) (hl y (md y my))).mpr rfl)).elim
        · rw [List.mem_append, List.mem_append, h2]
/-- the rising row, without doubles, of what is in the row -/
def riseD (xs : List PyData) : List PyData := nubD (sortD xs)
/-- may be put in order -/
structure Ord (xs : List PyData) : Prop where
  cmp : ∀ x ∈ xs, ∀ y ∈ xs, cmpOk x y = true
  lay : ∀ x ∈ xs, x.canLay0 = true ∧ x.depth ≤ 60
  beg : ∀ x ∈ xs, begins x = true
theorem Ord.sub {xs ys : List PyData} (h : Ord xs) (s : ∀ y ∈ ys, y ∈ xs) : Ord ys := ⟨fun x hx y hy => h.cmp x (s x hx) y (s y hy), fun x hx => h.lay x (s x hx), fun x hx => h.beg x (s x hx)⟩
theorem Ord.srt {xs : List PyData} (h : Ord xs) : Srt xs := ⟨h.beg, h.cmp, h.lay⟩
theorem sort_mem {xs : List PyData} {x : PyData} : x ∈ sortD xs ↔ x ∈ xs := (sortD_perm xs).mem_iff
theorem rise_spec {xs : List PyData} (h : Ord xs) : (riseD xs).Pairwise (fun x y => dataLt x y = true) ∧ ∀ x, x ∈ riseD xs ↔ x ∈ xs := by
  obtain ⟨h1, h2, _⟩ := nub_all (sortD_pw xs) (fun x hx y hy => h.cmp x (sort_mem.mp hx) y (sort_mem.mp hy)) (fun x hx => (h.lay x (sort_mem.mp hx)).1)
  exact ⟨h1, fun x => (h2 x).trans sort_mem⟩
/-- some of them -/
theorem rise_filter {xs ys : List PyData} (h : Ord xs) (p : PyData → Bool) (e : ∀ x, x ∈ ys ↔ x ∈ xs ∧ p x = true) : (riseD xs).filter p = riseD ys := by
  obtain ⟨h1, h2⟩ := rise_spec h
  obtain ⟨k1, k2⟩ := rise_spec (h.sub fun y hy => ((e y).mp hy).1)
  refine strict_eq (h1.sublist (List.filter_sublist)) k1 fun x => ?_
  rw [List.mem_filter, h2, k2, e]
theorem rise_len (xs : List PyData) : (riseD xs).length ≤ xs.length := Nat.le_trans (nub_len _) (Nat.le_of_eq (sortD_perm xs).length_eq)
/-! ### the two that make it -/
noncomputable def risingB : DS := (sSeq (sSet 1 (dPn (opLst true) dNil))
  (sSeq (sFor (dI iV (dPn (opSorted false) (dCons (dV 0) dNil))) (gN 2)
  (sIf (dOr (dNot (dTv (dV 1))) (dTb (dP2 (opEq true) (dP2 opIxA (dV 1) (dP1 opNeg (dC (.int 1)))) (dV 2))))
  (sExpr (dMt "list" opAppend (dV 1) (dCons (dV 2) dNil))) sNext))
  (sRet (dPn opTu (dCons (dV 1) dNil)))))
noncomputable def risingF : Fn := fnF 1 3 risingB
noncomputable def onceB : DS := (sSeq (sSet 1 (dPn (opLst true) dNil))
  (sSeq (sFor (dI iV (dPn (opSorted false) (dCons (dV 0) dNil))) (gN 2)
  (sIf (dOr (dTb (dP2 (opEq false) (dV 1) (dPn (opLst false) dNil))) (dTb (dP2 (opEq true) (dP2 opIxA (dV 1) (dP1 opNeg (dC (.int 1)))) (dV 2))))
  (sExpr (dMt "list" opAppend (dV 1) (dCons (dV 2) dNil))) sNext))
  (sSeq (sLet 1) (sRet (dV 1)))))
noncomputable def onceF : Fn := fnF 1 3 onceB

theorem atI_last {xs : List PyData} {y : PyData} (h : xs.getLast? = some y) : atI xs (-1) = some y := by
  have hne : xs ≠ [] := by intro z; rw [z] at h; cases h
  have hl : 0 < xs.length := List.length_pos_iff.mpr hne
  unfold atI ixN
  rw [if_neg (by decide), if_pos (by omega)]
  rw [List.getLast?_eq_getElem?] at h
  show xs[((xs.length : Int) + -1).toNat]? = some y
  rw [← h]
  congr 1
  omega
def RiseI (x0 : W) (done : List PyData) (ρ : Env) (μ : Mem) : Prop := ∃ e2, ρ = [some x0, some (.r 0), e2] ∧ μ = [.l (nubD done)]
theorem shaped60 {x : PyData} (h : x.canLay0 = true ∧ x.depth ≤ 60) : SeqAt.shaped x = true := by
  simp [SeqAt.shaped, h.1]
  omega
theorem nub_sub : ∀ (l told : List PyData) {y : PyData}, y ∈ l.foldl stepD told → y ∈ told ∨ y ∈ l
  | [], told, y, h => .inl h
  | z :: l, told, y, h => by
    rcases nub_sub l _ h with h | h
    · unfold stepD at h
      split at h
      · rcases List.mem_append.mp h with h | h
        · exact .inl h
        · exact .inr (by rw [List.mem_singleton.mp h]; simp)
      · split at h
        · exact .inl h
        · rcases List.mem_append.mp h with h | h
          · exact .inl h
          · exact .inr (by rw [List.mem_singleton.mp h]; simp)
    · exact .inr (List.mem_cons_of_mem _ h)
theorem rising_ok {xs : List PyData} (h : Ord xs) (hz : xs.length ≤ 100000) : Ok (risingF [.d (.list xs)] []) fun w _ => w = .d (.tuple (riseD xs)) := by
  have hz' : xs.length ≤ sizeLine := Nat.le_trans hz (by decide)
  have hsl : (sortD xs).length = xs.length := (sortD_perm xs).length_eq
  simp [risingF, risingB, opSorted, h.srt, mkL, sz, hsl, hz']
  refine for_inv (xs := sortD xs) (s := (sortD xs, none)) (RiseI (.d (.list xs))) rfl (fun _ _ _ _ _ => trivial) ⟨none, rfl, rfl⟩ ?_ ?_
  · rintro done x r ρ μ e ⟨e2, rfl, rfl⟩
    have mx : x ∈ xs := sort_mem.mp (by rw [← e]; simp)
    have hd : done.length < xs.length := by rw [← hsl, ← e]; simp
    have hn := nub_len done
    have z1 : (nubD done).length + 1 ≤ sizeLine := Nat.le_trans (show (nubD done).length + 1 ≤ 100000 by omega) (by decide)
    have sx := shaped60 (h.lay x mx)
    have all : ∀ y ∈ nubD done, y ∈ xs := fun y hy => by
      rcases nub_sub done [] hy with h | h
      · cases h
      · exact sort_mem.mp (by rw [← e]; exact List.mem_append_left _ h)
    have m0 : ([MO.l (nubD done)] : Mem)[0]? = some (.l (nubD done)) := rfl
    have m1 := nub_snoc done x
    unfold stepD at m1
    simp [opNeg, pI, asB, truth, tyW, okO_app m0 z1]
    by_cases hne : nubD done = []
    · rw [if_pos hne]
      rw [hne] at m1
      exact ⟨_, rfl, by rw [m1, hne]; rfl⟩
    · rw [if_neg hne]
      obtain ⟨y, hy⟩ : ∃ y, (nubD done).getLast? = some y := ⟨_, List.getLast?_eq_getLast hne⟩
      have sy := shaped60 (h.lay y (all y (List.mem_of_getLast? hy)))
      rw [hy] at m1
      rw [okO_ixr m0 (atI_last hy)]
      simp [sx, sy]
      cases q : PyData.eqv y x with
      | true => simp [q] at m1 ⊢; exact ⟨_, rfl, by rw [m1]⟩
      | false => simp [q] at m1 ⊢; rw [okO_app m0 z1]; exact ⟨_, rfl, by rw [m1]; rfl⟩
  · rintro ρ μ ⟨e2, rfl, rfl⟩
    have z2 : (nubD (sortD xs)).length ≤ sizeLine := Nat.le_trans (Nat.le_trans (nub_len _) (Nat.le_of_eq hsl)) hz'
    simp [opTu, opTuple, mkT, sz, z2, riseD]
theorem depth_all {D : Nat} : ∀ {xs : List PyData}, (∀ x ∈ xs, x.canLay0 = true ∧ x.depth ≤ D) → PyData.canLayAll0 xs = true ∧ PyData.depthAll xs ≤ D
  | [], _ => by simp [PyData.depthAll]
  | x :: xs, h => by
    obtain ⟨a, b⟩ := depth_all (xs := xs) fun y hy => h y (List.mem_cons_of_mem _ hy)
    obtain ⟨c, d⟩ := h x (by simp)
    simp only [lay_cons, PyData.depthAll, a, c]
    exact ⟨rfl, by omega⟩
end Mok09

set_option autoImplicit false
namespace Mok09
open PySem PySem.Spec PyProof.Rows L2
open PySem.W (dataLt)
/-! ### all parts of a saying -/
mutual
def allP : Sg → List Sg
  | .lt x => [.lt x]
  | .no s => .no s :: allP s
  | .many w l => .many w l :: allPs l
  | .so a b => .so a b :: (allP a ++ allP b)
  | .tl a b => .tl a b :: (allP a ++ allP b)
  | .mod w h s => .mod w h s :: allP s
def allPs : List Sg → List Sg
  | [] => []
  | s :: r => allP s ++ allPs r
end
theorem allPs_app : ∀ l m : List Sg, allPs (l ++ m) = allPs l ++ allPs m
  | [], m => rfl
  | s :: r, m => by rw [List.cons_append, allPs, allPs_app r m, allPs, List.append_assoc]
theorem allP_inn (s : Sg) : allP s = s :: allPs s.inn := by
  cases s <;> simp [allP, allPs, Sg.inn]
theorem szs_app : ∀ l m : List Sg, Sg.szs (l ++ m) = Sg.szs l + Sg.szs m
  | [], m => by simp [Sg.szs]
  | s :: r, m => by rw [List.cons_append, Sg.szs, szs_app r m, Sg.szs]; omega
theorem sz_inn (s : Sg) : s.sz = Sg.szs s.inn + 1 := by
  cases s <;> simp [Sg.sz, Sg.szs, Sg.inn]
theorem szs_len : ∀ l : List Sg, l.length ≤ Sg.szs l
  | [] => by simp
  | s :: r => by have := szs_len r; have := sz_inn s; simp only [List.length_cons, Sg.szs]; omega
mutual
theorem allP_len : ∀ s : Sg, (allP s).length = s.sz
  | .lt x => rfl
  | .no s => by simp [allP, Sg.sz, allP_len s]
  | .many w l => by simp [allP, Sg.sz, allPs_len l]
  | .so a b => by simp [allP, Sg.sz, allP_len a, allP_len b]
  | .tl a b => by simp [allP, Sg.sz, allP_len a, allP_len b]
  | .mod w h s => by simp [allP, Sg.sz, allP_len s]
theorem allPs_len : ∀ l : List Sg, (allPs l).length = Sg.szs l
  | [] => rfl
  | s :: r => by simp [allPs, Sg.szs, allP_len s, allPs_len r]
end
mutual
theorem allP_sub : ∀ {s x : Sg}, x ∈ allP s → (s.sok → x.sok) ∧ x.ht ≤ s.ht ∧ x.sz ≤ s.sz ∧ ∀ y ∈ allP x, y ∈ allP s
  | .lt x, y, h => by rw [List.mem_singleton.mp h]; exact ⟨id, Nat.le_refl _, Nat.le_refl _, fun _ h => h⟩
  | .no s, x, h => by
    rcases List.mem_cons.mp h with rfl | h
    · exact ⟨id, Nat.le_refl _, Nat.le_refl _, fun _ h => h⟩
    · obtain ⟨a, b, c, d⟩ := allP_sub (s := s) h
      exact ⟨a, by simp only [Sg.ht]; omega, by simp only [Sg.sz]; omega, fun y hy => List.mem_cons_of_mem _ (d y hy)⟩
  | .many w l, x, h => by
    rcases List.mem_cons.mp h with rfl | h
    · exact ⟨id, Nat.le_refl _, Nat.le_refl _, fun _ h => h⟩
    · obtain ⟨a, b, c, d⟩ := allPs_sub (l := l) h
      exact ⟨fun k => a k.1, by simp only [Sg.ht]; omega, by simp only [Sg.sz]; omega, fun y hy => List.mem_cons_of_mem _ (d y hy)⟩
  | .so s t, x, h => by
    rcases List.mem_cons.mp h with rfl | h
    · exact ⟨id, Nat.le_refl _, Nat.le_refl _, fun _ h => h⟩
    · rcases List.mem_append.mp h with h | h
      · obtain ⟨a, b, c, d⟩ := allP_sub (s := s) h
        exact ⟨fun k => a k.1, by simp only [Sg.ht]; omega, by simp only [Sg.sz]; omega, fun y hy => List.mem_cons_of_mem _ (List.mem_append_left _ (d y hy))⟩
      · obtain ⟨a, b, c, d⟩ := allP_sub (s := t) h
        exact ⟨fun k => a k.2, by simp only [Sg.ht]; omega, by simp only [Sg.sz]; omega, fun y hy => List.mem_cons_of_mem _ (List.mem_append_right _ (d y hy))⟩
  | .tl s t, x, h => by
    rcases List.mem_cons.mp h with rfl | h
    · exact ⟨id, Nat.le_refl _, Nat.le_refl _, fun _ h => h⟩
    · rcases List.mem_append.mp h with h | h
      · obtain ⟨a, b, c, d⟩ := allP_sub (s := s) h
        exact ⟨fun k => a k.1, by simp only [Sg.ht]; omega, by simp only [Sg.sz]; omega, fun y hy => List.mem_cons_of_mem _ (List.mem_append_left _ (d y hy))⟩
      · obtain ⟨a, b, c, d⟩ := allP_sub (s := t) h
        exact ⟨fun k => a k.2, by simp only [Sg.ht]; omega, by simp only [Sg.sz]; omega, fun y hy => List.mem_cons_of_mem _ (List.mem_append_right _ (d y hy))⟩
  | .mod w z s, x, h => by
    rcases List.mem_cons.mp h with rfl | h
    · exact ⟨id, Nat.le_refl _, Nat.le_refl _, fun _ h => h⟩
    · obtain ⟨a, b, c, d⟩ := allP_sub (s := s) h
      exact ⟨fun k => a k.2, by simp only [Sg.ht]; omega, by simp only [Sg.sz]; omega, fun y hy => List.mem_cons_of_mem _ (d y hy)⟩
theorem allPs_sub : ∀ {l : List Sg} {x : Sg}, x ∈ allPs l → (Sg.soks l → x.sok) ∧ x.ht ≤ Sg.hts l ∧ x.sz ≤ Sg.szs l ∧ ∀ y ∈ allP x, y ∈ allPs l
  | s :: r, x, h => by
    rcases List.mem_append.mp h with h | h
    · obtain ⟨a, b, c, d⟩ := allP_sub (s := s) h
      exact ⟨fun k => a k.1, by simp only [Sg.hts]; omega, by simp only [Sg.szs]; omega, fun y hy => List.mem_append_left _ (d y hy)⟩
    · obtain ⟨a, b, c, d⟩ := allPs_sub (l := r) h
      exact ⟨fun k => a k.2, by simp only [Sg.hts]; omega, by simp only [Sg.szs]; omega, fun y hy => List.mem_append_right _ (d y hy)⟩
end
theorem mem_ds {l : List Sg} {x : PyData} : x ∈ Sg.ds l ↔ ∃ s ∈ l, s.d = x := by rw [ds_map, List.mem_map]
theorem ds_len (l : List Sg) : (Sg.ds l).length = l.length := by rw [ds_map, List.length_map]
theorem all_ds {P : Sg → Prop} : ∀ {xs : List PyData}, (∀ x ∈ xs, ∃ s : Sg, P s ∧ s.d = x) → ∃ l : List Sg, xs = Sg.ds l ∧ ∀ s ∈ l, P s
  | [], _ => ⟨[], rfl, by simp⟩
  | x :: xs, h => by
    obtain ⟨l, rfl, h2⟩ := all_ds (xs := xs) fun y hy => h y (List.mem_cons_of_mem _ hy)
    obtain ⟨s, h3, rfl⟩ := h x (by simp)
    exact ⟨s :: l, rfl, fun t ht => by
      rcases List.mem_cons.mp ht with rfl | ht
      · exact h3
      · exact h2 t ht⟩
/-! sayings put in order -/
theorem begins_sg (s : Sg) : begins s.d = true := by
  cases s <;> rfl
theorem ord_dep {l : List Sg} (h : ∀ s ∈ l, s.sok ∧ s.d.depth ≤ 60) : Ord (Sg.ds l) := by
  refine ⟨fun x hx y hy => ?_, fun x hx => ?_, fun x hx => ?_⟩
  · obtain ⟨s, _, rfl⟩ := mem_ds.mp hx
    obtain ⟨t, _, rfl⟩ := mem_ds.mp hy
    exact cmp_sg s t
  · obtain ⟨s, hs, rfl⟩ := mem_ds.mp hx
    obtain ⟨a, b⟩ := h s hs
    obtain ⟨c, _, _⟩ := sg_rp a
    exact ⟨c, b⟩
  · obtain ⟨s, _, rfl⟩ := mem_ds.mp hx
    exact begins_sg s
theorem depth_mem {x : PyData} : ∀ {xs : List PyData}, x ∈ xs → x.depth ≤ PyData.depthAll xs
  | y :: xs, h => by
    rcases List.mem_cons.mp h with rfl | h
    · simp only [PyData.depthAll]; omega
    · have := depth_mem h; simp only [PyData.depthAll]; omega
theorem inn_dep {s x : Sg} (h : x ∈ s.inn) : x.d.depth < s.d.depth := by
  cases s with
  | lt _ => cases h
  | many w l =>
    have := depth_mem (x := x.d) (xs := Sg.ds l) (mem_ds.mpr ⟨x, h, rfl⟩)
    simp only [Sg.d, PyData.depth, PyData.depthAll]
    omega
  | no s =>
    rw [List.mem_singleton.mp h]
    simp only [Sg.d, PyData.depth, PyData.depthAll]
    omega
  | mod w y s =>
    rw [List.mem_singleton.mp h]
    simp only [Sg.d, PyData.depth, PyData.depthAll]
    omega
  | so a b =>
    rcases List.mem_cons.mp h with rfl | h
    · simp only [Sg.d, PyData.depth, PyData.depthAll]; omega
    · rw [List.mem_singleton.mp h]; simp only [Sg.d, PyData.depth, PyData.depthAll]; omega
  | tl a b =>
    rcases List.mem_cons.mp h with rfl | h
    · simp only [Sg.d, PyData.depth, PyData.depthAll]; omega
    · rw [List.mem_singleton.mp h]; simp only [Sg.d, PyData.depth, PyData.depthAll]; omega
theorem mem_allPs {x : Sg} : ∀ {l : List Sg}, x ∈ allPs l ↔ ∃ s ∈ l, x ∈ allP s
  | [] => by simp [allPs]
  | s :: r => by simp [allPs, mem_allPs (l := r)]
theorem allP_dep : ∀ (n : Nat) {s x : Sg}, s.sz ≤ n → x ∈ allP s → x.d.depth ≤ s.d.depth
  | 0, s, _, h, _ => by have := sz_inn s; omega
  | n + 1, s, x, hn, h => by
    rw [allP_inn] at h
    rcases List.mem_cons.mp h with rfl | h
    · exact Nat.le_refl _
    · obtain ⟨y, h1, h2⟩ := mem_allPs.mp h
      have a := inn_dep h1
      have b := allP_dep n (s := y) (x := x) (by
        have := sz_inn s
        have : ∀ l : List Sg, y ∈ l → y.sz ≤ Sg.szs l := fun l => by
          induction l with
          | nil => intro h; cases h
          | cons z r ih =>
            intro h
            simp only [Sg.szs]
            rcases List.mem_cons.mp h with rfl | h
            · omega
            · have := ih h; omega
        have := this s.inn h1
        omega) h2
      omega
theorem rise_congr {xs ys : List PyData} (h : Ord xs) (e : ∀ x, x ∈ ys ↔ x ∈ xs) : riseD ys = riseD xs := by
  obtain ⟨h1, h2⟩ := rise_spec h
  obtain ⟨k1, k2⟩ := rise_spec (h.sub fun y hy => (e y).mp hy)
  exact strict_eq k1 h1 fun x => by rw [h2, k2, e]
/-! ### every_part, parts_of_saying -/
noncomputable def everyB : DS := (sSeq (sSet 1 (dPn (opLst true) dNil))
  (sSeq (sSet 2 (dPn (opLst true) (dCons (dV 0) dNil)))
  (sSeq (whl (dTv (dV 2))
  (sSeq (sSet 3 (dMt "list" opPop (dV 2) dNil))
  (sSeq (sExpr (dMt "list" opAppend (dV 1) (dCons (dV 3) dNil)))
  (sExpr (dMt "list" opExtend (dV 2) (dCons (dCall innerF [] (dCons (dV 3) dNil)) dNil))))) 100000)
  (sSeq (sLet 1) (sRet (dV 1))))))
noncomputable def everyF : Fn := fnF 1 4 everyB
noncomputable def partsB : DS := (sRet (dCall risingF [] (dCons (dCall everyF [] (dCons (dV 0) dNil)) dNil)))
noncomputable def partsF : Fn := fnF 1 1 partsB
def EvI (s : Sg) (k : Nat) (ρ : Env) (μ : Mem) : Prop := ∃ (F Wt : List Sg) (e : Option W), ρ = [some (.d s.d), some (.r 0), some (.r 1), e] ∧ μ = [.l (Sg.ds F), .l (Sg.ds Wt)] ∧ (∀ x, x ∈ allP s ↔ x ∈ F ∨ x ∈ allPs Wt) ∧ F.length + Sg.szs Wt = s.sz ∧ k = Sg.szs Wt
theorem or4 {a b c d : Prop} : (a ∨ b ∨ c ∨ d) ↔ (a ∨ c) ∨ b ∨ d := by
  constructor
  · rintro (h | h | h | h)
    · exact .inl (.inl h)
    · exact .inr (.inl h)
    · exact .inl (.inr h)
    · exact .inr (.inr h)
  · rintro ((h | h) | h | h)
    · exact .inl h
    · exact .inr (.inr (.inl h))
    · exact .inr (.inl h)
    · exact .inr (.inr (.inr h))
theorem every_ok {s : Sg} (h : s.sok) (hz : s.sz ≤ 90000) : Ok (everyF [.d s.d] []) fun w _ => ∃ y, w = .d y ∧ ∃ l, y = .list (Sg.ds l) ∧ (∀ x, x ∈ l ↔ x ∈ allP s) ∧ l.length = s.sz := by
  simp [everyF, everyB]
  refine whl_inv (EvI s) ?_ 100000 s.sz _ _ (by omega) ⟨[], [s], none, rfl, rfl, by simp [allPs], by simp [Sg.szs], by simp [Sg.szs]⟩
  rintro k ρ μ ⟨F, Wt, e, rfl, rfl, h1, h2, rfl⟩
  by_cases hn : Wt = []
  · subst hn
    simp only [Sg.szs] at h2
    simp [asB, truth, Sg.ds, frzW]
    exact ⟨F, rfl, fun x => by rw [h1]; simp [allPs], by omega⟩
  · obtain ⟨r, x, rfl⟩ := snoc_of hn
    have hx : Sg.szs (r ++ [x]) = Sg.szs r + Sg.szs x.inn + 1 := by have := sz_inn x; rw [szs_app]; simp only [Sg.szs]; omega
    have hs : x ∈ allP s := by rw [h1, allPs_app]; right; simp [allPs, allP_inn]
    have e1 : (!(Sg.ds (r ++ [x])).isEmpty) = true := by simp [ds_app, Sg.ds]
    have hl := szs_len r
    have hi := szs_len x.inn
    rw [ds_app] at e1 ⊢
    simp only [Sg.ds] at e1 ⊢
    simp only [ok_dTv, ok_dV0, ok_dVs, asB, truth]
    simp [tyW, okO_pop (show ([MO.l (Sg.ds F), MO.l (Sg.ds r ++ [x.d])] : Mem)[1]? = some (.l (Sg.ds r ++ [x.d])) from rfl), inner_eq]
    rw [okO_app (xs := Sg.ds F) (by rfl) (le_million (by rw [ds_len]; omega))]
    simp [okO_ext (show ([MO.l (Sg.ds F ++ [x.d]), MO.l (Sg.ds r)] : Mem)[1]? = some (.l (Sg.ds r)) from rfl) (ys := Sg.ds x.inn) (le_million (by rw [ds_len, ds_len]; omega))]
    refine ⟨by omega, Sg.szs (r ++ x.inn), by rw [szs_app]; omega, F ++ [x], r ++ x.inn, _, rfl, by simp [ds_app, Sg.ds], fun z => ?_, by rw [List.length_append, List.length_singleton, szs_app]; omega, rfl⟩
    rw [h1, allPs_app, allPs_app, List.mem_append, List.mem_append, List.mem_append]
    simp only [allPs, List.append_nil, List.mem_singleton]
    rw [allP_inn x, List.mem_cons]
    exact or4
theorem parts_eq {s : Sg} (h : s.sok) (hh : s.d.depth ≤ 60) (hz : s.sz ≤ 90000) (μ : Mem) : callF partsF [.d s.d] μ = .ok (.d (.tuple (riseD (Sg.ds (allP s))))) μ := by
  obtain ⟨y, ⟨l, rfl, h1, h2⟩, e⟩ := pure_ex (F := everyF) rfl (every_ok h hz)
  have o : Ord (Sg.ds (allP s)) := ord_dep fun x hx => by
    obtain ⟨a, b, _⟩ := allP_sub hx
    exact ⟨a h, Nat.le_trans (allP_dep _ (Nat.le_refl _) hx) hh⟩
  have m : ∀ x, x ∈ Sg.ds l ↔ x ∈ Sg.ds (allP s) := fun x => by
    rw [mem_ds, mem_ds]
    exact ⟨fun ⟨s, h3, h4⟩ => ⟨s, (h1 s).mp h3, h4⟩, fun ⟨s, h3, h4⟩ => ⟨s, (h1 s).mpr h3, h4⟩⟩
  refine call_pure rfl ?_
  have r : ∀ μ, callF risingF [.d (.list (Sg.ds l))] μ = .ok (.d (.tuple (riseD (Sg.ds l)))) μ := fun μ => call_pure rfl (rising_ok (o.sub fun x hx => (m x).mp hx) (by rw [ds_len]; omega))
  simp [partsF, partsB, e, r, rise_congr o m]
end Mok09

set_option autoImplicit false
namespace Mok09
open PySem PySem.Spec PyProof.Rows L2
/-! ### what is written tells what it is: texts of small letters, tuples of them -/
/-! texts of small letters, tuples of such -/
mutual
def TxD : PyData → Bool
  | .str x => lowS x
  | .tuple xs => TxDs xs
  | _ => false
def TxDs : List PyData → Bool
  | [] => true
  | x :: r => TxD x && TxDs r
end
/-- what stands behind the second of a tuple and the later ones -/
def tail1 : List PyData → List Nat
  | [] => [41]
  | x :: r => 44 :: 32 :: cp x.shown ++ tail1 r
def body : List PyData → List Nat
  | [] => [41]
  | [x] => cp x.shown ++ [44, 41]
  | x :: r => cp x.shown ++ tail1 r
theorem cp_join : ∀ (x : PyData) (r : List PyData), cp (Str.join ", " (PyData.shownAll (x :: r))) ++ [41] = cp x.shown ++ tail1 r
  | x, [] => rfl
  | x, y :: r => by
    have ih := cp_join y r
    simp only [PyData.shownAll, tail1] at ih ⊢
    have e : Str.join ", " (x.shown :: y.shown :: PyData.shownAll r) = x.shown ++ ", " ++ Str.join ", " (y.shown :: PyData.shownAll r) := rfl
    rw [e, cp_app, cp_app, List.append_assoc, List.append_assoc, ih]
    rfl
  termination_by _ r => r.length
theorem cp_tuple (xs : List PyData) : cp (PyData.tuple xs).shown = 40 :: body xs := by
  simp only [PyData.shown, tupleText]
  rw [cp_app, cp_app]
  match xs with
  | [] => rfl
  | [x] => rfl
  | x :: y :: r =>
    have h := cp_join x (y :: r)
    simp only [body]
    rw [← h]
    rfl
theorem split39 : ∀ {a b u v : List Nat}, (∀ c ∈ a, low c = true) → (∀ c ∈ b, low c = true) → a ++ 39 :: u = b ++ 39 :: v → a = b ∧ u = v
  | [], [], u, v, _, _, h => by simpa using h
  | [], c :: b, u, v, _, hb, h => by
    have h1 := hb c (by simp)
    rw [List.nil_append, List.cons_append] at h
    rw [← (List.cons.inj h).1] at h1
    exact absurd h1 (by decide)
  | c :: a, [], u, v, ha, _, h => by
    have h1 := ha c (by simp)
    rw [List.nil_append, List.cons_append] at h
    rw [(List.cons.inj h).1] at h1
    exact absurd h1 (by decide)
  | c :: a, d :: b, u, v, ha, hb, h => by
    rw [List.cons_append, List.cons_append] at h
    obtain ⟨h1, h2⟩ := List.cons.inj h
    obtain ⟨h3, h4⟩ := split39 (fun z hz => ha z (List.mem_cons_of_mem _ hz)) (fun z hz => hb z (List.mem_cons_of_mem _ hz)) h2
    rw [h1, h3]
    exact ⟨rfl, h4⟩
theorem tt_head {d : PyData} (h : TxD d = true) : (∃ x, d = .str x ∧ lowS x = true ∧ cp d.shown = 39 :: (cp x ++ [39])) ∨ ∃ xs, d = .tuple xs ∧ TxDs xs = true ∧ cp d.shown = 40 :: body xs := by
  cases d with
  | str x =>
    simp only [TxD] at h
    exact .inl ⟨x, rfl, h, by rw [repr_low h]; rfl⟩
  | tuple xs =>
    simp only [TxD] at h
    exact .inr ⟨xs, rfl, h, cp_tuple xs⟩
  | _ => simp [TxD] at h
theorem tt_ne {d : PyData} (h : TxD d = true) (u v : List Nat) : cp d.shown ++ u ≠ 41 :: v := by
  rcases tt_head h with ⟨x, _, _, e⟩ | ⟨xs, _, _, e⟩ <;> rw [e] <;> intro z <;> have := (List.cons.inj z).1 <;> revert this <;> decide
mutual
theorem tt_pre : ∀ (d e : PyData) (u v : List Nat), TxD d = true → TxD e = true → cp d.shown ++ u = cp e.shown ++ v → d = e ∧ u = v
  | .str x, e, u, v, hd, he, h => by
    simp only [TxD] at hd
    rcases tt_head he with ⟨y, rfl, hy, ey⟩ | ⟨ys, rfl, _, ey⟩
    · rw [repr_low hd, ey] at h
      simp only [List.cons_append, List.append_assoc, List.cons.injEq, true_and, List.nil_append] at h
      obtain ⟨h1, h2⟩ := split39 (low_all hd) (low_all hy) h
      exact ⟨by rw [cp_inj h1], h2⟩
    · rw [repr_low hd, ey] at h
      simp at h
  | .tuple xs, e, u, v, hd, he, h => by
    simp only [TxD] at hd
    rcases tt_head he with ⟨y, rfl, hy, ey⟩ | ⟨ys, rfl, hy, ey⟩
    · rw [cp_tuple, ey] at h
      simp at h
    · rw [cp_tuple, cp_tuple] at h
      simp only [List.cons_append, List.cons.injEq, true_and] at h
      have := tt_body xs ys u v hd hy h
      exact ⟨by rw [this.1], this.2⟩
  | .none, _, _, _, h, _, _ => by simp [TxD] at h
  | .bool _, _, _, _, h, _, _ => by simp [TxD] at h
  | .int _, _, _, _, h, _, _ => by simp [TxD] at h
  | .list _, _, _, _, h, _, _ => by simp [TxD] at h
  | .dict _, _, _, _, h, _, _ => by simp [TxD] at h
theorem tt_body : ∀ (xs ys : List PyData) (u v : List Nat), TxDs xs = true → TxDs ys = true → body xs ++ u = body ys ++ v → xs = ys ∧ u = v
  | [], [], u, v, _, _, h => by simpa [body] using h
  | [], [y], u, v, _, hy, h => by
    simp only [TxDs, Bool.and_eq_true] at hy
    simp only [body, List.append_assoc] at h
    exact (tt_ne hy.1 _ _ h.symm).elim
  | [], y :: z :: r, u, v, _, hy, h => by
    simp only [TxDs, Bool.and_eq_true] at hy
    simp only [body, List.append_assoc] at h
    exact (tt_ne hy.1 _ _ h.symm).elim
  | [x], [], u, v, hx, _, h => by
    simp only [TxDs, Bool.and_eq_true] at hx
    simp only [body, List.append_assoc] at h
    exact (tt_ne hx.1 _ _ h).elim
  | x :: x' :: r, [], u, v, hx, _, h => by
    simp only [TxDs, Bool.and_eq_true] at hx
    simp only [body, List.append_assoc] at h
    exact (tt_ne hx.1 _ _ h).elim
  | [x], [y], u, v, hx, hy, h => by
    simp only [TxDs, Bool.and_eq_true] at hx hy
    simp only [body, List.append_assoc] at h
    obtain ⟨rfl, h2⟩ := tt_pre x y _ _ hx.1 hy.1 h
    simpa using h2
  | [x], y :: z :: r, u, v, hx, hy, h => by
    simp only [TxDs, Bool.and_eq_true] at hx hy
    simp only [body, List.append_assoc] at h
    obtain ⟨rfl, h2⟩ := tt_pre x y _ _ hx.1 hy.1 h
    simp [tail1] at h2
  | x :: x' :: r, [y], u, v, hx, hy, h => by
    simp only [TxDs, Bool.and_eq_true] at hx hy
    simp only [body, List.append_assoc] at h
    obtain ⟨rfl, h2⟩ := tt_pre x y _ _ hx.1 hy.1 h
    simp [tail1] at h2
  | x :: x' :: r, y :: y' :: t, u, v, hx, hy, h => by
    simp only [TxDs, Bool.and_eq_true] at hx hy
    simp only [body, List.append_assoc] at h
    obtain ⟨rfl, h2⟩ := tt_pre x y _ _ hx.1 hy.1 h
    obtain ⟨h3, h4⟩ := tt_tail (x' :: r) (y' :: t) u v (by simpa [TxDs] using hx.2) (by simpa [TxDs] using hy.2) h2
    exact ⟨by rw [h3], h4⟩
theorem tt_tail : ∀ (xs ys : List PyData) (u v : List Nat), TxDs xs = true → TxDs ys = true → tail1 xs ++ u = tail1 ys ++ v → xs = ys ∧ u = v
  | [], [], u, v, _, _, h => by simpa [tail1] using h
  | [], y :: r, u, v, _, _, h => by simp [tail1] at h
  | x :: r, [], u, v, _, _, h => by simp [tail1] at h
  | x :: r, y :: t, u, v, hx, hy, h => by
    simp only [TxDs, Bool.and_eq_true] at hx hy
    simp only [tail1, List.cons_append, List.append_assoc, List.cons.injEq, true_and] at h
    obtain ⟨rfl, h2⟩ := tt_pre x y _ _ hx.1 hy.1 h
    obtain ⟨h3, h4⟩ := tt_tail r t u v hx.2 hy.2 h2
    exact ⟨by rw [h3], h4⟩
end
theorem tt_inj {d e : PyData} (hd : TxD d = true) (he : TxD e = true) (h : d.shown = e.shown) : d = e := (tt_pre d e [] [] hd he (by rw [h])).1
theorem Sw.low {x : Str} (h : Sw x) : lowS x = true := h.1
mutual
theorem sg_tt : ∀ {s : Sg}, s.sok → TxD s.d = true
  | .lt x, h => by simp [Sg.d, TxD, TxDs, Sw.low h]; decide +kernel
  | .no s, h => by simp [Sg.d, TxD, TxDs, sg_tt (s := s) h]; decide +kernel
  | .many w l, h => by
    have := sg_tts (l := l) h.1
    cases w <;> simp [Sg.d, TxD, TxDs, this, wMany] <;> decide +kernel
  | .so a b, h => by simp [Sg.d, TxD, TxDs, sg_tt h.1, sg_tt h.2]; decide +kernel
  | .tl a b, h => by simp [Sg.d, TxD, TxDs, sg_tt h.1, sg_tt h.2]; decide +kernel
  | .mod w x s, h => by
    have := sg_tt (s := s) h.2
    cases w <;> simp [Sg.d, TxD, TxDs, this, wMod, Sw.low h.1] <;> decide +kernel
theorem sg_tts : ∀ {l : List Sg}, Sg.soks l → TxDs (Sg.ds l) = true
  | [], _ => rfl
  | s :: r, h => by simp [Sg.ds, TxDs, sg_tt h.1, sg_tts h.2]
end
/-! the data tells the saying -/
mutual
theorem d_inj : ∀ {s t : Sg}, s.d = t.d → s = t
  | .lt x, t, h => by
    cases t with
    | lt y =>
      simp [Sg.d] at h
      rw [h]
    | no u => simp (config := { decide := true }) [Sg.d, wMany, wMod] at h
    | many w' m => cases w' <;> simp (config := { decide := true }) [Sg.d, wMany, wMod] at h
    | so u v => simp (config := { decide := true }) [Sg.d, wMany, wMod] at h
    | tl u v => simp (config := { decide := true }) [Sg.d, wMany, wMod] at h
    | mod w' y u => cases w' <;> simp (config := { decide := true }) [Sg.d, wMany, wMod] at h
  | .no s, t, h => by
    cases t with
    | lt y => simp (config := { decide := true }) [Sg.d, wMany, wMod] at h
    | no u =>
      simp [Sg.d] at h
      rw [d_inj h]
    | many w' m => cases w' <;> simp (config := { decide := true }) [Sg.d, wMany, wMod] at h
    | so u v => simp (config := { decide := true }) [Sg.d, wMany, wMod] at h
    | tl u v => simp (config := { decide := true }) [Sg.d, wMany, wMod] at h
    | mod w' y u => cases w' <;> simp (config := { decide := true }) [Sg.d, wMany, wMod] at h
  | .many true l, t, h => by
    cases t with
    | lt y => simp (config := { decide := true }) [Sg.d, wMany, wMod] at h
    | no u => simp (config := { decide := true }) [Sg.d, wMany, wMod] at h
    | many w' m =>
      cases w' <;> simp (config := { decide := true }) [Sg.d, wMany] at h
      rw [ds_inj h]
    | so u v => simp (config := { decide := true }) [Sg.d, wMany, wMod] at h
    | tl u v => simp (config := { decide := true }) [Sg.d, wMany, wMod] at h
    | mod w' y u => cases w' <;> simp (config := { decide := true }) [Sg.d, wMany, wMod] at h
  | .many false l, t, h => by
    cases t with
    | lt y => simp (config := { decide := true }) [Sg.d, wMany, wMod] at h
    | no u => simp (config := { decide := true }) [Sg.d, wMany, wMod] at h
    | many w' m =>
      cases w' <;> simp (config := { decide := true }) [Sg.d, wMany] at h
      rw [ds_inj h]
    | so u v => simp (config := { decide := true }) [Sg.d, wMany, wMod] at h
    | tl u v => simp (config := { decide := true }) [Sg.d, wMany, wMod] at h
    | mod w' y u => cases w' <;> simp (config := { decide := true }) [Sg.d, wMany, wMod] at h
  | .so a b, t, h => by
    cases t with
    | lt y => simp (config := { decide := true }) [Sg.d, wMany, wMod] at h
    | no u => simp (config := { decide := true }) [Sg.d, wMany, wMod] at h
    | many w' m => cases w' <;> simp (config := { decide := true }) [Sg.d, wMany, wMod] at h
    | so u v =>
      simp [Sg.d] at h
      rw [d_inj h.1, d_inj h.2]
    | tl u v => simp (config := { decide := true }) [Sg.d, wMany, wMod] at h
    | mod w' y u => cases w' <;> simp (config := { decide := true }) [Sg.d, wMany, wMod] at h
  | .tl a b, t, h => by
    cases t with
    | lt y => simp (config := { decide := true }) [Sg.d, wMany, wMod] at h
    | no u => simp (config := { decide := true }) [Sg.d, wMany, wMod] at h
    | many w' m => cases w' <;> simp (config := { decide := true }) [Sg.d, wMany, wMod] at h
    | so u v => simp (config := { decide := true }) [Sg.d, wMany, wMod] at h
    | tl u v =>
      simp [Sg.d] at h
      rw [d_inj h.1, d_inj h.2]
    | mod w' y u => cases w' <;> simp (config := { decide := true }) [Sg.d, wMany, wMod] at h
  | .mod true x s, t, h => by
    cases t with
    | lt y => simp (config := { decide := true }) [Sg.d, wMany, wMod] at h
    | no u => simp (config := { decide := true }) [Sg.d, wMany, wMod] at h
    | many w' m => cases w' <;> simp (config := { decide := true }) [Sg.d, wMany, wMod] at h
    | so u v => simp (config := { decide := true }) [Sg.d, wMany, wMod] at h
    | tl u v => simp (config := { decide := true }) [Sg.d, wMany, wMod] at h
    | mod w' y u =>
      cases w' <;> simp (config := { decide := true }) [Sg.d, wMod] at h
      rw [h.1, d_inj h.2]
  | .mod false x s, t, h => by
    cases t with
    | lt y => simp (config := { decide := true }) [Sg.d, wMany, wMod] at h
    | no u => simp (config := { decide := true }) [Sg.d, wMany, wMod] at h
    | many w' m => cases w' <;> simp (config := { decide := true }) [Sg.d, wMany, wMod] at h
    | so u v => simp (config := { decide := true }) [Sg.d, wMany, wMod] at h
    | tl u v => simp (config := { decide := true }) [Sg.d, wMany, wMod] at h
    | mod w' y u =>
      cases w' <;> simp (config := { decide := true }) [Sg.d, wMod] at h
      rw [h.1, d_inj h.2]
theorem ds_inj : ∀ {l m : List Sg}, Sg.ds l = Sg.ds m → l = m
  | [], [], _ => rfl
  | [], _ :: _, h => by simp [Sg.ds] at h
  | _ :: _, [], h => by simp [Sg.ds] at h
  | s :: l, t :: m, h => by
    simp only [Sg.ds, List.cons.injEq] at h
    rw [d_inj h.1, ds_inj h.2]
end
theorem repr_inj {s t : Sg} (hs : s.sok) (ht : t.sok) (h : s.d.shown = t.d.shown) : s = t := d_inj (tt_inj (sg_tt hs) (sg_tt ht) h)
end Mok09

set_option autoImplicit false
namespace Mok09
open PySem PySem.Spec PyProof.Rows L2
open PySem.W (dataLt)
/-! ### the core of a saying -/
mutual
def core : Sg → Sg
  | .lt x => .lt x
  | .no s => .no (core s)
  | .many w l => .many w (cores l)
  | .so a b => .so (core a) (core b)
  | .tl a b => .tl (core a) (core b)
  | .mod w h s => if w = true then .no (.mod false h (.no (core s))) else .mod false h (core s)
def cores : List Sg → List Sg
  | [] => []
  | s :: r => core s :: cores r
end
theorem cores_map : ∀ l, cores l = l.map core
  | [] => rfl
  | s :: r => by rw [cores, cores_map r]; rfl
mutual
theorem core_sz : ∀ s : Sg, (core s).sz ≤ 3 * s.sz ∧ (core s).ht ≤ 3 * s.ht ∧ (s.sok → (core s).sok)
  | .lt x => by simp only [core, Sg.sz, Sg.ht]; exact ⟨by omega, by omega, id⟩
  | .no s => by have := core_sz s; simp only [core, Sg.sz, Sg.ht]; exact ⟨by omega, by omega, this.2.2⟩
  | .many w l => by have := cores_sz l; simp only [core, Sg.sz, Sg.ht]; exact ⟨by omega, by omega, fun h => ⟨this.2.2 h.1, by rw [cores_map, List.length_map]; exact h.2⟩⟩
  | .so a b => by have x := core_sz a; have y := core_sz b; simp only [core, Sg.sz, Sg.ht]; exact ⟨by omega, by omega, fun h => ⟨x.2.2 h.1, y.2.2 h.2⟩⟩
  | .tl a b => by have x := core_sz a; have y := core_sz b; simp only [core, Sg.sz, Sg.ht]; exact ⟨by omega, by omega, fun h => ⟨x.2.2 h.1, y.2.2 h.2⟩⟩
  | .mod w z s => by
    have := core_sz s
    cases w <;> simp only [core, Sg.sz, Sg.ht, if_true, Bool.false_eq_true, if_false] <;> exact ⟨by omega, by omega, fun h => ⟨h.1, this.2.2 h.2⟩⟩
theorem cores_sz : ∀ l : List Sg, Sg.szs (cores l) ≤ 3 * Sg.szs l ∧ Sg.hts (cores l) ≤ 3 * Sg.hts l ∧ (Sg.soks l → Sg.soks (cores l))
  | [] => by simp [cores, Sg.szs, Sg.hts]
  | s :: r => by have x := core_sz s; have y := cores_sz r; simp only [cores, Sg.szs, Sg.hts]; exact ⟨by omega, by omega, fun h => ⟨x.2.2 h.1, y.2.2 h.2⟩⟩
end
noncomputable def coreB (self : Fn) : DS := (sSeq (sSet 1 (dPn opTu (dCons (dLc false (dI iV (dCall innerF [] (dCons (dV 0) dNil))) (gN 2) dYes (dCall self [] (dCons (dV 2) dNil)) [2]) dNil)))
  (sSeq (sIf (dTb (dP2 (opEq false) (dP2 opIxA (dV 0) (dC (.int 0))) (dC (.str "may"))))
  (sRet (dPn opTup (dCons (dC (.str "not")) (dCons (dPn opTup (dCons (dC (.str "must")) (dCons (dP2 opIxA (dV 0) (dC (.int 1))) (dCons (dPn opTup (dCons (dC (.str "not")) (dCons (dP2 opIxA (dV 1) (dC (.int 0))) dNil))) dNil)))) dNil)))) sNext)
  (sRet (dCall withF [] (dCons (dV 0) (dCons (dV 1) dNil))))))
noncomputable def coreF : Nat → Fn
  | 0 => fun _ _ => .bad
  | n + 1 => fnF 1 3 (coreB (coreF n))
noncomputable def lcoreB (self : Fn) : DS := (sSeq (sIf (dTb (dP2 (opEq false) (dP2 opIxA (dV 0) (dC (.int 0))) (dC (.str "letter"))))
  (sRet (dV 0)) sNext)
  (sSeq (sIf (dTb (dP2 (opInA false) (dP2 opIxA (dV 0) (dC (.int 0))) (dPn opTup (dCons (dC (.str "and")) (dCons (dC (.str "or")) dNil)))))
  (sRet (dPn opTup (dCons (dP2 opIxA (dV 0) (dC (.int 0))) (dCons (dPn opTu (dCons (dLc false (dI iV (dP2 opIxA (dV 0) (dC (.int 1)))) (gN 1) dYes (dCall self [] (dCons (dV 1) dNil)) [1]) dNil)) dNil)))) sNext)
  (sSeq (sIf (dTb (dP2 (opEq false) (dP2 opIxA (dV 0) (dC (.int 0))) (dC (.str "may"))))
  (sRet (dPn opTup (dCons (dC (.str "not")) (dCons (dPn opTup (dCons (dC (.str "must")) (dCons (dP2 opIxA (dV 0) (dC (.int 1))) (dCons (dPn opTup (dCons (dC (.str "not")) (dCons (dCall self [] (dCons (dP2 opIxA (dV 0) (dC (.int 2))) dNil)) dNil))) dNil)))) dNil)))) sNext)
  (sSeq (sIf (dTb (dP2 (opEq false) (dP2 opIxA (dV 0) (dC (.int 0))) (dC (.str "must"))))
  (sRet (dPn opTup (dCons (dC (.str "must")) (dCons (dP2 opIxA (dV 0) (dC (.int 1))) (dCons (dCall self [] (dCons (dP2 opIxA (dV 0) (dC (.int 2))) dNil)) dNil))))) sNext)
  (sRet (dP2 (opAdd false) (dPn opTup (dCons (dP2 opIxA (dV 0) (dC (.int 0))) dNil)) (dPn opTu (dCons (dLc false (dI iV (dSl false (dV 0) (dPart (dC (.int 1))) dNo)) (gN 1) dYes (dCall self [] (dCons (dV 1) dNil)) [1]) dNil))))))))
noncomputable def lcoreF : Nat → Fn
  | 0 => fun _ _ => .bad
  | n + 1 => fnF 1 2 (lcoreB (lcoreF n))
theorem core_wi (s : Sg) (h : ∀ x t, s ≠ .mod true x t) : s.wi (s.inn.map core) = core s := by
  cases s with
  | many w l => simp [Sg.wi, Sg.inn, core, cores_map]
  | mod w x t => cases w with
    | true => exact (h x t rfl).elim
    | false => simp [Sg.wi, Sg.inn, core]
  | _ => simp [Sg.wi, Sg.inn, core]
theorem core_ok : ∀ (n : Nat) (s : Sg), s.ht < n → s.sok → ∀ μ, callF (coreF n) [.d s.d] μ = .ok (.d (core s).d) μ := by
  intro n
  induction n with
  | zero => intro s h; omega
  | succ n ih =>
    intro s hn hs μ
    refine call_pure rfl ?_
    simp [coreF, coreB, inner_eq, ok_dLc]
    have hl := inn_len hs
    refine each_inner (f := core) hl (fun x hx => ?_) ?_
    · have := ih x (by have := inn_ht hx; omega) (inn_sok hx hs) []
      simp only [dCall, dCons, dNil, wipeE, bnd_ok, dV, List.set_cons_succ, List.set_cons_zero, List.foldl_cons, List.foldl_nil, List.getElem?_cons_succ, List.getElem?_cons_zero]
      simp [dV, this]
    · have e : ∀ μ, callF withF [.d s.d, .d (.tuple (Sg.ds (s.inn.map core)))] μ = .ok (.d (s.wi (s.inn.map core)).d) μ := fun μ => with_eq s _ (by rw [List.length_map]) μ
      refine ⟨by rw [ds_len, List.length_map]; exact hl, ?_⟩
      by_cases hm : ∃ x t, s = .mod true x t
      · obtain ⟨x, t, rfl⟩ := hm
        simp (config := { decide := true }) [Sg.d, Sg.w, Sg.inn, Sg.ds, core, wMod]
      · have hw : ¬ s.w = Str.ofString "may" := by
          intro e
          cases s with
          | mod w x t => cases w with
            | true => exact hm ⟨x, t, rfl⟩
            | false => revert e; simp (config := { decide := true }) [Sg.w, wMany, wMod]
          | many w l => cases w <;> revert e <;> simp (config := { decide := true }) [Sg.w, wMany, wMod]
          | _ => revert e; simp (config := { decide := true }) [Sg.w, wMany, wMod]
        simp [hw, e, core_wi s fun x t z => hm ⟨x, t, z⟩]
end Mok09

set_option autoImplicit false
namespace Mok09
open PySem PySem.Spec PyProof.Rows L2
open PySem.W (dataLt)
/-! ### the atoms of a core -/
mutual
theorem core_dep : ∀ s : Sg, (core s).d.depth ≤ 3 * s.ht + 1
  | .lt x => by simp [core, Sg.d, Sg.ht, PyData.depth, PyData.depthAll]
  | .no s => by have := core_dep s; simp only [core, Sg.d, Sg.ht, PyData.depth, PyData.depthAll]; omega
  | .many w l => by have := cores_dep l; simp only [core, Sg.d, Sg.ht, PyData.depth, PyData.depthAll]; omega
  | .so a b => by have := core_dep a; have := core_dep b; simp only [core, Sg.d, Sg.ht, PyData.depth, PyData.depthAll]; omega
  | .tl a b => by have := core_dep a; have := core_dep b; simp only [core, Sg.d, Sg.ht, PyData.depth, PyData.depthAll]; omega
  | .mod w x s => by
    have := core_dep s
    cases w <;> simp only [core, Sg.d, Sg.ht, PyData.depth, PyData.depthAll, if_true, Bool.false_eq_true, if_false] <;> omega
theorem cores_dep : ∀ l : List Sg, PyData.depthAll (Sg.ds (cores l)) ≤ 3 * Sg.hts l + 1
  | [] => by simp [cores, Sg.ds, PyData.depthAll]
  | s :: r => by have := core_dep s; have := cores_dep r; simp only [cores, Sg.ds, Sg.hts, PyData.depthAll]; omega
end
def atomW (x : PyData) : Bool := [PyData.str "letter", PyData.str "must"].any fun y => PyData.eqv y x
def Sg.atom (s : Sg) : Bool := atomW (.str s.w)
def dAtom : PyData → Bool
  | .tuple (x :: _) => atomW x
  | _ => false
theorem dAtom_sg (s : Sg) : dAtom s.d = s.atom := by cases s <;> rfl
def isAtomT (i : Nat) : DT := (dTb (dP2 (opInA false) (dP2 opIxA (dV i) (dC (.int 0))) (dPn opTup (dCons (dC (.str "letter")) (dCons (dC (.str "must")) dNil)))))
theorem isAtom_ok {i : Nat} {ρ : Env} {μ : Mem} {s : Sg} {PB : Bool → Mem → Prop} (h : ρ[i]? = some (some (.d s.d))) (q : PB s.atom μ) : Ok (isAtomT i ρ μ) PB := by
  have hs : SeqAt.shaped (.str s.w) = true := by simp
  have h2 : [PyData.str "letter", PyData.str "must"].length ≤ sizeLine := by decide
  unfold isAtomT
  simp only [ok_dTb, ok_dP2, dV_of h, ok_ok, ok_dC, ix0_sg, ok_dPn, ok_dCons, ok_dNil, okO_tup, datas_d, datas_nil, Option.map_some]
  refine ⟨h2, ?_⟩
  rw [okO_in2 hs (by decide +kernel)]
  exact q
noncomputable def atomsB (n : Nat) : DS := (sRet (dPn opTu (dCons (dLc false (dI iV (dCall partsF [] (dCons (dCall (coreF n) [] (dCons (dV 0) dNil)) dNil))) (gN 1) (isAtomT 1) (dV 1) [1]) dNil)))
noncomputable def atomsF (n : Nat) : Fn := fnF 1 2 (atomsB n)
def atomsD (s : Sg) : List PyData := riseD (Sg.ds ((allP (core s)).filter Sg.atom))
structure Cs (n : Nat) (s : Sg) : Prop where
  sok : s.sok
  ht : s.ht < n
  dep : (core s).d.depth ≤ 60
  cht : (core s).ht < 40
  sz : s.sz ≤ 1000
theorem Cs.ord {n : Nat} {s : Sg} (h : Cs n s) : Ord (Sg.ds (allP (core s))) := ord_dep fun x hx => by
  obtain ⟨a, b, _⟩ := allP_sub hx
  exact ⟨a ((core_sz s).2.2 h.sok), Nat.le_trans (allP_dep _ (Nat.le_refl _) hx) h.dep⟩
theorem atoms_filter {n : Nat} {s : Sg} (h : Cs n s) : (riseD (Sg.ds (allP (core s)))).filter dAtom = atomsD s := rise_filter h.ord dAtom fun x => by
  rw [mem_ds, mem_ds]
  constructor
  · rintro ⟨t, h1, rfl⟩
    have := List.mem_filter.mp h1
    exact ⟨⟨t, this.1, rfl⟩, by rw [dAtom_sg]; exact this.2⟩
  · rintro ⟨⟨t, h1, rfl⟩, h2⟩
    rw [dAtom_sg] at h2
    exact ⟨t, List.mem_filter.mpr ⟨h1, h2⟩, rfl⟩
theorem rise_ds {l : List Sg} (h : Ord (Sg.ds l)) : ∃ m : List Sg, riseD (Sg.ds l) = Sg.ds m ∧ (∀ s, s ∈ m ↔ s ∈ l) ∧ m.length ≤ l.length := by
  obtain ⟨h1, h2⟩ := rise_spec h
  obtain ⟨m, e, hm⟩ := all_ds (P := fun s => s ∈ l) (xs := riseD (Sg.ds l)) fun x hx => by
    obtain ⟨s, h3, h4⟩ := mem_ds.mp ((h2 x).mp hx)
    exact ⟨s, h3, h4⟩
  refine ⟨m, e, fun s => ⟨hm s, fun hs => ?_⟩, ?_⟩
  · have := (h2 s.d).mpr (mem_ds.mpr ⟨s, hs, rfl⟩)
    rw [e] at this
    obtain ⟨t, h3, h4⟩ := mem_ds.mp this
    rw [← d_inj h4]
    exact h3
  · have := rise_len (Sg.ds l)
    rw [e, ds_len, ds_len] at this
    exact this
theorem atoms_eq {n : Nat} {s : Sg} (h : Cs n s) (μ : Mem) : callF (atomsF n) [.d s.d] μ = .ok (.d (.tuple (atomsD s))) μ := by
  refine call_pure rfl ?_
  have hc := core_sz s
  have c1 : ∀ μ, callF (coreF n) [.d s.d] μ = .ok (.d (core s).d) μ := core_ok n s h.ht h.sok
  have c2 : ∀ μ, callF partsF [.d (core s).d] μ = _ := parts_eq (hc.2.2 h.sok) h.dep (by have := h.sz; omega)
  have hl : (riseD (Sg.ds (allP (core s)))).length ≤ 3000 := Nat.le_trans (rise_len _) (by rw [ds_len, allP_len]; have := h.sz; omega)
  simp [atomsF, atomsB, c1, c2, ok_dLc]
  refine lc_pure (s := (riseD (Sg.ds (allP (core s))), none)) dAtom id rfl trivial (Nat.le_trans hl (by decide)) (fun x hx => ?_) ?_
  · obtain ⟨t, ht, rfl⟩ := mem_ds.mp (((rise_spec h.ord).2 x).mp hx)
    refine ⟨_, rfl, isAtom_ok (s := t) rfl ⟨(dAtom_sg t).symm, rfl, fun _ => ?_⟩⟩
    simp [wipeE]
  · rw [List.map_id, atoms_filter h]
    simp
    have : (atomsD s).length ≤ 3000 := by rw [← atoms_filter h]; exact Nat.le_trans (List.length_filter_le _ _) hl
    exact le_million (by omega)
/-! the law's own -/
noncomputable def linnerB : DS := (sSeq (sIf (dTb (dP2 (opEq false) (dP2 opIxA (dV 0) (dC (.int 0))) (dC (.str "letter"))))
  (sRet (dPn (opLst false) dNil)) sNext)
  (sSeq (sIf (dTb (dP2 (opInA false) (dP2 opIxA (dV 0) (dC (.int 0))) (dPn opTup (dCons (dC (.str "and")) (dCons (dC (.str "or")) dNil)))))
  (sRet (dPn (opLs false) (dCons (dP2 opIxA (dV 0) (dC (.int 1))) dNil))) sNext)
  (sRet (dIf (dTb (dP2 (opInA false) (dP2 opIxA (dV 0) (dC (.int 0))) (dPn opTup (dCons (dC (.str "must")) (dCons (dC (.str "may")) dNil))))) (dPn (opLs false) (dCons (dSl false (dV 0) (dPart (dC (.int 2))) dNo) dNil)) (dPn (opLs false) (dCons (dSl false (dV 0) (dPart (dC (.int 1))) dNo) dNil))))))
noncomputable def linnerF : Fn := fnF 1 1 linnerB
noncomputable def lpartsB (self : Fn) : DS := (sSeq (sSet 1 (dPn (opLst false) (dCons (dV 0) dNil)))
  (sSeq (sFor (dI iV (dCall linnerF [] (dCons (dV 0) dNil))) (gN 2)
  (sSet 1 (dP2 (opAdd false) (dV 1) (dCall self [] (dCons (dV 2) dNil)))))
  (sRet (dV 1))))
noncomputable def lpartsF : Nat → Fn
  | 0 => fun _ _ => .bad
  | n + 1 => fnF 1 3 (lpartsB (lpartsF n))
theorem mem_sz {y : Sg} : ∀ {l : List Sg}, y ∈ l → y.sz ≤ Sg.szs l
  | z :: r, h => by
    simp only [Sg.szs]
    rcases List.mem_cons.mp h with rfl | h
    · omega
    · have := mem_sz h; omega
def LpI (s : Sg) (done : List PyData) (ρ : Env) (μ : Mem) : Prop := ∃ (l : List Sg) (e2 : Option W), done = Sg.ds l ∧ (∀ x ∈ l, x ∈ s.inn) ∧ Sg.szs l ≤ Sg.szs s.inn ∧ ρ = [some (.d s.d), some (.d (.list (Sg.ds (s :: allPs l)))), e2] ∧ μ = []
noncomputable def latomsB (n : Nat) : DS := (sRet (dCall onceF [] (dCons (dLc false (dI iV (dCall (lpartsF 40) [] (dCons (dCall (lcoreF n) [] (dCons (dV 0) dNil)) dNil))) (gN 1) (isAtomT 1) (dV 1) [1]) dNil)))
noncomputable def latomsF (n : Nat) : Fn := fnF 1 2 (latomsB n)
end Mok09

set_option autoImplicit false
namespace Mok09
open PySem PySem.Spec PyProof.Rows L2
/-! ### masks: numbers whose bits are truths -/
def mk : Nat → (Nat → Bool) → Nat
  | 0, _ => 0
  | n + 1, f => mk n f ||| (if f n = true then 2 ^ n else 0)
theorem mk_bit : ∀ (n : Nat) (f : Nat → Bool) (i : Nat), (mk n f).testBit i = (decide (i < n) && f i)
  | 0, f, i => by simp [mk]
  | n + 1, f, i => by
    rw [mk, Nat.testBit_or, mk_bit n f i]
    by_cases h : f n = true
    · rw [if_pos h, Nat.testBit_two_pow]
      by_cases e : n = i
      · subst e; simp [h]
      · have : (i < n + 1) ↔ i < n := by omega
        simp [e, this]
    · rw [if_neg h, Nat.zero_testBit, Bool.or_false]
      by_cases e : n = i
      · subst e; simp [h]
      · have : (i < n + 1) ↔ i < n := by omega
        simp [this]
theorem mk_eq {n x : Nat} {f : Nat → Bool} (h : ∀ i, x.testBit i = (decide (i < n) && f i)) : x = mk n f := Nat.eq_of_testBit_eq fun i => by rw [h, mk_bit]
theorem mk_congr {n : Nat} {f g : Nat → Bool} (h : ∀ i, i < n → f i = g i) : mk n f = mk n g := mk_eq fun i => by
  rw [mk_bit]
  by_cases e : i < n
  · simp [e, h i e]
  · simp [e]
theorem mk_lt (n : Nat) (f : Nat → Bool) : mk n f < 2 ^ n := Nat.lt_pow_two_of_testBit _ fun i hi => by
  rw [mk_bit]
  have : ¬ i < n := by omega
  simp [this]
theorem mk_full (n : Nat) : 2 ^ n - 1 = mk n fun _ => true := mk_eq fun i => by
  rw [Nat.testBit_two_pow_sub_one, Bool.and_true]
theorem mk_zero (n : Nat) : mk n (fun _ => false) = 0 := (mk_eq (x := 0) fun i => by simp).symm
theorem mk_zero_iff {n : Nat} {f : Nat → Bool} : mk n f = 0 ↔ ∀ i, i < n → f i = false := by
  constructor
  · intro h i hi
    have := mk_bit n f i
    rw [h, Nat.zero_testBit] at this
    simpa [hi] using this.symm
  · intro h
    rw [mk_congr h, mk_zero]
theorem bor (a b : Nat) : Builtin.bitOr (a : Int) (b : Int) = ((a ||| b : Nat) : Int) := by
  rw [bitOr_nn (Int.natCast_nonneg _) (Int.natCast_nonneg _)]
  simp
theorem band (a b : Nat) : Builtin.bitAnd (a : Int) (b : Int) = ((a &&& b : Nat) : Int) := by
  rw [bitAnd_pp (Int.natCast_nonneg _) (Int.natCast_nonneg _)]
  simp
theorem bxor (a b : Nat) : Builtin.bitXor (a : Int) (b : Int) = ((a ^^^ b : Nat) : Int) := by
  rw [Bits.bitXor_pp (Int.natCast_nonneg _) (Int.natCast_nonneg _)]
  simp
section
variable {n : Nat} {f g : Nat → Bool}
theorem mk_or : Builtin.bitOr (mk n f : Int) (mk n g : Int) = (mk n (fun i => f i || g i) : Nat) := by
  rw [bor]
  congr 1
  refine mk_eq fun i => ?_
  rw [Nat.testBit_or, mk_bit, mk_bit, Bool.and_or_distrib_left]
theorem mk_and : Builtin.bitAnd (mk n f : Int) (mk n g : Int) = (mk n (fun i => f i && g i) : Nat) := by
  rw [band]
  congr 1
  refine mk_eq fun i => ?_
  rw [Nat.testBit_and, mk_bit, mk_bit]
  cases decide (i < n) <;> simp
theorem mk_not : Builtin.bitXor (mk n (fun _ => true) : Int) (mk n g : Int) = (mk n (fun i => !g i) : Nat) := by
  rw [bxor]
  congr 1
  refine mk_eq fun i => ?_
  rw [Nat.testBit_xor, mk_bit, mk_bit]
  cases decide (i < n) <;> simp
end
theorem shl_full (n : Nat) : (1 : Int) * 2 ^ n - 1 = (mk n (fun _ => true) : Nat) := by
  rw [← mk_full]
  have : 1 ≤ 2 ^ n := Nat.one_le_two_pow
  rw [Int.one_mul]
  have e : ((2 ^ n - 1 : Nat) : Int) = ((2 ^ n : Nat) : Int) - 1 := by omega
  rw [e]
  simp
theorem shl_one (n : Nat) : (1 : Int) * 2 ^ n = ((2 ^ n : Nat) : Int) := by simp
theorem cshl1 {n : Nat} (h : n ≤ 1000000) : CShl 1 (n : Int) := ⟨by omega, by
  have : (Builtin.Int.intBits 1 : Int) = 1 := by decide +kernel
  rw [this]
  omega⟩
/-! ### mask_of -/
noncomputable def maskB : DS := (sSeq (sSet 1 (dC (.int 0)))
  (sSeq (sFor (dI iV (dV 0)) (gN 2)
  (sAug 1 opOr (dP2 opShl (dC (.int 1)) (dV 2))))
  (sRet (dV 1))))
noncomputable def maskF : Fn := fnF 1 3 maskB
open Classical in
/-- which of them are in the row -/
noncomputable def inB (L : List PyData) (i : Nat) : Bool := decide (PyData.int (i : Int) ∈ L)
theorem inB_iff {L : List PyData} {i : Nat} : inB L i = true ↔ PyData.int (i : Int) ∈ L := by simp [inB]
def NatsL (n : Nat) (L : List PyData) : Prop := ∀ x ∈ L, ∃ i : Nat, i < n ∧ x = .int (i : Int)
def MaskI (n : Nat) (w : W) (done : List PyData) (ρ : Env) (μ : Mem) : Prop := ∃ e2, ρ = [some w, some (.d (.int (mk n (inB done) : Nat))), e2] ∧ μ = []
theorem mask_ok {n : Nat} {w : W} {L : List PyData} (hw : w = .d (.list L) ∨ w = .d (.tuple L)) (h : NatsL n L) (hn : n ≤ 1000000) : Ok (maskF [w] []) fun r _ => r = .d (.int (mk n (inB L) : Nat)) := by
  have main : Oks (forL (L, none) (gN 2) (sAug 1 opOr (dP2 opShl (dC (.int 1)) (dV 2))) L [some w, some (.d (.int 0)), none] []) (fun ρ1 μ1 => Oks (sRet (dV 1) ρ1 μ1) (fun _ μ1 => W.d PyData.none = .d (.int (mk n (inB L) : Nat))) (fun r _ => r = .d (.int (mk n (inB L) : Nat))) (fun _ _ => False) (fun _ _ => False)) (fun r _ => r = .d (.int (mk n (inB L) : Nat))) (fun _ _ => False) (fun _ _ => False) := by
    refine for_inv (xs := L) (s := (L, none)) (MaskI n w) rfl (fun _ _ _ _ _ => trivial) ⟨none, ?_, rfl⟩ ?_ ?_
    · have : mk n (inB []) = 0 := by
        rw [mk_zero_iff]
        intro i _
        simp [inB]
      rw [this]
      rfl
    · rintro done x r ρ μ e ⟨e2, rfl, rfl⟩
      obtain ⟨i, hi, rfl⟩ := h x (by rw [← e]; simp)
      simp [cshl1 (show i ≤ 1000000 by omega)]
      have : Builtin.bitOr (mk n (inB done) : Nat) (2 ^ i) = (mk n (inB (done ++ [.int (i : Int)])) : Nat) := by
        have e2 : (2 ^ i : Int) = ((2 ^ i : Nat) : Int) := by simp
        rw [e2, bor]
        congr 1
        refine mk_eq fun j => ?_
        rw [Nat.testBit_or, mk_bit, Nat.testBit_two_pow]
        by_cases hj : i = j
        · subst hj; simp [hi, inB]
        · have : inB (done ++ [.int (i : Int)]) j = inB done j := by
            rw [Bool.eq_iff_iff, inB_iff, inB_iff, List.mem_append, List.mem_singleton]
            constructor
            · rintro (h | h)
              · exact h
              · injection h with h; omega
            · exact .inl
          rw [this]
          simp [hj]
      exact ⟨_, by rw [this], rfl⟩
    · rintro ρ μ ⟨e2, rfl, rfl⟩
      simp
  rcases hw with rfl | rfl
  · simpa [maskF, maskB] using main
  · simpa [maskF, maskB] using main
theorem mask_eq {n : Nat} {w : PyData} {L : List PyData} (hw : w = .list L ∨ w = .tuple L) (h : NatsL n L) (hn : n ≤ 1000000) (μ : Mem) : callF maskF [.d w] μ = .ok (.d (.int (mk n (inB L) : Nat))) μ :=
  call_pure rfl (mask_ok (hw.elim (fun h => .inl (by rw [h])) fun h => .inr (by rw [h])) h hn)
end Mok09

set_option autoImplicit false
namespace Mok09
open PySem PySem.Spec PyProof.Rows L2
open PySem.W (dataLt)
/-! ### what a core comes to -/
mutual
def ev (v : Sg → Bool) : Sg → Bool
  | .lt x => v (.lt x)
  | .no s => !ev v s
  | .many w l => if w = true then evAny v l else evAll v l
  | .so a b => !ev v a || ev v b
  | .tl _ _ => false
  | .mod w x s => v (.mod w x s)
def evAny (v : Sg → Bool) : List Sg → Bool
  | [] => false
  | s :: r => ev v s || evAny v r
def evAll (v : Sg → Bool) : List Sg → Bool
  | [] => true
  | s :: r => ev v s && evAll v r
end
theorem evAny_map (v : Sg → Bool) : ∀ l, evAny v l = l.any (ev v)
  | [] => rfl
  | s :: r => by rw [evAny, evAny_map v r, List.any_cons]
theorem evAll_map (v : Sg → Bool) : ∀ l, evAll v l = l.all (ev v)
  | [] => rfl
  | s :: r => by rw [evAll, evAll_map v r, List.all_cons]
mutual
/-- a core whose atoms are among these -/
def Co (A : List Sg) : Sg → Prop
  | .lt x => .lt x ∈ A
  | .no s => Co A s
  | .many _ l => Cos A l
  | .so a b => Co A a ∧ Co A b
  | .tl _ _ => False
  | .mod w x s => w = false ∧ .mod w x s ∈ A
def Cos (A : List Sg) : List Sg → Prop
  | [] => True
  | s :: r => Co A s ∧ Cos A r
end
theorem cos_all {A : List Sg} : ∀ {l : List Sg}, Cos A l ↔ ∀ s ∈ l, Co A s
  | [] => by simp [Cos]
  | s :: r => by simp [Cos, cos_all (l := r)]
mutual
def Sg.pl : Sg → Prop
  | .lt _ => True
  | .no s => s.pl
  | .many _ l => Sg.pls l
  | .so a b => a.pl ∧ b.pl
  | .tl _ _ => False
  | .mod _ _ s => s.pl
def Sg.pls : List Sg → Prop
  | [] => True
  | s :: r => s.pl ∧ Sg.pls r
end
theorem pls_all : ∀ {l : List Sg}, Sg.pls l ↔ ∀ s ∈ l, s.pl
  | [] => by simp [Sg.pls]
  | s :: r => by simp [Sg.pls, pls_all (l := r)]
mutual
theorem ok_pl : ∀ {s : Sg}, s.ok false → s.pl
  | .lt _, _ => trivial
  | .no s, h => ok_pl (s := s) h
  | .many _ l, h => oks_pls h.1
  | .so a b, h => ⟨ok_pl h.1, ok_pl h.2⟩
  | .tl a b, h => by simp [Sg.ok] at h
  | .mod _ _ s, h => ok_pl (s := s) h.2
theorem oks_pls : ∀ {l : List Sg}, Sg.oks false l → Sg.pls l
  | [], _ => trivial
  | s :: r, h => ⟨ok_pl h.1, oks_pls h.2⟩
end
theorem atom_lt (x : Str) : (Sg.lt x).atom = true := by
  show atomW (.str "letter") = true
  decide +kernel
theorem atom_must (x : Str) (s : Sg) : (Sg.mod false x s).atom = true := by
  show atomW (.str (wMod false)) = true
  decide +kernel
theorem atom_no (s : Sg) : (Sg.no s).atom = false := by
  show atomW (.str "not") = false
  decide +kernel
theorem atom_so (a b : Sg) : (Sg.so a b).atom = false := by
  show atomW (.str "so") = false
  decide +kernel
theorem atom_many (w : Bool) (l : List Sg) : (Sg.many w l).atom = false := by
  show atomW (.str (wMany w)) = false
  cases w <;> decide +kernel
mutual
theorem co_core {A : List Sg} : ∀ (s : Sg), s.pl → (∀ x ∈ allP (core s), x.atom = true → x ∈ A) → Co A (core s)
  | .lt x, _, h => h _ (by simp [core, allP]) (atom_lt x)
  | .no s, p, h => co_core s p fun x hx => h x (by simp only [core, allP]; exact List.mem_cons_of_mem _ hx)
  | .many w l, p, h => cos_core l p fun x hx => h x (by simp only [core, allP]; exact List.mem_cons_of_mem _ hx)
  | .so a b, p, h => ⟨co_core a p.1 fun x hx => h x (by simp only [core, allP]; exact List.mem_cons_of_mem _ (List.mem_append_left _ hx)), co_core b p.2 fun x hx => h x (by simp only [core, allP]; exact List.mem_cons_of_mem _ (List.mem_append_right _ hx))⟩
  | .tl a b, p, _ => p.elim
  | .mod true x s, p, h => ⟨rfl, h _ (by simp [core, allP]) (atom_must _ _)⟩
  | .mod false x s, p, h => ⟨rfl, h _ (by simp [core, allP]) (atom_must _ _)⟩
theorem cos_core {A : List Sg} : ∀ (l : List Sg), Sg.pls l → (∀ x ∈ allPs (cores l), x.atom = true → x ∈ A) → Cos A (cores l)
  | [], _, _ => trivial
  | s :: r, p, h => ⟨co_core s p.1 fun x hx => h x (by simp only [cores, allPs]; exact List.mem_append_left _ hx), cos_core r p.2 fun x hx => h x (by simp only [cores, allPs]; exact List.mem_append_right _ hx)⟩
end
/-! ### joined_mask -/
noncomputable def joinB : DS := (sSeq (sIf (dTb (dP2 (opEq false) (dV 0) (dC (.str "not"))))
  (sRet (dP2 opXor (dV 2) (dP2 opIxA (dV 1) (dC (.int 0))))) sNext)
  (sSeq (sIf (dTb (dP2 (opEq false) (dV 0) (dC (.str "so"))))
  (sRet (dP2 opOr (dP2 opXor (dV 2) (dP2 opIxA (dV 1) (dC (.int 0)))) (dP2 opIxA (dV 1) (dC (.int 1))))) sNext)
  (sSeq (sIf (dTb (dP2 (opEq false) (dV 0) (dC (.str "and"))))
  (sSeq (sSet 3 (dV 2))
  (sSeq (sFor (dI iV (dV 1)) (gN 4)
  (sAug 3 opAnd (dV 4)))
  (sRet (dV 3)))) sNext)
  (sSeq (sSet 3 (dC (.int 0)))
  (sSeq (sFor (dI iV (dV 1)) (gN 4)
  (sAug 3 opOr (dV 4)))
  (sRet (dV 3)))))))
noncomputable def joinF : Fn := fnF 3 5 joinB
/-- masks, one for each -/
def mks (n : Nat) (fs : List (Nat → Bool)) : List PyData := fs.map fun f => .int (mk n f : Nat)
def JnI (n : Nat) (w : Str) (fs : List (Nat → Bool)) (g : List (Nat → Bool) → Nat → Bool) (done : List PyData) (ρ : Env) (μ : Mem) : Prop := ∃ (d : List (Nat → Bool)) (e : Option W), done = mks n d ∧ (∃ r, fs = d ++ r) ∧ ρ = [some (.d (.str w)), some (.d (.list (mks n fs))), some (.d (.int (mk n fun _ => true : Nat))), some (.d (.int (mk n (g d) : Nat))), e] ∧ μ = []
theorem mks_split {n : Nat} {fs d : List (Nat → Bool)} {x : PyData} {r : List PyData} (e : mks n d ++ x :: r = mks n fs) (h : ∃ r, fs = d ++ r) : ∃ f, x = .int (mk n f : Nat) ∧ ∃ r, fs = d ++ [f] ++ r := by
  obtain ⟨t, rfl⟩ := h
  unfold mks at e
  rw [List.map_append] at e
  have := List.append_cancel_left e
  match t, this with
  | f :: t, this =>
    simp only [List.map_cons, List.cons.injEq] at this
    exact ⟨f, this.1, t, by simp⟩
theorem join_and {n : Nat} {fs : List (Nat → Bool)} (μ : Mem) : callF joinF [.d (.str "and"), .d (.list (mks n fs)), .d (.int (mk n fun _ => true : Nat))] μ = .ok (.d (.int (mk n fun i => fs.all fun f => f i : Nat))) μ := by
  refine call_pure rfl ?_
  simp (config := { decide := true }) [joinF, joinB]
  refine for_inv (xs := mks n fs) (s := (mks n fs, none)) (JnI n "and" fs fun d i => d.all fun f => f i) rfl (fun _ _ _ _ _ => trivial) ⟨[], none, rfl, ⟨fs, rfl⟩, rfl, rfl⟩ ?_ ?_
  · rintro done x r ρ μ e ⟨d, e2, rfl, h, rfl, rfl⟩
    obtain ⟨f, rfl, h2⟩ := mks_split e h
    simp [mk_and]
    exact ⟨d ++ [f], _, by simp [mks], h2, by simp; rfl, rfl⟩
  · rintro ρ μ ⟨d, e2, e, h, rfl, rfl⟩
    obtain ⟨r, hr⟩ := h
    have : r = [] := by
      have := congrArg List.length e
      rw [hr] at this
      simp [mks] at this
      exact this
    rw [hr, this]
    simp
theorem join_or {n : Nat} {fs : List (Nat → Bool)} (μ : Mem) : callF joinF [.d (.str "or"), .d (.list (mks n fs)), .d (.int (mk n fun _ => true : Nat))] μ = .ok (.d (.int (mk n fun i => fs.any fun f => f i : Nat))) μ := by
  refine call_pure rfl ?_
  simp (config := { decide := true }) [joinF, joinB]
  refine for_inv (xs := mks n fs) (s := (mks n fs, none)) (JnI n "or" fs fun d i => d.any fun f => f i) rfl (fun _ _ _ _ _ => trivial) ⟨[], none, rfl, ⟨fs, rfl⟩, ?_, rfl⟩ ?_ ?_
  · simp [mk_zero]
  · rintro done x r ρ μ e ⟨d, e2, rfl, h, rfl, rfl⟩
    obtain ⟨f, rfl, h2⟩ := mks_split e h
    simp [mk_or]
    exact ⟨d ++ [f], _, by simp [mks], h2, by simp; rfl, rfl⟩
  · rintro ρ μ ⟨d, e2, e, h, rfl, rfl⟩
    obtain ⟨r, hr⟩ := h
    have : r = [] := by
      have := congrArg List.length e
      rw [hr] at this
      simp [mks] at this
      exact this
    rw [hr, this]
    simp
theorem join_not {n : Nat} {f : Nat → Bool} (μ : Mem) : callF joinF [.d (.str "not"), .d (.list (mks n [f])), .d (.int (mk n fun _ => true : Nat))] μ = .ok (.d (.int (mk n fun i => !f i : Nat))) μ := by
  refine call_pure rfl ?_
  simp (config := { decide := true }) [joinF, joinB, mks, mk_not]
theorem join_so {n : Nat} {f g : Nat → Bool} (μ : Mem) : callF joinF [.d (.str "so"), .d (.list (mks n [f, g])), .d (.int (mk n fun _ => true : Nat))] μ = .ok (.d (.int (mk n fun i => !f i || g i : Nat))) μ := by
  refine call_pure rfl ?_
  simp (config := { decide := true }) [joinF, joinB, mks, mk_not, mk_or]
/-! ### a table -/
def TabO (n : Nat) (A : List Sg) (vs : Nat → Sg → Bool) : MO := .o "TruthTable" [("atoms", .tuple (Sg.ds A)), ("columns", .list (A.map fun a => .int (mk n fun i => vs i a : Nat))), ("many", .int (n : Nat)), ("full", .int (mk n fun _ => true : Nat))]
noncomputable def whereB (self : Fn) : DS := (sSeq (sIf (isAtomT 1)
  (sRet (dP2 opIxA (dAt "TruthTable" "columns" (dV 0)) (dMt "tuple" opIndexT (dAt "TruthTable" "atoms" (dV 0)) (dCons (dV 1) dNil)))) sNext)
  (sSeq (sSet 2 (dLc false (dI iV (dCall innerF [] (dCons (dV 1) dNil))) (gN 3) dYes (dMeth "TruthTable" "where_true" self (dV 0) (dCons (dV 3) dNil)) [3]))
  (sRet (dCall joinF [] (dCons (dP2 opIxA (dV 1) (dC (.int 0))) (dCons (dV 2) (dCons (dAt "TruthTable" "full" (dV 0)) dNil)))))))
noncomputable def whereF : Nat → Fn
  | 0 => fun _ _ => .bad
  | n + 1 => fnF 2 4 (whereB (whereF n))
theorem idx_ds {A : List Sg} {c : Sg} (hA : A.Nodup) (hs : ∀ a ∈ A, a.sok) (hc : c ∈ A) : ∃ j, A[j]? = some c ∧ idxD (Sg.ds A) c.d = some j := by
  obtain ⟨j, hj⟩ := List.getElem?_of_mem hc
  refine ⟨j, hj, ?_⟩
  have hjl := (List.getElem?_eq_some_iff.mp hj).1
  have eq1 : ∀ a ∈ A, PyData.eqv a.d c.d = true ↔ a = c := fun a ha => by
    rw [eqv_cmp (cmp_sg a c) (sg_rp (hs a ha)).1]
    exact ⟨d_inj, fun h => by rw [h]⟩
  unfold idxD
  rw [List.findIdx?_eq_some_iff_getElem]
  refine ⟨by rw [ds_len]; exact hjl, ?_, ?_⟩
  · have : (Sg.ds A)[j]'(by rw [ds_len]; exact hjl) = c.d := by
      simp only [ds_map, List.getElem_map]
      rw [(List.getElem?_eq_some_iff.mp hj).2]
    rw [this]
    exact (eq1 c hc).mpr rfl
  · intro i hi
    have hil : i < A.length := by omega
    have : (Sg.ds A)[i]'(by rw [ds_len]; exact hil) = (A[i]).d := by simp only [ds_map, List.getElem_map]
    rw [this]
    intro z
    have e := (eq1 A[i] (List.getElem_mem hil)).mp z
    have e2 := (List.getElem?_eq_some_iff.mp hj).2
    have := (List.getElem_inj (h₀ := hil) (h₁ := hjl) hA).mp (by rw [e, e2])
    omega
theorem sg_shaped {s : Sg} (h : s.sok) (hd : s.d.depth ≤ 64) : SeqAt.shaped s.d = true := by
  simp [SeqAt.shaped, (sg_rp h).1, hd]
theorem ds_lay {l : List Sg} (h : ∀ s ∈ l, s.sok) : PyData.canLayAll0 (Sg.ds l) = true := (sg_rps (soks_all.mpr h)).1
theorem where_ok {n : Nat} {A : List Sg} {vs : Nat → Sg → Bool} (hA : A.Nodup) (hs : ∀ a ∈ A, a.sok) : ∀ (m : Nat) (c : Sg), c.ht < m → c.sok → c.d.depth ≤ 64 → Co A c → ∀ (μ : Mem) (k : Nat), μ[k]? = some (TabO n A vs) →
    Ok (whereF m [.r k, .d c.d] μ) fun w μ' => w = .d (.int (mk n fun i => ev (vs i) c : Nat)) ∧ μ' = μ := by
  intro m
  induction m with
  | zero => intro c h; omega
  | succ m ih =>
    intro c hc hk hd hco μ k hμ
    have call : ∀ p ∈ c.inn, Co A p → ∀ {P : W → Mem → Prop}, P (.d (.int (mk n fun i => ev (vs i) p : Nat))) μ → Ok (callF (whereF m) [.r k, .d p.d] μ) P := by
      intro p hp hcp P q
      rw [ok_callR rfl]
      refine (ih p (by have := inn_ht hp; omega) (inn_sok hp hk) (by have := inn_dep hp; omega) hcp μ k hμ).mono ?_
      rintro w μ' ⟨rfl, rfl⟩
      rw [bkR_d, List.take_length]
      exact q
    have at1 : ∀ {P : W → Mem → Prop} {f : Str} {y : PyData}, ([("atoms", .tuple (Sg.ds A)), ("columns", .list (A.map fun a => .int (mk n fun i => vs i a : Nat))), ("many", .int (n : Nat)), ("full", .int (mk n fun _ => true : Nat))] : List (Str × PyData)).lookup f = some y → Ok (atW "TruthTable" f (.r k) μ) P = P (.d y) μ := fun h => ok_atW hμ h
    have mth : mthW "TruthTable" "where_true" (.r k) μ = true := by
      simp only [mthW, hμ, TabO, Bool.and_eq_true]
      exact ⟨by decide +kernel, rfl⟩
    have hm1 : m + 1 ≠ 0 := by omega
    have atom : ∀ {c : Sg}, c.atom = true → c ∈ A → c.sok → c.d.depth ≤ 64 → Ok (whereF (m + 1) [.r k, .d c.d] μ) fun w μ' => w = .d (.int (mk n fun i => vs i c : Nat)) ∧ μ' = μ := by
      intro c h1 h2 h3 h4
      obtain ⟨j, hj, hi⟩ := idx_ds hA hs h2
      simp only [whereF, whereB, ok_fnF2, oks_seq, oks_if]
      refine isAtom_ok (s := c) rfl ?_
      rw [if_pos h1]
      simp [at1 (f := "columns") (y := _) (by rfl), at1 (f := "atoms") (y := _) (by rfl), tyW, opIndexT, hi, ds_lay hs, sg_shaped h3 h4, pI]
      have : atI (A.map fun a => PyData.int (mk n fun i => vs i a : Nat)) (j : Int) = some (.int (mk n fun i => vs i c : Nat)) := atI_nat (by rw [List.getElem?_map, hj]; rfl)
      rw [this]
    have many : ∀ {P : W → Mem → Prop}, c.atom = false → (∀ p ∈ c.inn, Co A p) → Ok (callF joinF [.d (.str c.w), .d (.list (mks n (c.inn.map fun p i => ev (vs i) p))), .d (.int (mk n fun _ => true : Nat))] μ) (fun w μ' => w = .d (.int (mk n fun i => ev (vs i) c : Nat)) ∧ μ' = μ) → Ok (whereF (m + 1) [.r k, .d c.d] μ) fun w μ' => w = .d (.int (mk n fun i => ev (vs i) c : Nat)) ∧ μ' = μ := by
      intro P h1 h2 h3
      simp only [whereF, whereB, ok_fnF2, oks_seq, oks_if]
      refine isAtom_ok (s := c) rfl ?_
      rw [if_neg (by rw [h1]; decide)]
      simp [inner_eq, ok_dLc]
      refine lc_inv (s := (Sg.ds c.inn, none)) (xs := Sg.ds c.inn) (fun done acc μ' => acc.length = done.length ∧ μ' = μ ∧ acc = (mks n (c.inn.map fun p i => ev (vs i) p)).take done.length) rfl (fun _ _ _ _ _ => trivial) ⟨rfl, rfl, rfl⟩ ?_ ?_
      · rintro done x r acc μ' e ⟨e1, rfl, e3⟩
        have hj : (Sg.ds c.inn)[done.length]? = some x := by rw [← e]; simp
        rw [ds_map, List.getElem?_map] at hj
        obtain ⟨p, hp, rfl⟩ := Option.map_eq_some_iff.mp hj
        have hpm := List.mem_of_getElem? hp
        rw [ok_lcOne]
        simp [wipeE, dYes, mth]
        refine call p hpm (h2 p hpm) ?_
        have hl := inn_len hk
        have hdl : done.length < c.inn.length := (List.getElem?_eq_some_iff.mp hp).1
        refine ⟨by omega, by simp [e1], ?_⟩
        rw [List.take_add_one, e3]
        simp [mks, hp]
      · rintro acc μ' ⟨e1, rfl, e3⟩
        have : acc = mks n (c.inn.map fun p i => ev (vs i) p) := by
          rw [e3, List.take_of_length_le (by simp [mks, ds_len])]
        subst this
        simp [at1 (f := "full") (y := _) (by rfl)]
        exact h3
    cases c with
    | lt x => exact atom (atom_lt x) hco hk hd
    | tl a b => exact hco.elim
    | mod w x s =>
      obtain ⟨rfl, h⟩ := hco
      exact atom (atom_must x s) h hk hd
    | no s =>
      refine many (P := fun _ _ => True) (atom_no s) (fun p hp => by rw [List.mem_singleton.mp hp]; exact hco) ?_
      have := join_not (n := n) (f := fun i => ev (vs i) s) μ
      simp [Sg.inn, Sg.w, this, ev]
    | so a b =>
      refine many (P := fun _ _ => True) (atom_so a b) (fun p hp => ?_) ?_
      · rcases List.mem_cons.mp hp with rfl | hp
        · exact hco.1
        · rw [List.mem_singleton.mp hp]; exact hco.2
      have := join_so (n := n) (f := fun i => ev (vs i) a) (g := fun i => ev (vs i) b) μ
      simp [Sg.inn, Sg.w, this, ev]
    | many w l =>
      refine many (P := fun _ _ => True) (atom_many w l) (fun p hp => cos_all.mp hco p hp) ?_
      cases w with
      | true =>
        have := join_or (n := n) (fs := l.map fun p i => ev (vs i) p) μ
        simp [Sg.inn, Sg.w, wMany, this, ev, evAny_map, Function.comp_def]
      | false =>
        have := join_and (n := n) (fs := l.map fun p i => ev (vs i) p) μ
        simp [Sg.inn, Sg.w, wMany, this, ev, evAll_map, Function.comp_def]
theorem where_eq {n : Nat} {A : List Sg} {vs : Nat → Sg → Bool} (hA : A.Nodup) (hs : ∀ a ∈ A, a.sok) {m : Nat} {c : Sg} (h1 : c.ht < m) (h2 : c.sok) (h3 : c.d.depth ≤ 64) (h4 : Co A c) {μ : Mem} {k : Nat} (h5 : μ[k]? = some (TabO n A vs)) : callF (whereF m) [.r k, .d c.d] μ = .ok (.d (.int (mk n fun i => ev (vs i) c : Nat))) μ := by
  obtain ⟨w, μ', e, rfl, rfl⟩ := (where_ok hA hs m c h1 h2 h3 h4 μ k h5).ex
  unfold callF
  rw [show datas [W.r k, W.d c.d] = none from rfl]
  dsimp only
  rw [e]
  dsimp only
  rw [List.take_length]
end Mok09

set_option autoImplicit false
namespace Mok09
open PySem PySem.Spec PyProof.Rows L2
open PySem.W (dataLt)
/-! ### a table is made -/
def tinitB : DS := (sSeq (sAt "TruthTable" "atoms" (dV 1) (dV 0))
  (sSeq (sAt "TruthTable" "columns" (dV 2) (dV 0))
  (sSeq (sAt "TruthTable" "many" (dV 3) (dV 0))
  (sAt "TruthTable" "full" (dP2 opSub (dP2 opShl (dC (.int 1)) (dV 3)) (dC (.int 1))) (dV 0)))))
def tinitF : Fn := fnF 4 4 tinitB
def colsD (n : Nat) (A : List Sg) (vs : Nat → Sg → Bool) : List PyData := A.map fun a => .int (mk n fun i => vs i a : Nat)
theorem tinit_ok {n : Nat} {A : List Sg} {vs : Nat → Sg → Bool} {μ : Mem} (hn : n ≤ 1000000) : Ok (tinitF [.r μ.length, .d (.tuple (Sg.ds A)), .d (.list (colsD n A vs)), .d (.int (n : Nat))] (μ ++ [.o "TruthTable" []])) fun w μ' => w = .d .none ∧ μ' = μ ++ [TabO n A vs] := by
  have g : ∀ o : MO, (μ ++ [o])[μ.length]? = some o := fun o => by simp
  have st : ∀ {P : Unit → Mem → Prop} {f : Str} {y : PyData} {fs : List (Str × PyData)}, fs.length < 900 → P () (μ ++ [.o "TruthTable" (putO f y fs)]) → Ok (setAt "TruthTable" f y (.r μ.length) (μ ++ [.o "TruthTable" fs])) P := fun h q => by
    rw [ok_setAt (g _) h]
    simpa using q
  simp only [tinitF, tinitB, ok_fnF4, oks_seq, oks_sAt, ok_dV0, ok_dVs]
  refine st (by decide) ?_
  refine st (by simp [putO]) ?_
  refine st (Nat.lt_of_le_of_lt (putO_len _ _ _) (Nat.lt_of_le_of_lt (Nat.succ_le_succ (putO_len _ _ _)) (by simp))) ?_
  simp [cshl1 hn]
  refine st (Nat.lt_of_le_of_lt (putO_len _ _ _) (Nat.lt_of_le_of_lt (Nat.succ_le_succ (Nat.le_trans (putO_len _ _ _) (Nat.succ_le_succ (putO_len _ _ _)))) (by simp))) ?_
  have e := shl_full n
  rw [Int.one_mul] at e
  rw [e]
  rfl
theorem make_tab {n : Nat} {A : List Sg} {vs : Nat → Sg → Bool} {μ : Mem} {P : W → Mem → Prop} (hn : n ≤ 1000000) (q : P (.r μ.length) (μ ++ [TabO n A vs])) : Ok (mkI "TruthTable" tinitF [.d (.tuple (Sg.ds A)), .d (.list (colsD n A vs)), .d (.int (n : Nat))] μ) P := by
  rw [ok_mkI]
  refine (tinit_ok hn).mono ?_
  rintro w μ' ⟨rfl, rfl⟩
  refine ⟨rfl, ?_⟩
  rw [List.take_of_length_le (by simp)]
  exact q
/-- a new thing comes back -/
theorem call_new {F : Fn} {ws : List W} {xs : List PyData} {o : MO} {μ : Mem} (hd : datas ws = some xs) (hno : (∀ z : o = .dead, False) ∧ ∀ x gs, o ≠ .q x gs) (h : Ok (F ws []) fun w μ' => ∃ n, w = .r n ∧ μ'[n]? = some o) : callF F ws μ = .ok (.r μ.length) (μ ++ [o]) := by
  obtain ⟨w, μ', e, n, rfl, hn⟩ := h.ex
  unfold callF
  rw [hd]
  dsimp only
  rw [e]
  dsimp only
  rw [hn]
  cases o with
  | dead => exact (hno.1 rfl).elim
  | q x gs => exact (hno.2 x gs rfl).elim
  | _ => rfl
/-! table_of_rows -/
noncomputable def torB : DS := (sSeq (sSet 2 (dPn (opLst true) dNil))
  (sSeq (sFor (dIs iR1 (dCons (dPn (orO opLen opLenD) (dCons (dV 0) dNil)) dNil)) (gN 3)
  (sExpr (dMt "list" opAppend (dV 2) (dCons (dCall maskF [] (dCons (dLc false (dIs iEn (dCons (dV 1) dNil)) (gT 2 (gCons' (gN 4) (gCons' (gN 5) gNil'))) (dTv (dP2 opIxA (dV 5) (dV 3))) (dV 4) [4, 5]) dNil)) dNil))))
  (sSeq (sLet 2) (sRet (dMake "TruthTable" tinitF (dCons (dV 0) (dCons (dV 2) (dCons (dPn (orO opLen opLenD) (dCons (dV 1) dNil)) dNil))))))))
noncomputable def torF : Fn := fnF 2 6 torB
def rowD (r : List Bool) : PyData := .tuple (r.map .bool)
theorem numb_mem {x : PyData} : ∀ {xs : List PyData} {k : Nat}, x ∈ numb k xs ↔ ∃ i y, xs[i]? = some y ∧ x = .tuple [.int ((k + i : Nat) : Int), y]
  | [], k => by simp [numb]
  | y :: xs, k => by
    rw [numb, List.mem_cons, numb_mem (xs := xs) (k := k + 1)]
    constructor
    · rintro (rfl | ⟨i, z, h1, rfl⟩)
      · exact ⟨0, y, rfl, rfl⟩
      · exact ⟨i + 1, z, by simpa using h1, by rw [show k + 1 + i = k + (i + 1) by omega]⟩
    · rintro ⟨i, z, h1, rfl⟩
      cases i with
      | zero =>
        simp only [List.getElem?_cons_zero, Option.some.injEq] at h1
        subst h1
        exact .inl rfl
      | succ i => exact .inr ⟨i, z, by simpa using h1, by rw [show k + 1 + i = k + (i + 1) by omega]⟩
/-- the place of a pair, whether its row is true there -/
def fstD : PyData → PyData
  | .tuple (x :: _) => x
  | _ => .none
def sndTrue (k : Nat) : PyData → Bool
  | .tuple [_, .tuple xs] => (match xs[k]? with
    | some (.bool b) => b
    | _ => false)
  | _ => false
structure RowsOk (A : List Sg) (rows : List (List Bool)) (vs : Nat → Sg → Bool) : Prop where
  few : rows.length ≤ 100000
  len : ∀ r ∈ rows, r.length = A.length
  val : ∀ (i k : Nat) (r : List Bool) (a : Sg), rows[i]? = some r → A[k]? = some a → r[k]? = some (vs i a)
def TorI (A : List Sg) (rows : List (List Bool)) (vs : Nat → Sg → Bool) (done : List PyData) (ρ : Env) (μ : Mem) : Prop := ∃ e3 e4 e5, ρ = [some (.d (.tuple (Sg.ds A))), some (.d (.list (rows.map rowD))), some (.r 0), e3, e4, e5] ∧ μ = [.l ((colsD rows.length A vs).take done.length)]
theorem intsOf_at {n i : Nat} (h : i < n) : (intsOf 0 n)[i]? = some (.int (i : Int)) := by
  unfold intsOf
  simp [h]
theorem intsOf_len (n : Nat) : (intsOf 0 n).length = n := by simp [intsOf]
theorem done_at {done r : List PyData} {x : PyData} {n : Nat} (e : done ++ x :: r = intsOf 0 n) : done.length < n ∧ x = .int (done.length : Int) := by
  have hd : done.length < n := by
    have := congrArg List.length e
    rw [intsOf_len] at this
    simp at this
    omega
  refine ⟨hd, ?_⟩
  have := intsOf_at hd
  rw [← e] at this
  simpa using this
theorem inR_nat {n : Nat} (h : n ≤ 1000000) : inR (n : Int) = true := inR_lit ⟨by omega, by omega⟩
theorem tor_ok {A : List Sg} {rows : List (List Bool)} {vs : Nat → Sg → Bool} (h : RowsOk A rows vs) (hA : A.length ≤ 100000) : Ok (torF [.d (.tuple (Sg.ds A)), .d (.list (rows.map rowD))] []) fun w μ => ∃ n, w = .r n ∧ μ[n]? = some (TabO rows.length A vs) := by
  have hf := h.few
  simp [torF, torB, ds_len]
  refine ⟨inR_nat (by omega), ?_⟩
  refine for_inv (xs := intsOf 0 A.length) (s := (intsOf 0 A.length, none)) (TorI A rows vs) rfl (fun _ _ _ _ _ => trivial) ⟨none, none, none, rfl, by simp⟩ ?_ ?_
  · rintro done x r ρ μ e ⟨e3, e4, e5, rfl, rfl⟩
    obtain ⟨hd, rfl⟩ := done_at e
    obtain ⟨a, ha⟩ : ∃ a, A[done.length]? = some a := ⟨_, List.getElem?_eq_getElem hd⟩
    simp [tyW, ok_dLc]
    refine lc_pure (s := (numb 0 (rows.map rowD), none)) (xs := numb 0 (rows.map rowD)) (sndTrue done.length) fstD rfl trivial (by rw [numb_len, List.length_map]; exact le_million (by omega)) (fun x hx => ?_) ?_
    · obtain ⟨i, y, h1, rfl⟩ := numb_mem.mp hx
      rw [List.getElem?_map] at h1
      obtain ⟨row, hr, rfl⟩ := Option.map_eq_some_iff.mp h1
      have hv := h.val i done.length row a hr ha
      refine ⟨_, gT2, ?_⟩
      have : atI (row.map PyData.bool) (done.length : Int) = some (.bool (vs i a)) := atI_nat (by rw [List.getElem?_map, hv]; rfl)
      simp [wipeE, rowD, this]
      refine ⟨?_, fun _ => rfl⟩
      simp [sndTrue, hv]
    · have hL : NatsL rows.length (((numb 0 (rows.map rowD)).filter (sndTrue done.length)).map fstD) := by
        intro x hx
        obtain ⟨y, hy, rfl⟩ := List.mem_map.mp hx
        obtain ⟨i, z, h1, rfl⟩ := numb_mem.mp (List.mem_filter.mp hy).1
        have := (List.getElem?_eq_some_iff.mp h1).1
        rw [List.length_map] at this
        exact ⟨i, this, by simp [fstD]⟩
      rw [mask_eq (.inl rfl) hL (by omega)]
      simp only [ok_ok]
      have e6 : mk rows.length (inB (((numb 0 (rows.map rowD)).filter (sndTrue done.length)).map fstD)) = mk rows.length fun i => vs i a := mk_congr fun i hi => by
        rw [Bool.eq_iff_iff, inB_iff, List.mem_map]
        obtain ⟨row, hr⟩ : ∃ row, rows[i]? = some row := ⟨_, List.getElem?_eq_getElem hi⟩
        have hv := h.val i done.length row a hr ha
        constructor
        · rintro ⟨y, hy, hi⟩
          obtain ⟨h1, h2⟩ := List.mem_filter.mp hy
          obtain ⟨j, z, h3, rfl⟩ := numb_mem.mp h1
          simp only [fstD, PyData.int.injEq] at hi
          have : i = j := by omega
          subst this
          rw [List.getElem?_map, hr] at h3
          simp only [Option.map_some, Option.some.injEq] at h3
          subst h3
          simpa [sndTrue, rowD, hv] using h2
        · intro hb
          refine ⟨.tuple [.int (i : Int), rowD row], List.mem_filter.mpr ⟨numb_mem.mpr ⟨i, rowD row, by rw [List.getElem?_map, hr]; rfl, by simp⟩, ?_⟩, rfl⟩
          simp [sndTrue, rowD, hv, hb]
      rw [e6]
      rw [okO_app (xs := (colsD rows.length A vs).take done.length) (by rfl) (le_million (by rw [List.length_take]; omega))]
      refine ⟨_, _, _, rfl, ?_⟩
      simp only [List.set_cons_zero, List.length_append, List.length_singleton]
      rw [List.take_add_one]
      simp [colsD, ha]
  · rintro ρ μ ⟨e3, e4, e5, rfl, rfl⟩
    have e1 : (colsD rows.length A vs).take (intsOf 0 A.length).length = colsD rows.length A vs := List.take_of_length_le (by rw [intsOf_len]; simp [colsD])
    rw [e1]
    simp [frzW]
    refine make_tab (n := rows.length) (A := A) (vs := vs) (μ := [MO.dead]) ?_ ?_
    · omega
    · exact ⟨1, rfl, rfl⟩
theorem tor_eq {A : List Sg} {rows : List (List Bool)} {vs : Nat → Sg → Bool} (h : RowsOk A rows vs) (hA : A.length ≤ 100000) (μ : Mem) : callF torF [.d (.tuple (Sg.ds A)), .d (.list (rows.map rowD))] μ = .ok (.r μ.length) (μ ++ [TabO rows.length A vs]) :=
  call_new rfl ⟨fun z => (by cases z), fun _ _ z => (by cases z)⟩ (tor_ok h hA)
end Mok09

set_option autoImplicit false
namespace Mok09
open PySem PySem.Spec PyProof.Rows L2
open PySem.StrLaws Builtin Builtin.Str
/-! ### data of a depth, of a length -/
structure Th (D N : Nat) (d : PyData) : Prop where
  lay : d.canLay0 = true
  dep : d.depth ≤ D
  shw : d.showable = true
  len : wt d ≤ N
structure Ths (D N : Nat) (xs : List PyData) : Prop where
  lay : PyData.canLayAll0 xs = true
  dep : PyData.depthAll xs ≤ D
  shw : PyData.showableAll xs = true
  len : wts xs ≤ N
section
variable {D N D' N' M : Nat} {d : PyData} {xs ys : List PyData}
theorem Th.mono (h : Th D N d) (e : D ≤ D') (f : N ≤ N') : Th D' N' d := ⟨h.lay, Nat.le_trans h.dep e, h.shw, Nat.le_trans h.len f⟩
theorem Ths.mono (h : Ths D N xs) (e : D ≤ D') (f : N ≤ N') : Ths D' N' xs := ⟨h.lay, Nat.le_trans h.dep e, h.shw, Nat.le_trans h.len f⟩
theorem Th.rp (h : Th D N d) (e : D ≤ 64) (f : N ≤ 1000000) : Rp d := ⟨h.lay, Nat.le_trans h.dep e, h.shw, Nat.le_trans (Nat.le_trans h.len f) (by decide)⟩
theorem Th.shp (h : Th D N d) (e : D ≤ 64) : SeqAt.shaped d = true := by
  have := h.dep
  simp [SeqAt.shaped, h.lay]
  omega
theorem Ths.nil : Ths D N [] := ⟨rfl, by simp [PyData.depthAll], rfl, by simp [wts]⟩
theorem Ths.cons (h : Th D N d) (k : Ths D M xs) : Ths D (N + 2 + M) (d :: xs) := ⟨by simp [h.lay, k.lay], by have := h.dep; have := k.dep; simp only [PyData.depthAll]; omega, by simp [PyData.showableAll, h.shw, k.shw], by have := h.len; have := k.len; simp only [wts]; omega⟩
theorem Ths.hd (h : Ths D N (d :: xs)) : Th D N d ∧ Ths D N xs := by
  obtain ⟨a, b, c, e⟩ := h
  simp only [lay_cons, Bool.and_eq_true, PyData.depthAll, PyData.showableAll, wts] at a b c e
  exact ⟨⟨a.1, by omega, c.1, by omega⟩, ⟨a.2, by omega, c.2, by omega⟩⟩
theorem wts_app : ∀ xs ys : List PyData, wts (xs ++ ys) = wts xs + wts ys
  | [], ys => by simp [wts]
  | x :: xs, ys => by rw [List.cons_append, wts, wts_app xs ys, wts]; omega
theorem Ths.app (h : Ths D N xs) (k : Ths D M ys) : Ths D (N + M) (xs ++ ys) := by
  induction xs generalizing N with
  | nil => exact k.mono (Nat.le_refl _) (by omega)
  | cons x xs ih =>
    obtain ⟨a, b⟩ := h.hd
    have e := h.len
    simp only [wts] at e
    have b' : Ths D (wts xs) xs := ⟨b.lay, b.dep, b.shw, Nat.le_refl _⟩
    have a' : Th D (wt x) x := ⟨a.lay, a.dep, a.shw, Nat.le_refl _⟩
    exact (Ths.cons a' (ih b')).mono (Nat.le_refl _) (by omega)
theorem ths_mem : ∀ {xs : List PyData}, Ths D N xs → ∀ x ∈ xs, Th D N x
  | [], _, x, hx => by cases hx
  | y :: xs, h, x, hx => by
    rcases List.mem_cons.mp hx with rfl | hx
    · exact h.hd.1
    · exact ths_mem h.hd.2 x hx
theorem ths_of0 : ∀ {xs : List PyData}, (∀ x ∈ xs, x.canLay0 = true ∧ x.depth ≤ D ∧ x.showable = true) → Ths D (wts xs) xs
  | [], _ => .nil
  | y :: xs, h => by
    obtain ⟨a, b, c⟩ := h y (by simp)
    exact (Ths.cons ⟨a, b, c, Nat.le_refl _⟩ (ths_of0 (fun x hx => h x (List.mem_cons_of_mem _ hx)))).mono (Nat.le_refl _) (by simp only [wts]; omega)
theorem ths_of {xs : List PyData} (h : ∀ x ∈ xs, x.canLay0 = true ∧ x.depth ≤ D ∧ x.showable = true) (e : wts xs ≤ N) : Ths D N xs := (ths_of0 h).mono (Nat.le_refl _) e
theorem Ths.sub (h : Ths D N xs) (s : ∀ y ∈ ys, y ∈ xs) (e : wts ys ≤ M) : Ths D M ys := ths_of (fun y hy => let q := ths_mem h y (s y hy); ⟨q.lay, q.dep, q.shw⟩) e
theorem wts_take (n : Nat) (xs : List PyData) : wts (xs.take n) + wts (xs.drop n) = wts xs := by
  rw [← wts_app, List.take_append_drop]
theorem Ths.take (h : Ths D N xs) (n : Nat) : Ths D N (xs.take n) := h.sub (fun y hy => List.mem_of_mem_take hy) (by have := wts_take n xs; have := h.len; omega)
theorem Ths.drop (h : Ths D N xs) (n : Nat) : Ths D N (xs.drop n) := h.sub (fun y hy => List.mem_of_mem_drop hy) (by have := wts_take n xs; have := h.len; omega)
theorem wts_rev : ∀ xs : List PyData, wts xs.reverse = wts xs
  | [] => rfl
  | x :: xs => by rw [List.reverse_cons, wts_app, wts_rev xs, wts, wts, wts]; omega
theorem Ths.rev (h : Ths D N xs) : Ths D N xs.reverse := h.sub (fun y hy => List.mem_reverse.mp hy) (by rw [wts_rev]; exact h.len)
theorem Ths.cut (h : Ths D N xs) (lo hi : Option Int) : Ths D N (cutD xs lo hi) := by
  unfold cutD
  exact (h.drop _).take _
theorem Ths.tup (h : Ths D N xs) : Th (D + 1) (N + 3) (.tuple xs) := ⟨by simpa using h.lay, by have := h.dep; simp only [PyData.depth]; omega, by simpa [PyData.showable] using h.shw, by have := h.len; simp only [wt]; omega⟩
theorem Ths.lst (h : Ths D N xs) : Th (D + 1) (N + 3) (.list xs) := ⟨by simpa [PyData.canLay0] using h.lay, by have := h.dep; simp only [PyData.depth]; omega, by simpa [PyData.showable] using h.shw, by have := h.len; simp only [wt]; omega⟩
theorem Th.items (h : Th D N (.tuple xs)) : Ths (D - 1) (N - 3) xs ∧ 1 ≤ D ∧ 3 ≤ N := by
  obtain ⟨a, b, c, e⟩ := h
  simp only [lay_tuple, PyData.depth, PyData.showable, wt] at a b c e
  exact ⟨⟨a, by omega, c, by omega⟩, by omega, by omega⟩
theorem wts_len : ∀ xs : List PyData, 2 * xs.length ≤ wts xs
  | [] => by simp
  | x :: xs => by have := wts_len xs; simp only [wts, List.length_cons]; omega
theorem Ths.size (h : Ths D N xs) : 2 * xs.length ≤ N := Nat.le_trans (wts_len xs) h.len
theorem Th.slen {x : Str} (h : Th D N (.str x)) : x.length + 2 ≤ N := by
  have a := h.len
  simp only [wt] at a
  have : x.length + 2 ≤ (PyData.str x).shown.length := by
    show x.length + 2 ≤ (reprText x).length
    rw [← reprLen_eq]
    have main : ∀ (l : List Nat) (n : Nat), n + l.length ≤ l.foldl (fun n c => n + (reprChar (reprQuote x) c).length) n := by
      intro l
      induction l with
      | nil => intro n; exact Nat.le_refl _
      | cons c l ih =>
        intro n
        have h1 : 1 ≤ (reprChar (reprQuote x) c).length := by
          unfold reprChar
          dsimp only
          repeat' split
          all_goals simp
        have := ih (n + (reprChar (reprQuote x) c).length)
        rw [List.foldl_cons, List.length_cons]
        omega
    have := main x.cps.toList 2
    rw [← Array.foldl_toList]
    simp only [Str.length]
    simp only [Array.length_toList] at this
    omega
  omega
end
/-! ### words -/
def bet (c : Nat) : Bool := (!decide ((⟨#[c]⟩ : Str).cps.toList < (Str.ofString "a").cps.toList)) && !decide ((Str.ofString "z").cps.toList < (⟨#[c]⟩ : Str).cps.toList)
def word : PyData → Bool
  | .str x => decide (1 ≤ x.length) && decide (x.length ≤ 8) && x.cps.toList.all bet
  | _ => false
theorem th_sg {s : Sg} (h : s.sok) (D : Nat) (hd : s.d.depth ≤ D) : Th D (30 * s.sz) s.d := by
  obtain ⟨a, b, c, d⟩ := sg_rp h
  exact ⟨a, hd, c, by omega⟩
theorem ths_le {D N : Nat} : ∀ {xs : List PyData}, (∀ x ∈ xs, Th D N x) → Ths D (xs.length * (N + 2)) xs
  | [], _ => .nil
  | x :: xs, h => by
    have a := Ths.cons (h x (by simp)) (ths_le fun y hy => h y (List.mem_cons_of_mem _ hy))
    exact a.mono (Nat.le_refl _) (by rw [List.length_cons, Nat.add_mul, Nat.one_mul]; omega)
end Mok09

set_option autoImplicit false
namespace Mok09
open PySem PySem.Spec PyProof.Rows L2
/-! ### sets of texts -/
/-- the set at a holds just these texts -/
def TxSet (P : Program) (w : World) (h : Heap) (a : Addr) (l : List Str) : Prop :=
  ∃ D : PySem.Froz.SD, h.get? a = some (PySem.Froz.sObj "set" D) ∧ PySem.Froz.TxOk P w D l ∧ Ris D.2.2.place.toList ∧ (w.params.followText "set-order" = true ∨ D.2.2.led = true)
section
variable {P : Program} {w : World} {A : Around} {E : Value → Shared → Prop} {s : Shared}
theorem TxSet.fresh {h : Heap} : TxSet P w (h.push { cls := .type "set", dict := none, data := .set #[] 0 (.fresh 0 0 (!w.params.followText "set-order")) }) h.objs.size [] :=
  ⟨(#[], 0, .fresh 0 0 (!w.params.followText "set-order")), Heap.get?_push_size _ rfl, .nil (by rfl), List.Pairwise.nil, by
    show _ ∨ (!w.params.followText "set-order") = true
    cases w.params.followText "set-order"
    · exact .inr rfl
    · exact .inl rfl⟩
end
def txOf : Value → Str
  | .str x _ => x
  | _ => Str.empty
section
variable {P : Program} {w : World} {A : Around} {E : Value → Shared → Prop} {s : Shared}
end
/-- a set of just these texts stands at a -/
def TxO (P : Program) (w : World) (a : Addr) (l : List Str) : HO := .ext fun h => TxSet P w h a l ∧ l.Nodup
theorem TxSet.at {P : Program} {w : World} {h h' : Heap} {a : Addr} {l : List Str} (R : TxSet P w h a l) (k : ∀ o, h.get? a = some o → h'.get? a = some o) : TxSet P w h' a l :=
  let ⟨D, ho, r⟩ := R
  ⟨D, k _ ho, r⟩
section
variable {X : Cx}
/-- sorted of a set of texts -/
def rSortTx (P : Program) (w : World) : List V → Hp → VK → Prop := fun vs H Q => ∃ (a : Addr) (l : List Str), vs = [.ref a] ∧ H a = some (TxO P w a l) ∧ l.length < 64 ∧ ∀ ys p, ys.Perm l → sortedS ys = true → H p = none → Q (.ref p) (upd H p (.lst (ys.map V.str)))
end
/-! ### a set comprehension, whatever its things: N0 the new set, Ad what one more thing does -/
def tSg (N0 : Addr → HO) (Ad : Hp → Addr → V → (Hp → Prop) → Prop) (wi : TI) (g : TG) (tt : TT) (te : TE) (vs : List Nat) : TE := fun σ H Q => wi σ H fun J H1 => ∀ D, H1 D = none → ∃ W : Nat → Nat → Hp → Prop, (∃ m, W 0 m (upd H1 D (N0 D))) ∧ ∀ i m H, W i m H →
  (J.stop i H ∧ Q (.ref D) H) ∨ (J.go i H ∧ ∃ Nx : Hp → Prop, (∀ H', Nx H' → ∃ m', m' < m ∧ W (i + 1) m' H') ∧ ∀ x H', J.yld i H x H' → g x (wipe σ vs) H' fun σ2 H2 => wipe σ2 vs = wipe σ vs ∧ tt σ2 H2 fun b H3 =>
    if b = true then te σ2 H3 fun y H4 => Ad H4 D y Nx else Nx H3)
/-- what is asked of them -/
structure SetWay (P : Program) (w : World) (N0 : Addr → HO) (Ad : Hp → Addr → V → (Hp → Prop) → Prop) : Prop where
  new : ∀ (H : Hp) (h : Heap), ObjOk P w H (h.push { cls := .type "set", dict := none, data := .set #[] 0 (.fresh 0 0 (!w.params.followText "set-order")) }) h.objs.size (N0 h.objs.size)
  add : ∀ {X : Cx} (pins : List (Addr × Obj)) (s : Shared) (σ : L2.St) (H : Hp) (D : Addr) (y : V) (u : Value) (N : Hp → Prop) (Q E : Value → Shared → Prop), X.prog = P → X.w = w → Inv X pins σ H s → RelV y u → Ad H D y N → (∀ H' s', Inv X pins σ H' s' → N H' → Q .none s') →
    wpAny (model X.prog X.w) X.A (call (.builtin "set.add") [.ref D, u]) Q E s
section
variable {X : Cx} {N0 : Addr → HO} {Ad : Hp → Addr → V → (Hp → Prop) → Prop}
/-- of texts -/
def AdT (P : Program) (w : World) : Hp → Addr → V → (Hp → Prop) → Prop := fun H D y N => ∃ (k : Str) (l : List Str), y = .str k ∧ H D = some (TxO P w D l) ∧ l.length + 1 < scanBound ∧ N (upd H D (TxO P w D (if k ∈ l then l else k :: l)))
end
end Mok09

set_option autoImplicit false
namespace Mok09
open PySem PySem.Spec PyProof.Rows L2
open PySem.W (dataLt)
/-! ### what nobody sees while it is made, in general -/
section
variable {X : Cx} {ct : Ct} {Z : WX}
/-! ### a set of texts -/
structure HidT (P : Program) (w : World) (D : Addr) (h0 : List Addr) (m : Ms) (H : Hp) (acc : List PyData) : Prop where
  hid : m.h = D :: h0
  at_ : ∃ l : List Str, l.Nodup ∧ H D = some (TxO P w D l) ∧ acc = l.map .str
def hasS (acc : List PyData) (k : Str) : Bool := acc.any fun y => match y with
  | .str z => decide (z = k)
  | _ => false
/-- one more text -/
def addS (acc : List PyData) (k : Str) : List PyData := if hasS acc k = true then acc else .str k :: acc
def scOne (tt : DT) (te : DE) (ρ : Env) (acc : List PyData) (μ : Mem) : Res (List PyData) :=
  bnd (noX (tt ρ μ)) fun b μ1 => if b = true then bnd (noX (te ρ μ1)) fun w μ2 => match w with
    | .d (.str k) => if acc.length < 63 then .ok (addS acc k) μ2 else .bad
    | _ => .bad else .ok acc μ1
/-- sorted({e for x in it if ..}), of texts -/
noncomputable def dSortSc (di : DI) (g : PyData → Env → Option Env) (tt : DT) (te : DE) (vs : List Nat) : DE := fun ρ μ => bnd (di ρ μ) fun s μ1 =>
  bnd (lcL s g (scOne tt te) (wipeE ρ vs) s.1 [] μ1) fun acc μ2 => .ok (.d (.list (sortD acc))) μ2
section
variable {scope : Scope} {own : List (Str × Nat)} {tg iter elt : Expr} {ifs : List Expr} {spos p pos : Pos} {di : DI} {g : PyData → Env → Option Env} {us : List Nat} {dt : DT} {de : DE}
end
end
end Mok09

set_option autoImplicit false
namespace Mok09
open PySem PySem.Spec PyProof.Rows L2
open PySem.W (dataLt)
section
variable {ρ : Env} {μ : Mem} {Pa : List PyData → Mem → Prop} {Pw : W → Mem → Prop}
end
theorem sub_len {α : Type} [DecidableEq α] : ∀ {l m : List α}, l.Nodup → (∀ x ∈ l, x ∈ m) → l.length ≤ m.length
  | [], m, _, _ => by simp
  | x :: l, m, hn, h => by
    obtain ⟨h1, h2⟩ := List.nodup_cons.mp hn
    have hx := h x (by simp)
    have := sub_len (l := l) (m := m.erase x) h2 fun y hy => (List.mem_erase_of_ne (fun e : y = x => h1 (by rw [← e]; exact hy))).mpr (h y (List.mem_cons_of_mem _ hy))
    rw [List.length_erase_of_mem hx] at this
    have : 0 < m.length := List.length_pos_of_mem hx
    simp only [List.length_cons]
    omega
/-- the sorted texts that are just these -/
def TxtsD (l : List Str) (xs : List PyData) : Prop := ∃ m : List Str, m.Nodup ∧ (∀ a, a ∈ m ↔ a ∈ l) ∧ xs = sortD (m.map .str)
def ScI (R : PyData → Option Str) (done acc : List PyData) (μ' : Mem) : Prop := μ' = [] ∧ ∃ m : List Str, acc = m.map .str ∧ m.Nodup ∧ ∀ a, a ∈ m ↔ ∃ x ∈ done, R x = some a
/-! ### letters_of, hands_of -/
noncomputable def lettersB : DS := (sRet (dPn opTu (dCons (dSortSc (dI iV (dCall everyF [] (dCons (dV 0) dNil))) (gN 1) (dTb (dP2 (opEq false) (dP2 opIxA (dV 1) (dC (.int 0))) (dC (.str "letter")))) (dP2 opIxA (dV 1) (dC (.int 1))) [1]) dNil)))
noncomputable def lettersF : Fn := fnF 1 2 lettersB
noncomputable def handsB : DS := (sRet (dPn opTu (dCons (dSortSc (dI iV (dCall everyF [] (dCons (dV 0) dNil))) (gN 1) (dTb (dP2 (opInA false) (dP2 opIxA (dV 1) (dC (.int 0))) (dPn opTup (dCons (dC (.str "must")) (dCons (dC (.str "may")) dNil))))) (dP2 opIxA (dV 1) (dC (.int 1))) [1]) dNil)))
noncomputable def handsF : Fn := fnF 1 2 handsB
/-! the letters, the hands that stand in it, with how often -/
mutual
def lts : Sg → List Str
  | .lt x => [x]
  | .no s => lts s
  | .many _ l => ltss l
  | .so a b => lts a ++ lts b
  | .tl a b => lts a ++ lts b
  | .mod _ _ s => lts s
def ltss : List Sg → List Str
  | [] => []
  | s :: r => lts s ++ ltss r
end
mutual
def hds : Sg → List Str
  | .lt _ => []
  | .no s => hds s
  | .many _ l => hdss l
  | .so a b => hds a ++ hds b
  | .tl a b => hds a ++ hds b
  | .mod _ h s => h :: hds s
def hdss : List Sg → List Str
  | [] => []
  | s :: r => hds s ++ hdss r
end
def ltR : PyData → Option Str
  | .tuple [.str w, .str a] => if w = "letter" then some a else none
  | _ => none
def hdR : PyData → Option Str
  | .tuple [.str w, .str a, _] => if w = "must" ∨ w = "may" then some a else none
  | _ => none
end Mok09

set_option autoImplicit false
namespace Mok09
open PySem PySem.Spec PyProof.Rows L2
open PySem.W (dataLt)
/-! ### one row of truths -/
open Classical in
noncomputable def vOf : List Sg → List Bool → Sg → Bool
  | a :: A, t :: ts, s => if s = a then t else vOf A ts s
  | _, _, _ => false
theorem vOf_at : ∀ {A : List Sg} {ts : List Bool} {k : Nat} {a : Sg} {t : Bool}, A.Nodup → A[k]? = some a → ts[k]? = some t → vOf A ts a = t
  | b :: A, u :: ts, 0, a, t, _, h, h2 => by
    simp at h h2
    subst h h2
    simp [vOf]
  | b :: A, u :: ts, k + 1, a, t, hn, h, h2 => by
    have hm := List.mem_of_getElem? (l := A) (i := k) (by simpa using h)
    have : a ≠ b := fun e => (List.nodup_cons.mp hn).1 (e ▸ hm)
    rw [vOf, if_neg this]
    exact vOf_at (List.nodup_cons.mp hn).2 (by simpa using h) (by simpa using h2)
  | [], _, k, a, t, _, h, _ => by simp at h
  | _ :: _, [], k, a, t, _, _, h => by simp at h
theorem mk1 (f : Nat → Bool) : mk 1 f = if f 0 = true then 1 else 0 := by
  simp [mk]
structure AtA (A : List Sg) : Prop where
  nodup : A.Nodup
  sok : ∀ a ∈ A, a.sok
  at_ : ∀ a ∈ A, a.atom = true
  few : A.length ≤ 100000
noncomputable def toldByB : DS := (sRet (dP2 (opEq false) (dMeth "TruthTable" "where_true" (whereF 40) (dCall torF [] (dCons (dV 0) (dCons (dPn (opLst false) (dCons (dV 1) dNil)) dNil))) (dCons (dV 2) dNil)) (dC (.int 1))))
noncomputable def toldByF : Fn := fnF 3 3 toldByB
noncomputable def sortTellsB (n : Nat) : DS := (sRet (dCall toldByF [] (dCons (dCall (atomsF n) [] (dCons (dV 0) dNil)) (dCons (dV 1) (dCons (dCall (coreF n) [] (dCons (dV 0) dNil)) dNil)))))
noncomputable def sortTellsF (n : Nat) : Fn := fnF 2 2 (sortTellsB n)
theorem told_ok {A : List Sg} {ts : List Bool} {c : Sg} (hA : AtA A) (hl : ts.length = A.length) (h1 : c.ht < 40) (h2 : c.sok) (h3 : c.d.depth ≤ 64) (h4 : Co A c) (μ : Mem) : callF toldByF [.d (.tuple (Sg.ds A)), .d (rowD ts), .d c.d] μ = .ok (.d (.bool (ev (vOf A ts) c))) μ := by
  refine call_pure rfl ?_
  have hr : RowsOk A [ts] (fun _ => vOf A ts) := ⟨by simp, fun r hr => by rw [List.mem_singleton.mp hr]; exact hl, fun i k r a h5 h6 => by
    have hi : i = 0 := by
      have := (List.getElem?_eq_some_iff.mp h5).1
      simp at this
      exact this
    subst hi
    simp at h5
    subst h5
    have hk := (List.getElem?_eq_some_iff.mp h6).1
    have e : ts[k]? = some (ts[k]'(by omega)) := List.getElem?_eq_getElem _
    rw [e, vOf_at hA.nodup h6 e]⟩
  have e1 : ∀ μ, callF torF [.d (.tuple (Sg.ds A)), .d (.list [rowD ts])] μ = .ok (.r μ.length) (μ ++ [TabO 1 A fun _ => vOf A ts]) := fun μ => tor_eq hr hA.few μ
  have e2 : callF (whereF 40) [.r 0, .d c.d] [TabO 1 A fun _ => vOf A ts] = _ := where_eq hA.nodup hA.sok h1 h2 h3 h4 (k := 0) (n := 1) (vs := fun _ => vOf A ts) rfl
  have m : mthW "TruthTable" "where_true" (.r 0) [TabO 1 A fun _ => vOf A ts] = true := by
    simp only [mthW, List.getElem?_cons_zero, TabO, Bool.and_eq_true]
    exact ⟨by decide +kernel, rfl⟩
  simp [toldByF, toldByB, e1, e2, m, mk1]
  cases ev (vOf A ts) c <;> simp
def pairsA (A : List Sg) (ts : List Bool) : List (PyData × PyData) := List.zipWith (fun a t => (.str a.d.shown, .bool t)) A ts
theorem getD_str {z : Str} {y : PyData} {x : Str} {kvs : List (PyData × PyData)} : getD ((.str x, y) :: kvs) (.str z) = if x = z then some y else getD kvs (.str z) := by
  unfold getD
  rw [List.find?_cons]
  by_cases h : x = z
  · simp [h]
  · have : ¬ keyD (.str x) = keyD (.str z) := by
      intro e
      simp [keyD] at e
      exact h e
    simp [h, this]
theorem getP_in : ∀ {A : List Sg} {ts : List Bool} {c : Sg}, (∀ a ∈ A, a.sok) → ts.length = A.length → c.sok → c ∈ A → getD (pairsA A ts) (.str c.d.shown) = some (.bool (vOf A ts c))
  | a :: A, t :: ts, c, hs, hl, hc, h => by
    simp only [pairsA, List.zipWith_cons_cons, vOf]
    rw [getD_str]
    by_cases e : c = a
    · subst e; simp
    · have : ¬ a.d.shown = c.d.shown := fun z => e (repr_inj (hs a (by simp)) hc z).symm
      rw [if_neg this, if_neg e]
      exact getP_in (fun x hx => hs x (List.mem_cons_of_mem _ hx)) (by simpa using hl) hc ((List.mem_cons.mp h).resolve_left e)
  | [], _, _, _, _, _, h => by cases h
  | _ :: _, [], _, _, hl, _, _ => by simp at hl
theorem getP_out : ∀ {A : List Sg} {ts : List Bool} {c : Sg}, (∀ a ∈ A, a.sok) → c.sok → c ∉ A → getD (pairsA A ts) (.str c.d.shown) = none
  | a :: A, t :: ts, c, hs, hc, h => by
    simp only [pairsA, List.zipWith_cons_cons]
    rw [getD_str]
    have : ¬ a.d.shown = c.d.shown := fun z => h (by rw [repr_inj (hs a (by simp)) hc z]; simp)
    rw [if_neg this]
    exact getP_out (fun x hx => hs x (List.mem_cons_of_mem _ hx)) hc fun z => h (List.mem_cons_of_mem _ z)
  | [], _, _, _, _, _ => by simp [pairsA, getD]
  | _ :: _, [], _, _, _, _ => by simp [pairsA, getD]
section
variable {μ : Mem} {Pw : W → Mem → Prop}
theorem okO_inDict {neg : Bool} {z : Str} {kvs : List (PyData × PyData)} : OkO (opInA neg [.d (.str z), .d (.dict kvs)] μ) Pw = Pw (.d (.bool (if neg = true then !(getD kvs (.str z)).isSome else (getD kvs (.str z)).isSome))) μ := by
  simp [opInA, orO, opIn, opInD, keyD, pB]
theorem okO_ixDict {z : Str} {y : PyData} {kvs : List (PyData × PyData)} (h : getD kvs (.str z) = some y) : OkO (opIxA [.d (.dict kvs), .d (.str z)] μ) Pw = Pw (.d y) μ := by
  simp [opIxA, orO, opIx, opIxD, keyD, h]
theorem okO_in2l {neg : Bool} {x : PyData} {ys : List PyData} (h : SeqAt.shaped x = true) (k : PyData.canLayAll0 ys = true) : OkO (opInA neg [.d x, .d (.list ys)] μ) Pw = Pw (.d (.bool (if neg = true then !(ys.any fun y => PyData.eqv y x) else ys.any fun y => PyData.eqv y x))) μ := by
  simp [opInA, orO, opIn, h, k, pB]
end
theorem lay_bools (bs : List Bool) : PyData.canLayAll0 (bs.map .bool) = true := by
  induction bs with
  | nil => rfl
  | cons b bs ih => simpa using ih
theorem lay_bools' {α : Type} (f : α → Bool) (l : List α) : PyData.canLayAll0 (l.map fun x => .bool (f x)) = true := by
  have := lay_bools (l.map f)
  rwa [List.map_map] at this
theorem pairsD_map : ∀ ps : List (PyData × PyData), (∀ p ∈ ps, (keyD p.1).isSome = true) → pairsD (ps.map fun p => .tuple [p.1, p.2]) = some ps
  | [], _ => rfl
  | p :: r, h => by
    have h1 := h p (by simp)
    cases q : keyD p.1 with
    | none => rw [q] at h1; cases h1
    | some k => simp [pairsD, pairsD_map r fun x hx => h x (List.mem_cons_of_mem _ hx), q]
theorem putD_new {kvs : List (PyData × PyData)} {k x : PyData} (h : ∀ p ∈ kvs, keyD p.1 ≠ keyD k) : putD kvs k x = kvs ++ [(k, x)] := by
  unfold putD
  rw [if_neg]
  rw [List.any_eq_true]
  rintro ⟨p, hp, h2⟩
  exact h p hp (of_decide_eq_true h2)
theorem mkD_go : ∀ (ps kvs : List (PyData × PyData)), (∀ p ∈ kvs, ∀ q ∈ ps, keyD p.1 ≠ keyD q.1) → ps.Pairwise (fun p q => keyD p.1 ≠ keyD q.1) → ps.foldl (fun a p => putD a p.1 p.2) kvs = kvs ++ ps
  | [], kvs, _, _ => by simp
  | p :: r, kvs, h1, h2 => by
    obtain ⟨h3, h4⟩ := List.pairwise_cons.mp h2
    rw [List.foldl_cons, putD_new fun q hq => h1 q hq p (by simp), mkD_go r _ (fun q hq z hz => ?_) h4]
    · simp
    · rcases List.mem_append.mp hq with hq | hq
      · exact h1 q hq z (List.mem_cons_of_mem _ hz)
      · rw [List.mem_singleton.mp hq]; exact h3 z hz
theorem mkD_nodup {ps : List (PyData × PyData)} (h : ps.Pairwise (fun p q => keyD p.1 ≠ keyD q.1)) : mkD ps = ps := by
  unfold mkD
  rw [mkD_go ps [] (by simp) h]
  rfl
theorem tells_eq {n : Nat} {s : Sg} {A : List Sg} {ts : List Bool} (h : Cs n s) (p : s.pl) (hat : atomsD s = Sg.ds A) (hA : AtA A) (hco : Co A (core s)) (hl : ts.length = A.length) (μ : Mem) : callF (sortTellsF n) [.d s.d, .d (rowD ts)] μ = .ok (.d (.bool (ev (vOf A ts) (core s)))) μ := by
  have a1 : ∀ μ, callF (atomsF n) [.d s.d] μ = .ok (.d (.tuple (Sg.ds A))) μ := fun μ => by rw [← hat]; exact atoms_eq h μ
  have a2 : ∀ μ, callF toldByF [.d (.tuple (Sg.ds A)), .d (rowD ts), .d (core s).d] μ = .ok (.d (.bool (ev (vOf A ts) (core s)))) μ := told_ok hA hl h.cht ((core_sz s).2.2 h.sok) (by have := h.dep; omega) hco
  have a3 : ∀ μ, callF (coreF n) [.d s.d] μ = .ok (.d (core s).d) μ := core_ok n s h.ht h.sok
  exact call_pure rfl (by simp [sortTellsF, sortTellsB, a1, a2, a3])
end Mok09

set_option autoImplicit false
namespace Mok09
open PySem PySem.Spec PyProof.Rows L2
/-! ### tuple(zip(a tuple, a tuple as long)) -/
section
variable {prog : Program} {w : World} {A : Around} {E : Value → Shared → Prop} {s : Shared}
/-- what a zip needs to go on: its own things apart, the tuples walked -/
structure Zw (h : Heap) (z TI TO i1 i2 l1 l2 : Addr) (xs ys : Array Value) (k : Nat) : Prop where
  ap : ZipApart z TI TO i1 i2 l1 l2
  ti : IsPair h TI (.ref i1) (.ref i2)
  to : ∃ a b, IsPair h TO a b
  w1 : h.IsTupleIter i1 l1 k
  w2 : h.IsTupleIter i2 l2 k
  t1 : h.IsTuple l1 xs
  t2 : h.IsTuple l2 ys
theorem Zw.keep {h g : Heap} {z TI TO i1 i2 l1 l2 : Addr} {xs ys : Array Value} {k : Nat} (a : Zw h z TI TO i1 i2 l1 l2 xs ys k) (q : ∀ b o, h.get? b = some o → b = TI ∨ b = TO ∨ b = i1 ∨ b = i2 ∨ b = l1 ∨ b = l2 → g.get? b = some o) : Zw g z TI TO i1 i2 l1 l2 xs ys k := by
  obtain ⟨a1, a2, ⟨u, v, a3⟩, a4, a5, a6, a7⟩ := a
  exact ⟨a1, q _ _ a2 (.inl rfl), ⟨u, v, q _ _ a3 (.inr (.inl rfl))⟩, a4.at fun o e => q _ o e (.inr (.inr (.inl rfl))), a5.at fun o e => q _ o e (.inr (.inr (.inr (.inl rfl)))), a6.at fun o e => q _ o e (.inr (.inr (.inr (.inr (.inl rfl))))), a7.at fun o e => q _ o e (.inr (.inr (.inr (.inr (.inr rfl)))))⟩
theorem held_next {z TI TO T i1 i2 l1 l2 : Addr} {f : Bool} {ob : Obj} {k : Nat} {xs ys : Array Value} {x y : Value} {Q : Option Value → Shared → Prop} (Z : Zw s.heap z TI TO i1 i2 l1 l2 xs ys k) (hz : IsZipHeld s.heap z TI TO T f) (al : s.heap.get? T = some ob) (ex : xs[k]? = some x) (ey : ys[k]? = some y)
    (q : ∀ g : Heap, IsZipHeld g z TI TO T true → Zw g z TI TO i1 i2 l1 l2 xs ys (k + 1) → IsPair g s.heap.objs.size x y → g.objs.size = s.heap.objs.size + 1 → (∀ c o, c ≠ z → c ≠ i1 → c ≠ i2 → s.heap.get? c = some o → g.get? c = some o) → Q (some (.ref s.heap.objs.size)) { s with heap := g }) :
    wpAny (model prog w) A (pyNext (.ref z)) Q E s := by
  obtain ⟨D, ti, ⟨ta, tb, to⟩, a1, a2, b1, b2⟩ := Z
  have ty : s.TypeIs (.ref z) "zip" := ⟨_, hz, rfl⟩
  unfold pyNext
  refine wpAny_bind (wpAny_attempt (wpAny_callSpecial?_slot (name := Str.ofString "__next__") ty F.slot_zip_next (wpAny_call_entry F.slot_zip_next ty F.entry_zip_next ?_ (F.args_zip_next_1 _))))
  show wpAny _ _ (field (.ref z) 2 >>= _) _ _ s
  refine wpAny_bind (wpAny_field hz rfl (x := .bool false) rfl ?_)
  show wpAny _ _ (field (.ref z) 3 >>= _) _ _ s
  refine wpAny_bind (wpAny_field hz rfl (x := .ref TI) rfl (wpAny_bind (wpAny_seqItems ti rfl ?_)))
  show wpAny _ _ (Builtin.SmallTypes.ownedTupleIsFree (.ref z) >>= _) _ _ s
  refine wpAny_bind (wpAny_tupleHeld_zip hz al fun g1 z1 k1 => ?_)
  simp only [Bool.false_eq_true, if_false]
  refine wpAny_bind ?_
  rw [← Array.forIn_toList]
  simp only [List.forIn_cons, List.forIn_nil]
  refine wpAny_bind (wpAny_bind (wpAny_holding ?_))
  show wpAny _ _ (Builtin.SmallTypes.nextOf (.ref i1) >>= _) _ _ { s with heap := g1 }
  refine wpAny_bind (RZ.nextOf_tuple_item (a1.extBut k1.extBut D.i1z) (b1.extBut k1.extBut D.l1z) ex fun g2 c1 k2 => wpAny_pure (wpAny_pure ?_))
  refine wpAny_bind (wpAny_bind (wpAny_holding ?_))
  show wpAny _ _ (Builtin.SmallTypes.nextOf (.ref i2) >>= _) _ _ { s with heap := g2 }
  refine wpAny_bind (RZ.nextOf_tuple_item ((a2.extBut k1.extBut D.i2z).extBut k2.extBut D.i12.symm) ((b2.extBut k1.extBut D.l2z).extBut k2.extBut D.l2i1) ey fun g3 c2 k3 => wpAny_pure (wpAny_pure (wpAny_pure ?_)))
  show wpAny _ _ (newTuple [x, y] >>= _) _ _ { s with heap := g3 }
  refine wpAny_bind (wpAny_newTuple ?_)
  have hs : g3.objs.size = s.heap.objs.size := by rw [k3.1, k2.1, k1.1]
  have old : ∀ c o, c ≠ z → c ≠ i1 → c ≠ i2 → s.heap.get? c = some o → g3.get? c = some o := fun c o n1 n2 n3 e => k3.extBut _ _ n3 (k2.extBut _ _ n2 (k1.extBut _ _ n1 e))
  have zz : IsZipHeld g3 z TI TO T true := k3.extBut _ _ D.i2z.symm (k2.extBut _ _ D.i1z.symm z1)
  have up : ∀ {c : Addr} {o : Obj}, g3.get? c = some o → (g3.push { cls := .type "tuple", data := .seq #[x, y] }).get? c = some o := fun e => Heap.get?_push_of_some _ e
  refine wpAny_pure ⟨_, rfl, wpAny_pure ?_⟩
  have pr : IsPair (g3.push { cls := .type "tuple", data := .seq #[x, y] }) g3.objs.size x y := Heap.get?_push_size _ rfl
  have sz : (g3.push { cls := .type "tuple", data := .seq #[x, y] }).objs.size = g3.objs.size + 1 := Heap.size_push ..
  show Q (some (.ref g3.objs.size)) _
  rw [hs] at pr sz ⊢
  refine q _ (up zz) ⟨D, up (old _ _ D.TIz D.TIi1 D.TIi2 ti), ⟨ta, tb, up (old _ _ D.TOz D.TOi1 D.TOi2 to)⟩, (c1.extBut k3.extBut D.i12).at fun o e => up e, c2.at fun o e => up e, b1.at fun o e => up (old _ o D.l1z D.l1i1 D.l1i2 e), b2.at fun o e => up (old _ o D.l2z D.l2i1 D.l2i2 e)⟩ pr sz fun c o n1 n2 n3 e => up (old c o n1 n2 n3 e)
theorem held_end {z TI TO T i1 i2 l1 l2 : Addr} {f : Bool} {ob : Obj} {k : Nat} {xs ys : Array Value} {Q : Option Value → Shared → Prop} (hh : A.handled = none) (Z : Zw s.heap z TI TO i1 i2 l1 l2 xs ys k) (hz : IsZipHeld s.heap z TI TO T f) (al : s.heap.get? T = some ob) (ex : xs[k]? = none)
    (q : ∀ g : Heap, (∀ c o, c ≠ z → c ≠ i1 → c ≠ i2 → s.heap.get? c = some o → g.get? c = some o) → Q none { s with heap := g }) : wpAny (model prog w) A (pyNext (.ref z)) Q E s := by
  obtain ⟨D, ti, _, a1, a2, b1, b2⟩ := Z
  have ty : s.TypeIs (.ref z) "zip" := ⟨_, hz, rfl⟩
  unfold pyNext
  refine wpAny_bind (wpAny_attempt (wpAny_callSpecial?_slot (name := Str.ofString "__next__") ty F.slot_zip_next (wpAny_call_entry F.slot_zip_next ty F.entry_zip_next ?_ (F.args_zip_next_1 _))))
  show wpAny _ _ (field (.ref z) 2 >>= _) _ _ s
  refine wpAny_bind (wpAny_field hz rfl (x := .bool false) rfl ?_)
  show wpAny _ _ (field (.ref z) 3 >>= _) _ _ s
  refine wpAny_bind (wpAny_field hz rfl (x := .ref TI) rfl (wpAny_bind (wpAny_seqItems ti rfl ?_)))
  show wpAny _ _ (Builtin.SmallTypes.ownedTupleIsFree (.ref z) >>= _) _ _ s
  refine wpAny_bind (wpAny_tupleHeld_zip hz al fun g1 z1 k1 => ?_)
  simp only [Bool.false_eq_true, if_false]
  refine wpAny_bind ?_
  rw [← Array.forIn_toList]
  simp only [List.forIn_cons, List.forIn_nil]
  refine wpAny_bind (wpAny_bind (wpAny_holding ?_))
  show wpAny _ _ (Builtin.SmallTypes.nextOf (.ref i1) >>= _) _ _ { s with heap := g1 }
  refine wpAny_bind (RZ.nextOf_tuple_end (s := { s with heap := g1 }) hh (a1.extBut k1.extBut D.i1z) (b1.extBut k1.extBut D.l1z) ex fun g2 e k2 he => ?_)
  obtain ⟨o, ho, hc⟩ := he
  refine wpAny_bind (wpAny_isInstance (T := "StopIteration") (b := true) ⟨o, ho, hc⟩ isSubtype_stop ?_)
  exact wpAny_pure (q _ fun c o n1 n2 n3 e => k2 _ _ n2 (k1.extBut _ _ n1 e))
end
end Mok09

set_option autoImplicit false
namespace Mok09
open PySem PySem.Spec PyProof.Rows L2
section
variable {prog : Program} {w : World} {A : Around} {E : Value → Shared → Prop} {R : Result → Shared → Prop}
/-- the pairs that were handed out: where they lie, above b -/
structure Zo (h : Heap) (b : Nat) (xs ys : Array Value) (as : List Addr) : Prop where
  rise : as.Pairwise (· < ·)
  above : ∀ a ∈ as, Nat.lt b a ∧ Nat.lt a h.objs.size
  at_ : ∀ (j : Nat) (a : Addr), as[j]? = some a → ∃ x y, xs[j]? = some x ∧ ys[j]? = some y ∧ IsPair h a x y
abbrev lstO (as : List Addr) (c : Nat) : Obj := { cls := .type "list", dict := none, data := .seq (as.map Value.ref).toArray c, slots := #[] }
theorem ne_gt {a b c : Addr} (h : Nat.lt b c) (k : Nat.lt c a) : a ≠ b := fun e => by subst e; exact Nat.lt_asymm h k
theorem ne_gt' {a c : Addr} (k : Nat.lt c a) : a ≠ c := fun e => by subst e; exact Nat.lt_irrefl _ k
structure Zt (h : Heap) (S z TI TO i1 i2 l1 l2 : Addr) (xs ys : Array Value) (k : Nat) : Prop where
  zw : Zw h z TI TO i1 i2 l1 l2 xs ys k
  st : IsZip h z TI TO .none ∨ ∃ T f ob, IsZipHeld h z TI TO T f ∧ h.get? T = some ob ∧ T ≠ S
theorem zip_loop {S z TI TO i1 i2 l1 l2 : Addr} {xs ys : Array Value} {res : Value} (hh : A.in1.handled = none) (hl : xs.size = ys.size) (hn : xs.size ≤ sizeLine) (nS : S ≠ z ∧ S ≠ TI ∧ S ≠ TO ∧ S ≠ i1 ∧ S ≠ i2 ∧ S ≠ l1 ∧ S ≠ l2) (lo : Nat.lt z S ∧ Nat.lt TO S ∧ Nat.lt i1 S ∧ Nat.lt i2 S) :
    ∀ (k i : Nat) (s : Shared) (as : List Addr) (c : Nat), xs.size - i = k → i ≤ xs.size → Zt s.heap S z TI TO i1 i2 l1 l2 xs ys i → s.heap.get? S = some (lstO as c) → as.length = i → Zo s.heap S xs ys as →
    (∀ (g : Heap) (as' : List Addr) (c' : Nat), (∀ b o, b ≠ S → b ≠ z → b ≠ TO → b ≠ i1 → b ≠ i2 → s.heap.get? b = some o → g.get? b = some o) → g.get? S = some (lstO as' c') → as'.length = xs.size → Zo g S xs ys as' → R (.ok (.ret res)) { s with heap := g }) →
    codeAny (model prog w) A (.builtin "list.extend.loop" ⟨[.ref S, .ref z, res], []⟩) R s := by
  obtain ⟨n1, n2, n3, n4, n5, n6, n7⟩ := nS
  obtain ⟨o1, o2, o3, o4⟩ := lo
  intro k
  induction k with
  | zero =>
    intro i s as c hk hi Z hS hlen ho hR
    have e : i = xs.size := by omega
    subst e
    have ex : xs[xs.size]? = none := by simp
    refine codeAny_builtin F.entry_extend_loop ?_
    rw [Around.under_plainId F.plain_extend_loop _]
    show wpAny _ A.in1 (pyNext (.ref z) >>= _) _ _ s
    rcases Z.st with hz | ⟨T, f, ob, hz, al, nT⟩
    · obtain ⟨D, ti, ⟨ta, tb, to⟩, a1, a2, b1, b2⟩ := Z.zw
      refine wpAny_bind (RZ.pyNext_zipT_end hh D hz ti to a1 a2 b1 b2 (.inl ex) fun g kp => ?_)
      exact wpAny_pure (hR g as c (fun b o m1 m2 m3 m4 m5 q => kp b o m2 m3 m4 m5 q) (kp _ _ n1 n3 n4 n5 hS) hlen ⟨ho.rise, fun a ha => ⟨(ho.above a ha).1, by
        obtain ⟨j, hj⟩ := List.getElem?_of_mem ha
        obtain ⟨x, y, _, _, p⟩ := ho.at_ j a hj
        have l := (ho.above a ha).1
        exact Heap.lt_size (kp a _ (ne_gt o1 l) (ne_gt o2 l) (ne_gt o3 l) (ne_gt o4 l) p)⟩, fun j a hj => by
        obtain ⟨x, y, q1, q2, p⟩ := ho.at_ j a hj
        have l := (ho.above a (List.mem_of_getElem? hj)).1
        exact ⟨x, y, q1, q2, kp a _ (ne_gt o1 l) (ne_gt o2 l) (ne_gt o3 l) (ne_gt o4 l) p⟩⟩)
    · refine wpAny_bind (held_end hh Z.zw hz al ex fun g kp => ?_)
      exact wpAny_pure (hR g as c (fun b o m1 m2 m3 m4 m5 q => kp b o m2 m4 m5 q) (kp _ _ n1 n4 n5 hS) hlen ⟨ho.rise, fun a ha => ⟨(ho.above a ha).1, by
        obtain ⟨j, hj⟩ := List.getElem?_of_mem ha
        obtain ⟨x, y, _, _, p⟩ := ho.at_ j a hj
        have l := (ho.above a ha).1
        exact Heap.lt_size (kp a _ (ne_gt o1 l) (ne_gt o3 l) (ne_gt o4 l) p)⟩, fun j a hj => by
        obtain ⟨x, y, q1, q2, p⟩ := ho.at_ j a hj
        have l := (ho.above a (List.mem_of_getElem? hj)).1
        exact ⟨x, y, q1, q2, kp a _ (ne_gt o1 l) (ne_gt o3 l) (ne_gt o4 l) p⟩⟩)
  | succ k ih =>
    intro i s as c hk hi Z hS hlen ho hR
    have hlt : i < xs.size := by omega
    obtain ⟨x, ex⟩ : ∃ x, xs[i]? = some x := ⟨_, Array.getElem?_eq_getElem hlt⟩
    obtain ⟨y, ey⟩ : ∃ y, ys[i]? = some y := ⟨_, Array.getElem?_eq_getElem (by omega)⟩
    refine codeAny_builtin F.entry_extend_loop ?_
    rw [Around.under_plainId F.plain_extend_loop _]
    show wpAny _ A.in1 (pyNext (.ref z) >>= _) _ _ s
    have go : ∀ g : Heap, (∃ T f ob, IsZipHeld g z TI TO T f ∧ g.get? T = some ob ∧ T ≠ S) → Zw g z TI TO i1 i2 l1 l2 xs ys (i + 1) → IsPair g s.heap.objs.size x y → g.objs.size = s.heap.objs.size + 1 → (∀ b o, b ≠ z → b ≠ TO → b ≠ i1 → b ≠ i2 → s.heap.get? b = some o → g.get? b = some o) →
        Zt (g.update S (Obj.mapSeq (·.push (.ref s.heap.objs.size)))) S z TI TO i1 i2 l1 l2 xs ys (i + 1) ∧ (∃ c', (g.update S (Obj.mapSeq (·.push (.ref s.heap.objs.size)))).get? S = some (lstO (as ++ [s.heap.objs.size]) c')) ∧ Zo (g.update S (Obj.mapSeq (·.push (.ref s.heap.objs.size)))) S xs ys (as ++ [s.heap.objs.size]) ∧ (∀ b o, b ≠ S → b ≠ z → b ≠ TO → b ≠ i1 → b ≠ i2 → s.heap.get? b = some o → (g.update S (Obj.mapSeq (·.push (.ref s.heap.objs.size)))).get? b = some o) := by
      rintro g ⟨T, f, ob, hz, al, nT⟩ Zg pr sz kp
      have gS : g.get? S = some (lstO as c) := kp _ _ n1 n3 n4 n5 hS
      have oth : ∀ {b : Addr} {o : Obj}, b ≠ S → g.get? b = some o → (g.update S (Obj.mapSeq (·.push (.ref s.heap.objs.size)))).get? b = some o := fun {b o} nb q => (Heap.get?_update_other _ _ (Ne.symm nb)).trans q
      have hSl : Nat.lt S s.heap.objs.size := Heap.lt_size hS
      refine ⟨⟨Zg.keep fun b o q m => oth (by rcases m with m | m | m | m | m | m <;> rw [m] <;> first | exact Ne.symm n2 | exact Ne.symm n3 | exact Ne.symm n4 | exact Ne.symm n5 | exact Ne.symm n6 | exact Ne.symm n7) q, .inr ⟨T, f, ob, oth (Ne.symm n1) hz, oth nT al, nT⟩⟩, ?_, ?_, fun b o m1 m2 m3 m4 m5 q => oth m1 (kp b o m2 m3 m4 m5 q)⟩
      · have := Heap.get?_update_self (Obj.mapSeq (·.push (.ref s.heap.objs.size))) gS rfl
        have e : (lstO as c).mapSeq (·.push (.ref s.heap.objs.size)) = { cls := .type "list", dict := none, data := .seq ((as.map Value.ref).toArray.push (.ref s.heap.objs.size)) _, slots := #[] } := mapSeq_push _ _ _ _ _
        refine ⟨c + 1, this.trans ((congrArg some e).trans ?_)⟩
        simp [lstO]
      · have big : (g.update S (Obj.mapSeq (·.push (.ref s.heap.objs.size)))).objs.size = g.objs.size := (Heap.SameBut.update ..).1
        refine ⟨?_, fun a ha => ?_, fun j a hj => ?_⟩
        · refine List.pairwise_append.mpr ⟨ho.rise, by simp, fun a ha b hb => ?_⟩
          rw [List.mem_singleton.mp hb]
          exact (ho.above a ha).2
        · rw [big, sz]
          rcases List.mem_append.mp ha with ha | ha
          · have := ho.above a ha
            exact ⟨this.1, Nat.lt_succ_of_lt this.2⟩
          · rw [List.mem_singleton.mp ha]
            exact ⟨hSl, Nat.lt_succ_self _⟩
        · by_cases hj' : j < as.length
          · rw [List.getElem?_append_left hj'] at hj
            obtain ⟨x', y', q1, q2, p⟩ := ho.at_ j a hj
            have l := (ho.above a (List.mem_of_getElem? hj)).1
            exact ⟨x', y', q1, q2, oth (ne_gt' l) (kp a _ (ne_gt o1 l) (ne_gt o2 l) (ne_gt o3 l) (ne_gt o4 l) p)⟩
          · have e : j = as.length := by
              have := (List.getElem?_eq_some_iff.mp hj).1
              simp at this
              omega
            subst e
            simp at hj
            subst hj
            rw [hlen]
            exact ⟨x, y, ex, ey, oth (ne_gt' hSl) pr⟩
    have rest : ∀ g : Heap, (∃ T f ob, IsZipHeld g z TI TO T f ∧ g.get? T = some ob ∧ T ≠ S) → Zw g z TI TO i1 i2 l1 l2 xs ys (i + 1) → IsPair g s.heap.objs.size x y → g.objs.size = s.heap.objs.size + 1 → (∀ b o, b ≠ z → b ≠ TO → b ≠ i1 → b ≠ i2 → s.heap.get? b = some o → g.get? b = some o) →
        codeAny (model prog w) A (.builtin "list.extend.loop" ⟨[.ref S, .ref z, res], []⟩) R { s with heap := g.update S (Obj.mapSeq (·.push (.ref s.heap.objs.size))) } := by
      intro g q1 q2 q3 q4 q5
      obtain ⟨r1, ⟨c', r2⟩, r3, r4⟩ := go g q1 q2 q3 q4 q5
      exact ih (i + 1) _ _ c' (by omega) hlt r1 r2 (by simp [hlen]) r3 fun g' as' c'' k1 k2 k3 k4 => hR g' as' c'' (fun b o m1 m2 m3 m4 m5 q => k1 b o m1 m2 m3 m4 m5 (r4 b o m1 m2 m3 m4 m5 q)) k2 k3 k4
    have push : ∀ g : Heap, (∃ T f ob, IsZipHeld g z TI TO T f ∧ g.get? T = some ob ∧ T ≠ S) → Zw g z TI TO i1 i2 l1 l2 xs ys (i + 1) → IsPair g s.heap.objs.size x y → g.objs.size = s.heap.objs.size + 1 → (∀ b o, b ≠ z → b ≠ TO → b ≠ i1 → b ≠ i2 → s.heap.get? b = some o → g.get? b = some o) → g.get? S = some (lstO as c) := fun g _ _ _ _ kp => kp _ _ n1 n3 n4 n5 hS
    rcases Z.st with hz | ⟨T, f, ob, hz, al, nT⟩
    · obtain ⟨D, ti, ⟨ta, tb, to⟩, a1, a2, b1, b2⟩ := Z.zw
      refine wpAny_bind (RZ.pyNext_zipT_item D hz ti to a1 a2 b1 b2 ex ey fun g z' to' a1' a2' pr sz kp => ?_)
      have q1 : ∃ T f ob, IsZipHeld g z TI TO T f ∧ g.get? T = some ob ∧ T ≠ S := ⟨_, false, _, z', pr, ne_gt' (Heap.lt_size hS)⟩
      have q2 : Zw g z TI TO i1 i2 l1 l2 xs ys (i + 1) := ⟨D, kp _ _ D.TIz D.TITO D.TIi1 D.TIi2 ti, ⟨x, y, to'⟩, a1', a2', b1.at fun o e => kp _ o D.l1z D.l1TO D.l1i1 D.l1i2 e, b2.at fun o e => kp _ o D.l2z D.l2TO D.l2i1 D.l2i2 e⟩
      show wpAny _ A.in1 (updateSeq S (·.push (.ref s.heap.objs.size)) >>= _) _ _ _
      refine wpAny_bind (wpAny_updateSeq (push g q1 q2 pr sz kp) rfl (wpAny_pure ⟨plainId_quiet F.plain_extend_loop _, rest g q1 q2 pr sz kp⟩) ?_ ?_)
      · simp; omega
      · simp; omega
    · refine wpAny_bind (held_next Z.zw hz al ex ey fun g z' Zg pr sz kp => ?_)
      have kp' : ∀ b o, b ≠ z → b ≠ TO → b ≠ i1 → b ≠ i2 → s.heap.get? b = some o → g.get? b = some o := fun b o m1 _ m3 m4 q => kp b o m1 m3 m4 q
      have D := Z.zw.ap
      have al' : ∃ ob', g.get? T = some ob' := by
        by_cases e1 : T = z
        · exact ⟨_, by rw [e1]; exact z'⟩
        by_cases e2 : T = i1
        · obtain ⟨o, q, _⟩ := Zg.w1
          exact ⟨o, by rw [e2]; exact q⟩
        by_cases e3 : T = i2
        · obtain ⟨o, q, _⟩ := Zg.w2
          exact ⟨o, by rw [e3]; exact q⟩
        exact ⟨ob, kp _ _ e1 e2 e3 al⟩
      obtain ⟨ob', al'⟩ := al'
      have q1 : ∃ T f ob, IsZipHeld g z TI TO T f ∧ g.get? T = some ob ∧ T ≠ S := ⟨T, true, ob', z', al', nT⟩
      show wpAny _ A.in1 (updateSeq S (·.push (.ref s.heap.objs.size)) >>= _) _ _ _
      refine wpAny_bind (wpAny_updateSeq (push g q1 Zg pr sz kp') rfl (wpAny_pure ⟨plainId_quiet F.plain_extend_loop _, rest g q1 Zg pr sz kp'⟩) ?_ ?_)
      · simp; omega
      · simp; omega
end
end Mok09

set_option autoImplicit false
set_option maxHeartbeats 1000000
namespace Mok09
open PySem PySem.Spec PyProof.Rows L2
theorem nolen_zip : typeLookup (.type "zip") "__len__" = pure none := by rw [typeLookup_type, builtinLookup_eq_fast]; kernel_rfl
theorem nohint_zip : typeLookup (.type "zip") "__length_hint__" = pure none := by rw [typeLookup_type, builtinLookup_eq_fast]; kernel_rfl
section
variable {prog : Program} {w : World} {A : Around} {E : Value → Shared → Prop} {s : Shared}
theorem collect_zip {z TI TO i1 i2 l1 l2 : Addr} {xs ys : Array Value} {Q : List Value → Shared → Prop} (hh : A.handled = none) (hl : xs.size = ys.size) (hn : xs.size ≤ sizeLine) (hz : IsZip s.heap z TI TO .none) (Z : Zw s.heap z TI TO i1 i2 l1 l2 xs ys 0)
    (hQ : ∀ (g : Heap) (as : List Addr), (∀ b o, b ≠ z → b ≠ TO → b ≠ i1 → b ≠ i2 → s.heap.get? b = some o → g.get? b = some o) → as.length = xs.size → Zo g s.heap.objs.size xs ys as → Q (as.map Value.ref) { s with heap := g }) :
    wpAny (model prog w) A (collect (.ref z)) Q E s := by
  have bz : Nat.lt z s.heap.objs.size := Heap.lt_size hz
  have bTI : Nat.lt TI s.heap.objs.size := Heap.lt_size Z.ti
  have bTO : Nat.lt TO s.heap.objs.size := by obtain ⟨_, _, q⟩ := Z.to; exact Heap.lt_size q
  have b1 : Nat.lt i1 s.heap.objs.size := by obtain ⟨_, q, _⟩ := Z.w1; exact Heap.lt_size q
  have b2 : Nat.lt i2 s.heap.objs.size := by obtain ⟨_, q, _⟩ := Z.w2; exact Heap.lt_size q
  have c1 : Nat.lt l1 s.heap.objs.size := by obtain ⟨_, q, _⟩ := Z.t1; exact Heap.lt_size q
  have c2 : Nat.lt l2 s.heap.objs.size := by obtain ⟨_, q, _⟩ := Z.t2; exact Heap.lt_size q
  have hSI : s.heap.objs.size ≠ z := ne_gt' bz
  generalize hS : s.heap.objs.size = S at *
  unfold collect
  refine wpAny_bind (wpAny_runValue (codeAny_builtin F.entry_proto_collect ?_))
  rw [Around.under_plainId F.plain_proto_collect _]
  show wpAny _ A.in1 (newList [] >>= fun l => again (.builtin "list.__iadd__" ⟨[l, .ref z], []⟩)) _ _ s
  refine wpAny_bind (wpAny_newObj_type ?_)
  rw [hS]
  refine wpAny_pure ⟨plainId_quiet F.plain_list_iadd _, codeAny_builtin F.entry_list_iadd ?_⟩
  rw [Around.under_plainId F.plain_list_iadd _]
  let O0 : Obj := { cls := .type "list", data := .seq ([] : List Value).toArray }
  have kp0 : ∀ b o, s.heap.get? b = some o → (s.heap.push O0).get? b = some o := fun b o e => Heap.get?_push_of_some _ e
  have hz1 : IsZip (s.heap.push O0) z TI TO .none := kp0 _ _ hz
  have tyz : Shared.TypeIs { s with heap := s.heap.push O0 } (.ref z) "zip" := ⟨_, hz1, rfl⟩
  show wpAny _ A.in1 (Builtin.List.listExtendWith (.ref S) (.ref z) (.ref S)) _ _ _
  unfold Builtin.List.listExtendWith
  refine wpAny_bind (wpAny_typeOf tyz ?_)
  have h1 : Builtin.List.listSameRef (.ref S) (.ref z) = false := by simp [Builtin.List.listSameRef, hSI]
  have h2 : (Value.type "zip" == Value.type "list") = false := by decide
  have h3 : (Value.type "zip" == Value.type "tuple") = false := by decide
  simp only [h1, h2, h3, Bool.or_false, Bool.false_eq_true, if_false]
  refine wpAny_bind (wpAny_pyIter_zip hz1 ?_)
  refine wpAny_bind (wpAny_holding ?_)
  unfold Builtin.List.listLengthHint
  refine wpAny_bind (wpAny_specialOf tyz nolen_zip ?_)
  show wpAny _ A.in1 (specialOf (Value.ref z) (Str.ofString "__length_hint__") >>= _) _ _ _
  refine wpAny_bind (wpAny_specialOf tyz nohint_zip ?_)
  refine wpAny_pure ?_
  show wpAny _ A.in1 (rule "list.extend.makes-room" >>= fun _ => Builtin.List.listTouch (.ref S) >>= fun _ => again (.builtin "list.extend.loop" ⟨[.ref S, .ref z, .ref S], []⟩)) _ _ _
  refine wpAny_bind (wpAny_rule ?_)
  have hS1 : (s.heap.push O0).get? S = some O0 := by rw [← hS]; exact Heap.get?_push_size _ rfl
  refine wpAny_bind ?_
  show wpAny _ A.in1 (updateSeq S (·.push .none) >>= fun _ => updateSeq S (·.pop)) _ _ _
  refine wpAny_bind (wpAny_updateSeq hS1 rfl ?_)
  have hS2 := Heap.get?_update_self (Obj.mapSeq (·.push Value.none)) hS1 rfl
  refine wpAny_updateSeq hS2 rfl ?_
  have hS3 := Heap.get?_update_self (Obj.mapSeq (·.pop)) hS2 rfl
  obtain ⟨c, ec⟩ : ∃ c, Obj.mapSeq (·.pop) (Obj.mapSeq (·.push Value.none) O0) = lstO [] c := ⟨_, by simp [Obj.mapSeq, lstO, O0]; rfl⟩
  rw [ec] at hS3
  have oth : ∀ b o, b ≠ S → s.heap.get? b = some o → (((s.heap.push O0).update S (Obj.mapSeq (·.push Value.none))).update S (Obj.mapSeq (·.pop))).get? b = some o :=
    fun b o hb e => (Heap.get?_update_other _ _ (Ne.symm hb)).trans ((Heap.get?_update_other _ _ (Ne.symm hb)).trans (kp0 b o e))
  have Z2 : Zt (((s.heap.push O0).update S (Obj.mapSeq (·.push Value.none))).update S (Obj.mapSeq (·.pop))) S z TI TO i1 i2 l1 l2 xs ys 0 :=
    ⟨Z.keep fun b o q m => oth b o (by rcases m with m | m | m | m | m | m <;> rw [m] <;> first | exact Ne.symm (ne_gt' bTI) | exact Ne.symm (ne_gt' bTO) | exact Ne.symm (ne_gt' b1) | exact Ne.symm (ne_gt' b2) | exact Ne.symm (ne_gt' c1) | exact Ne.symm (ne_gt' c2)) q, .inl (oth z _ (Ne.symm (ne_gt' bz)) hz)⟩
  refine wpAny_pure ⟨plainId_quiet F.plain_extend_loop _, zip_loop (A := A) hh hl hn ⟨ne_gt' bz, ne_gt' bTI, ne_gt' bTO, ne_gt' b1, ne_gt' b2, ne_gt' c1, ne_gt' c2⟩ ⟨bz, bTO, b1, b2⟩ xs.size 0 _ [] c rfl (Nat.zero_le _) Z2 hS3 rfl ⟨.nil, by simp, by simp⟩ fun g as c' k1 k2 k3 k4 => ?_⟩
  show wpAny _ A (load S >>= _) _ _ _
  refine wpAny_bind (wpAny_load k2 ?_)
  refine wpAny_pure ?_
  have e : (as.map Value.ref).toArray.toList = as.map Value.ref := by simp
  show Q (as.map Value.ref).toArray.toList _
  rw [e]
  exact hQ g as (fun b o m1 m2 m3 m4 q => k1 b o (fun z' => absurd (Heap.lt_size q) (by rw [z', hS]; exact Nat.lt_irrefl _)) m1 m2 m3 m4 (oth b o (fun z' => absurd (Heap.lt_size q) (by rw [z', hS]; exact Nat.lt_irrefl _)) q)) k3 k4
theorem code_tuple_new_zip {z TI TO i1 i2 l1 l2 : Addr} {xs ys : Array Value} {Q₁ : Value → Shared → Prop} (hh : A.handled = none) (hl : xs.size = ys.size) (hn : xs.size ≤ sizeLine) (hz : IsZip s.heap z TI TO .none) (Z : Zw s.heap z TI TO i1 i2 l1 l2 xs ys 0)
    (h : ∀ (g : Heap) (as : List Addr), (∀ b o, b ≠ z → b ≠ TO → b ≠ i1 → b ≠ i2 → s.heap.get? b = some o → g.get? b = some o) → as.length = xs.size → Zo g s.heap.objs.size xs ys as → Q₁ (.ref g.objs.size) { s with heap := g.push { cls := .type "tuple", data := .seq (as.map Value.ref).toArray } }) :
    codeAny (model prog w) A (.call (.builtin "tuple.__new__") ⟨[.type "tuple", .ref z], []⟩) (wants Q₁ E) s := by
  refine codeAny_of_tree ?_
  show wpAny _ A.in1 (do checkBuiltinCall "tuple.__new__" ⟨[.type "tuple", .ref z], []⟩; again (.builtin "tuple.__new__" ⟨[.type "tuple", .ref z], []⟩)) _ _ s
  refine wpAny_bind (wpAny_of_eq (F.newCall_tuple_1 _) (wpAny_pure ⟨plainId_quiet F.plain_tuple_new _, codeAny_builtin F.entry_tuple_new ?_⟩))
  rw [Around.under_plainId F.plain_tuple_new _]
  have hsub := sub_tuple_self
  have hinit := init_tuple_lookup
  have hmh := madeHere_tuple
  have tyz : s.TypeIs (.ref z) "zip" := ⟨_, hz, rfl⟩
  have hh1 : A.in1.handled = none := hh
  wp_walk using wpAny_typeOf tyz, collect_zip (A := A.in1) hh1 hl hn hz Z
  intro g as kp k3 k4
  show wpAny _ _ (Builtin.Tuple.tupleExact (as.map Value.ref).toArray >>= fun v => ret v) _ _ _
  unfold Builtin.Tuple.tupleExact
  refine wpAny_bind (wpAny_newObj_type ?_ (by show (as.map Value.ref).toArray.size ≤ sizeLine; simp only [List.size_toArray, List.length_map]; rw [k3]; exact hn))
  exact wpAny_pure (h g as kp k3 k4)
theorem call_tuple_zip {z TI TO i1 i2 l1 l2 : Addr} {xs ys : Array Value} {Q : Value → Shared → Prop} (hh : A.handled = none) (hl : xs.size = ys.size) (hn : xs.size ≤ sizeLine) (hz : IsZip s.heap z TI TO .none) (Z : Zw s.heap z TI TO i1 i2 l1 l2 xs ys 0)
    (h : ∀ (g : Heap) (as : List Addr), (∀ b o, b ≠ z → b ≠ TO → b ≠ i1 → b ≠ i2 → s.heap.get? b = some o → g.get? b = some o) → as.length = xs.size → Zo g s.heap.objs.size xs ys as → Q (.ref g.objs.size) { s with heap := g.push { cls := .type "tuple", data := .seq (as.map Value.ref).toArray } }) :
    wpAny (model prog w) A (call (.type "tuple") [.ref z]) Q E s := by
  refine callType_codes (Q₁ := fun obj s₁ => s₁.TypeIs obj "tuple" ∧ Q obj s₁) F.called_tuple (F.typeCall_tuple_1 _) F.entry_object_init
    (code_tuple_new_zip (A := A.in1) hh hl hn hz Z fun g as kp k3 k4 => ⟨⟨_, Heap.get?_push_size _ rfl, rfl⟩, h g as kp k3 k4⟩) fun obj s₁ h₁ => ?_
  exact ⟨h₁.1, F.args_object_init_2 obj _, object_init_meets F.called_tuple.init.lookup F.called_tuple.made (by decide) prog w A.in1 _ s₁ ⟨h₁.1, rfl, h₁.2⟩⟩
end
end Mok09

set_option autoImplicit false
namespace Mok09
open PySem PySem.Spec PyProof.Rows L2
/-- things laid at their places -/
def putP : Hp → List Addr → List HO → Hp
  | H, a :: as, o :: os => putP (upd H a o) as os
  | H, _, _ => H
theorem putP_off {b : Addr} : ∀ (as : List Addr) (os : List HO) (H : Hp), b ∉ as → putP H as os b = H b
  | [], _, _, _ => rfl
  | _ :: _, [], _, _ => rfl
  | a :: as, o :: os, H, h => by
    show putP (upd H a o) as os b = H b
    rw [putP_off as os _ fun z => h (List.mem_cons_of_mem _ z), upd_ne fun z => h (by rw [z]; exact List.mem_cons_self)]
theorem putP_at : ∀ (as : List Addr) (os : List HO) (H : Hp), as.Nodup → ∀ {j : Nat} {a : Addr} {o : HO}, as[j]? = some a → os[j]? = some o → putP H as os a = some o
  | a :: as, o :: os, H, hn, 0, b, u, h1, h2 => by
    simp only [List.getElem?_cons_zero, Option.some.injEq] at h1 h2
    subst h1 h2
    show putP (upd H a o) as os a = some o
    rw [putP_off as os _ (List.nodup_cons.mp hn).1, upd_same]
  | a :: as, o :: os, H, hn, j + 1, b, u, h1, h2 => putP_at as os (upd H a o) (List.nodup_cons.mp hn).2 (by simpa using h1) (by simpa using h2)
section
variable {X : Cx} {pins : List (Addr × Obj)} {σ : L2.St} {H : Hp} {s : Shared}
theorem pairs_laid {g : Heap} {ch as : List Addr} {us vs : List V} {its its2 : List Value} (I : Inv X pins σ H s) (rv : Vals us its) (rv2 : Vals vs its2) (hl : us.length = vs.length) (hf : ∀ b ∈ ch, FpOk X pins H b) (k : ∀ b o, b ∉ ch → s.heap.get? b = some o → g.get? b = some o) (len : as.length = us.length) (z : Zo g s.heap.objs.size its.toArray its2.toArray as) :
    ∃ H' : Hp, (∀ b u, H b = some u → H' b = some u) ∧ (∀ (j : Nat) (a : Addr) (x y : V), as[j]? = some a → us[j]? = some x → vs[j]? = some y → ∃ o : Obj, o.dict = none ∧ H' a = some (.frz o (.tup [x, y]))) ∧ (∀ b, s.heap.objs.size ≤ b → b ∉ as → H' b = none) ∧ Inv X pins σ H' { s with heap := g } := by
  have nd : as.Nodup := z.rise.imp fun {a b} (h : a < b) => Nat.ne_of_lt h
  have new : ∀ t ∈ as, H t = none := fun t ht => I.hok.fresh (Nat.le_of_lt (z.above t ht).1)
  let os : List HO := (List.range us.length).map fun j => .frz { cls := .type "tuple", data := .seq #[its.getD j .none, its2.getD j .none] } (.tup [us.getD j .non, vs.getD j .non])
  have osl : os.length = us.length := by simp [os]
  have atO : ∀ {j : Nat}, j < us.length → os[j]? = some (.frz { cls := .type "tuple", data := .seq #[its.getD j .none, its2.getD j .none] } (.tup [us.getD j .non, vs.getD j .non])) := fun {j} h => by
    show ((List.range us.length).map _)[j]? = _
    rw [List.getElem?_map, List.getElem?_range h]
    rfl
  have off : ∀ b, b ∉ as → putP H as os b = H b := fun b h => putP_off as os H h
  have kp : ∀ b u, H b = some u → putP H as os b = some u := fun b u e => by
    rw [off b fun q => by rw [new b q] at e; cases e]
    exact e
  have nit : ∀ b u, H b = some u → b ∉ ch := fun b u e q => by
    have q := (hf b q).1
    rw [q] at e; cases e
  refine ⟨putP H as os, kp, fun j a x y e1 e2 e3 => ?_, fun b hb n => (off b n).trans (I.hok.fresh hb), ?_⟩
  · have hj := (List.getElem?_eq_some_iff.mp e2).1
    refine ⟨{ cls := .type "tuple", data := .seq #[its.getD j .none, its2.getD j .none] }, rfl, (putP_at as os H nd e1 (atO hj)).trans ?_⟩
    simp [List.getD, e2, e3]
  · refine I.step (g' := s.gens) (d' := s.drawn) (t' := s.toks) (ch := ch) (fun b hb => ⟨(hf b hb).2.2.2.1, (hf b hb).2.1, (hf b hb).2.2.2.2.1, (hf b hb).2.2.2.2.2⟩) (fun b o _ _ hc e _ => k b o hc e) (fun b o _ _ hc e _ => ⟨o.slots, k b o hc e⟩)
      (fun b o _ e n => ?_) (fun b o hc e => ⟨o, k b o hc e⟩) (fun b xs e => kp b _ e) (fun b o u e => kp b _ e) (fun b ps e => ⟨#[], by rw [kp b _ e]; simp⟩) (fun m hm => ?_) (fun b u e => ?_) I.bare
    · exact (off b fun q => absurd (z.above b q).1 (Nat.lt_asymm (Heap.lt_size e))).trans n
    · obtain ⟨o, es, ep, ho, r⟩ := hm
      exact ⟨o, es, ep, k _ o (fun z => (hf _ z).2.1 rfl) ho, r⟩
    · by_cases hb : b ∈ as
      · obtain ⟨j, e1⟩ := List.getElem?_of_mem hb
        have hj : j < us.length := len ▸ (List.getElem?_eq_some_iff.mp e1).1
        have h2 : j < vs.length := hl ▸ hj
        rw [putP_at as os H nd e1 (atO hj)] at e
        cases e
        obtain ⟨u1, q1, r1⟩ := rv.get (List.getElem?_eq_getElem hj)
        obtain ⟨u2, q2, r2⟩ := rv2.get (List.getElem?_eq_getElem h2)
        obtain ⟨x, y, p1, p2, p⟩ := z.at_ j b e1
        have p1' : its[j]? = some x := by simpa using p1
        have p2' : its2[j]? = some y := by simpa using p2
        have g1 : its.getD j .none = x := by simp [List.getD, p1']
        have g2 : its2.getD j .none = y := by simp [List.getD, p2']
        have g3 : us.getD j .non = us[j] := by simp [List.getD, hj]
        have g4 : vs.getD j .non = vs[j] := by simp [List.getD, h2]
        rw [q1] at p1'
        rw [q2] at p2'
        cases p1'
        cases p2'
        rw [g1, g2, g3, g4]
        exact ⟨p, by show 2 ≤ sizeLine; decide, [u1, u2], .cons r1 (.cons r2 .nil), ⟨_, p, rfl, _, rfl⟩⟩
      · rw [off b hb] at e
        refine (I.hok b u e).stay (fun c v hc q => k c v ?_ q) (fun c q => kp c _ q) fun c xs q => kp c _ q
        rcases hc with w | w
        · rw [w]; exact nit b u e
        · exact nit c _ w
theorem dv_ix {K : PySem.W.Frag} {L : Addr → Prop} {H : Hp} : ∀ {vs : List V} {ds : List PyData}, vs.length = ds.length → (∀ (j : Nat) (v : V) (d : PyData), vs[j]? = some v → ds[j]? = some d → Dv K L H v d) → DvAll K L H vs ds
  | [], [], _, _ => .nil
  | [], _ :: _, h, _ => by cases h
  | _ :: _, [], h, _ => by cases h
  | v :: vs, d :: ds, h, f => .cons (f 0 v d rfl rfl) (dv_ix (Nat.succ.inj h) fun j x y e1 e2 => f (j + 1) x y (by simpa using e1) (by simpa using e2))
theorem refs_vals : ∀ ks : List Addr, Vals (ks.map .ref) (ks.map .ref)
  | [] => .nil
  | _ :: r => .cons rfl (refs_vals r)
theorem Ext.grown {m : Ms} {H H' : Hp} (k : ∀ b u, H b = some u → H' b = some u) : Ext m H m H' := ⟨fun n l h => .inr ⟨l, h, rfl⟩, fun _ h => h, rfl, fun b u h _ => k b u h, fun _ h n => (n h).elim⟩
theorem RH.grown {K : PySem.W.Frag} {m : Ms} {H H' : Hp} {μ : Mem} (h : RH K m H μ) (k : ∀ b u, H b = some u → H' b = some u) : RH K m H' μ :=
  ⟨h.nd, h.len, fun b hb => ⟨let ⟨u, q⟩ := (h.hid b hb).1; ⟨u, k b u q⟩, (h.hid b hb).2⟩, fun n q u h1 h2 => (h.at_ n q u h1 h2).keeps (Ext.grown k).ks fun l _ a _ u q => k _ u q⟩
end
/-- two rows, place by place -/
def zipD (xs ys : List PyData) : List PyData := List.zipWith (fun x y => .tuple [x, y]) xs ys
def opTz : Op
  | [.d (.tuple xs), .d (.tuple ys)], μ => if xs.length = ys.length then mkT (zipD xs ys) μ else none
  | _, _ => none
section
variable {X : Cx} {ct : Ct} {Z : WX}
theorem mTz {a b : Expr} {p p2 pos pos2 : Pos} {da : DA} (hc : X.calm = true) (h : MA X ct Z [a, b] da) (hm : X.mg "tuple" = none) (hm2 : X.mg "zip" = none) (hg : Gl X "tuple" := by rfl) (hg2 : Gl X "zip" := by rfl)
    (hs : starEach [a, b] X.env = (false, eval a X.env) :: starEach [b] X.env := by rfl) (hpl : (backTo pos2 (starEach [b] X.env)).any (·.1) = false := by rfl)
    (hs2 : starEach [.Call (.Name "zip" p2) [a, b] [] pos2] X.env = (false, eval (.Call (.Name "zip" p2) [a, b] [] pos2) X.env) :: starEach [] X.env := by rfl) :
    ME X ct Z (.Call (.Name "tuple" p) [.Call (.Name "zip" p2) [a, b] [] pos2] [] pos) (dPn opTz da) := by
  refine ⟨⟨fun pins s σ H Q I h0 => ?_⟩⟩
  have h1 := tn_of h0
  refine Call_ (ld_blt I hg hm PyProof.Rows.boot_tuple (PyProof.Rows.callWith_type1 ?_ hs2 rfl))
  rw [hs2]
  show wpAny _ _ (spliced ((false, eval (.Call (.Name "zip" p2) [a, b] [] pos2) X.env) :: backTo pos (starEach [] X.env))) _ _ s
  refine Calls.spliced_cons ?_
  refine Call_ (ld_blt I hg2 hm2 PyProof.Rows.boot_zip (PyProof.Rows.callWith_type1 (thn (h.pa.run pos2 pins s σ H _ I h1) fun us s1 ⟨vs, H1, I1, r1, q1⟩ => ?_) hs hpl))
  obtain ⟨m, μ, ws, rw_, hh, g⟩ := q1
  obtain ⟨xs, ys, rfl⟩ : ∃ xs ys, ws = [.d (.tuple xs), .d (.tuple ys)] := by
    unfold opTz at g
    split at g
    · exact ⟨_, _, rfl⟩
    · exact g.elim
  simp only [opTz] at g
  split at g
  case isFalse => exact g.elim
  rename_i hlen
  cases rw_ with
  | cons ra rb =>
  cases rb with
  | cons rb rc =>
  cases rc
  cases ra with
  | @tup a1 u1 _ t1 d1 =>
  cases rb with
  | @tup a2 u2 _ t2 d2 =>
  cases r1 with
  | cons r rr =>
  cases rr with
  | cons r' rr =>
  cases rr
  cases r
  cases r'
  obtain ⟨its, rv, p1, _⟩ := I1.tuple t1.sq
  obtain ⟨its2, rv2, p2', _⟩ := I1.tuple t2.sq
  obtain ⟨o1, ho1, _⟩ := id p1
  obtain ⟨o2, ho2, _⟩ := id p2'
  have l1 := rv.length
  have l2 := rv2.length
  have l3 := d1.len
  have l4 := d2.len
  have hz : xs.length ≤ sizeLine := by
    unfold mkT at g
    split at g
    · rename_i hz
      have := sz_le hz
      simpa [zipD, hlen] using this
    · exact g.elim
  refine RZ.call_zipT (show s1.heap.IsTuple a1 its.toArray from p1) (show s1.heap.IsTuple a2 its2.toArray from p2') fun h' hzp hTI hTO w1 w2 hsz hk => ?_
  have I2 : Inv X pins σ H1 { s1 with heap := h' } := I1.kept (t' := s1.toks) hk
  refine Calls.spliced_nil ?_
  have D := PySem.W.ktu_apart s1.heap.objs.size a1 a2 (Heap.lt_size ho1) (Heap.lt_size ho2)
  have fresh5 : ∀ c, c ∈ [s1.heap.objs.size + 4, s1.heap.objs.size + 3, s1.heap.objs.size, s1.heap.objs.size + 1] → FpOk X pins H1 c := fun c hcm => by
    have e' : c = s1.heap.objs.size + 4 ∨ c = s1.heap.objs.size + 3 ∨ c = s1.heap.objs.size ∨ c = s1.heap.objs.size + 1 := by simpa using hcm
    have hle : s1.heap.objs.size ≤ c := by
      rcases e' with z | z | z | z
      · rw [z]; exact Nat.le_add_right _ _
      · rw [z]; exact Nat.le_add_right _ _
      · rw [z]; exact Nat.le_refl _
      · rw [z]; exact Nat.le_add_right _ _
    exact I1.fpOk hle (I1.hok.fresh hle)
  have Zz : Zw h' (s1.heap.objs.size + 4) (s1.heap.objs.size + 2) (s1.heap.objs.size + 3) s1.heap.objs.size (s1.heap.objs.size + 1) a1 a2 its.toArray its2.toArray 0 :=
    ⟨D, hTI, ⟨_, _, hTO⟩, w1, w2, (let ⟨o, e, r⟩ := p1; ⟨o, hk _ o e, r⟩), (let ⟨o, e, r⟩ := p2'; ⟨o, hk _ o e, r⟩)⟩
  refine call_tuple_zip (s := { s1 with heap := h' }) (I.ok.hd hc) (by simp; omega) (by simp; omega) hzp Zz fun gg as kp len zo => ?_
  obtain ⟨H2, k1, k2, k3, I3⟩ := pairs_laid (g := gg) (ch := [s1.heap.objs.size + 4, s1.heap.objs.size + 3, s1.heap.objs.size, s1.heap.objs.size + 1]) I2 rv rv2 (by omega) fresh5 (fun b o n q => kp b o (fun z => n (by simp [z])) (fun z => n (by simp [z])) (fun z => n (by simp [z])) (fun z => n (by simp [z])) q) (by simp at len; omega) zo
  have dv : DvAll X.K (Live m) H2 (as.map V.ref) (zipD xs ys) := by
    refine dv_ix (by have l5 : as.length = its.length := by simpa using len
                     rw [List.length_map]; unfold zipD; rw [List.length_zipWith]; omega) fun j v d e1 e2 => ?_
    rw [List.getElem?_map] at e1
    obtain ⟨a, e3, e4⟩ := Option.map_eq_some_iff.mp e1
    subst e4
    have hj : j < xs.length := by
      have := (List.getElem?_eq_some_iff.mp e2).1
      simp [zipD] at this
      omega
    have hj2 : j < ys.length := by omega
    have e5 : (zipD xs ys)[j]? = some (.tuple [xs[j], ys[j]]) := by
      unfold zipD
      rw [List.getElem?_zipWith, List.getElem?_eq_getElem hj, List.getElem?_eq_getElem hj2]
    rw [e5] at e2
    cases e2
    obtain ⟨v1, f1, f2⟩ := d1.get (List.getElem?_eq_getElem hj)
    obtain ⟨v2, f3, f4⟩ := d2.get (List.getElem?_eq_getElem hj2)
    obtain ⟨o, n1, n2⟩ := k2 j a v1 v2 e3 f1 f3
    exact .tup (.inl ⟨o, n2, n1⟩) (.cons (f2.stay (Ext.grown k1).ks) (.cons (f4.stay (Ext.grown k1).ks) .nil))
  have g2 : GdO X.K m H2 (mkT (zipD xs ys) μ) Q := by
    unfold GdO at g ⊢
    cases q : mkT (zipD xs ys) μ with
    | none => rw [q] at g; exact g
    | some p => rw [q] at g; exact fun m' H' v e' h' r' => g m' H' v ((Ext.grown k1).trans e') h' r'
  have ra : Vals (as.map V.ref) (as.map Value.ref) := refs_vals as
  refine ⟨.ref gg.objs.size, upd H2 gg.objs.size (.frz { cls := .type "tuple", data := .seq (as.map Value.ref).toArray } (.tup (as.map V.ref))), I3.laid (t' := s1.toks) (fun b ob q => Heap.get?_push_of_some _ q) (Nat.le_refl _) ?_, rfl, (tup_new (hh.grown k1) dv g2 rfl (I3.hok.fresh (Nat.le_refl _))).2⟩
  exact ⟨Heap.get?_push_size _ rfl, by rw [List.length_map]; simp at len; omega, _, ra, IsTup.new _ _⟩
end
section
variable {μ : Mem} {Pw : W → Mem → Prop}
theorem okO_tz {xs ys : List PyData} (h : xs.length = ys.length) (hz : xs.length ≤ sizeLine) : OkO (opTz [.d (.tuple xs), .d (.tuple ys)] μ) Pw = Pw (.d (.tuple (zipD xs ys))) μ := by
  have : (zipD xs ys).length ≤ sizeLine := by simp [zipD]; omega
  simp [opTz, h, mkT, sz, this]
end
end Mok09

set_option autoImplicit false
namespace Mok09
open PySem PySem.Spec PyProof.Rows L2
def opBool : Op
  | [.d (.int i)], μ => pB (i != 0) μ
  | [.d (.bool b)], μ => pB b μ
  | _, _ => none
def opBits : Op
  | [.d (.int i)], μ => pI (Builtin.Int.intBits i : Nat) μ
  | _, _ => none
section
variable {X : Cx} {ct : Ct} {Z : WX}
theorem bool_op : CallO X (.type "bool") opBool := by
  intro pins s σ H xs us Q I r h
  obtain ⟨m, μ, ws, rr, hh, g⟩ := h
  unfold opBool at g
  split at g
  · cases rr with
    | cons r1 t =>
      cases t
      cases r1
      exact call_bool1 pins s σ H _ us Q I r (.inl ⟨_, rfl, g.now hh (.bl _)⟩)
  · cases rr with
    | cons r1 t =>
      cases t
      cases r1
      exact call_bool1 pins s σ H _ us Q I r (.inr ⟨_, rfl, g.now hh (.bl _)⟩)
  · exact g.elim
theorem mBits {o : Expr} {apos pos : Pos} {da : DE} (h : ME X ct Z o da) (hbase : attributeBase o "bit_length" X.env (eval o X.env) = eval o X.env := by rfl) (hline : (apos.endLine == pos.line) = true := by rfl) : ME X ct Z (.Call (.Attribute o "bit_length" apos) [] [] pos) (dP1 opBits da) := by
  refine ⟨pe_imp (L2.pe_bits h.pe hbase hline) fun σ H Q h0 => ?_⟩
  obtain ⟨m, ρ, μ, he, hh, g⟩ := t1_of h0
  refine ⟨m, ρ, μ, he, hh, g.mono fun w μ1 m1 H1 e1 h1 g1 v r1 => ?_⟩
  obtain ⟨m2, μ2, ws2, r2, h2, g2⟩ := g1 v r1
  unfold opBits at g2
  split at g2
  · cases r2 with
    | cons a b =>
      cases b
      cases a
      exact ⟨_, rfl, g2.now h2 (.int _)⟩
  · exact g2.elim
end
section
variable {μ : Mem} {Pw : W → Mem → Prop}
@[simp] theorem okO_booli {i : Int} : OkO (opBool [.d (.int i)] μ) Pw = Pw (.d (.bool (i != 0))) μ := rfl
@[simp] theorem okO_boolb {b : Bool} : OkO (opBool [.d (.bool b)] μ) Pw = Pw (.d (.bool b)) μ := rfl
@[simp] theorem okO_bits {i : Int} : OkO (opBits [.d (.int i)] μ) Pw = Pw (.d (.int (Builtin.Int.intBits i : Nat))) μ := rfl
end
end Mok09

set_option autoImplicit false
namespace Mok09
open PySem PySem.Spec PyProof.Rows L2
/-! ### the outer atoms -/
mutual
def outs : Sg → List Sg
  | .lt x => [.lt x]
  | .no s => outs s
  | .many _ l => outss l
  | .so a b => outs a ++ outs b
  | .tl a b => outs a ++ outs b
  | .mod false x s => [.mod false x s]
  | .mod true _ s => outs s
def outss : List Sg → List Sg
  | [] => []
  | s :: l => outs s ++ outss l
end
theorem atom_may (x : Str) (s : Sg) : (Sg.mod true x s).atom = false := by
  show atomW (.str (wMod true)) = false
  decide +kernel
theorem atom_tl (a b : Sg) : (Sg.tl a b).atom = false := by
  show atomW (.str "told") = false
  decide +kernel
theorem outs_at {s : Sg} (h : s.atom = true) : outs s = [s] := by
  cases s with
  | lt x => rfl
  | no s => rw [atom_no] at h; cases h
  | many w l => rw [atom_many] at h; cases h
  | so a b => rw [atom_so] at h; cases h
  | tl a b => rw [atom_tl] at h; cases h
  | mod w x s =>
    cases w with
    | false => rfl
    | true => rw [atom_may] at h; cases h
theorem outs_in {s : Sg} (h : s.atom = false) : outs s = outss s.inn := by
  cases s with
  | lt x => rw [atom_lt] at h; cases h
  | no s => simp [outs, outss, Sg.inn]
  | many w l => simp [outs, Sg.inn]
  | so a b => simp [outs, outss, Sg.inn]
  | tl a b => simp [outs, outss, Sg.inn]
  | mod w x s =>
    cases w with
    | false => rw [atom_must] at h; cases h
    | true => simp [outs, outss, Sg.inn]
theorem outss_app : ∀ l m : List Sg, outss (l ++ m) = outss l ++ outss m
  | [], m => rfl
  | s :: l, m => by simp only [List.cons_append, outss]; rw [outss_app l m, List.append_assoc]
theorem outss_one (s : Sg) : outss [s] = outs s := by simp [outss]
mutual
theorem outs_sub : ∀ {s x : Sg}, x ∈ outs s → x ∈ allP s ∧ x.atom = true
  | .lt x, y, h => by rw [List.mem_singleton.mp h]; exact ⟨by simp [allP], atom_lt x⟩
  | .no s, x, h => let ⟨a, b⟩ := outs_sub (s := s) h; ⟨List.mem_cons_of_mem _ a, b⟩
  | .many w l, x, h => let ⟨a, b⟩ := outss_sub (l := l) h; ⟨List.mem_cons_of_mem _ a, b⟩
  | .so s t, x, h => by
    rcases List.mem_append.mp h with h | h
    · obtain ⟨a, b⟩ := outs_sub (s := s) h
      exact ⟨List.mem_cons_of_mem _ (List.mem_append_left _ a), b⟩
    · obtain ⟨a, b⟩ := outs_sub (s := t) h
      exact ⟨List.mem_cons_of_mem _ (List.mem_append_right _ a), b⟩
  | .tl s t, x, h => by
    rcases List.mem_append.mp h with h | h
    · obtain ⟨a, b⟩ := outs_sub (s := s) h
      exact ⟨List.mem_cons_of_mem _ (List.mem_append_left _ a), b⟩
    · obtain ⟨a, b⟩ := outs_sub (s := t) h
      exact ⟨List.mem_cons_of_mem _ (List.mem_append_right _ a), b⟩
  | .mod false z s, x, h => by rw [List.mem_singleton.mp h]; exact ⟨by simp [allP], atom_must z s⟩
  | .mod true z s, x, h => let ⟨a, b⟩ := outs_sub (s := s) h; ⟨List.mem_cons_of_mem _ a, b⟩
theorem outss_sub : ∀ {l : List Sg} {x : Sg}, x ∈ outss l → x ∈ allPs l ∧ x.atom = true
  | s :: l, x, h => by
    rcases List.mem_append.mp h with h | h
    · obtain ⟨a, b⟩ := outs_sub (s := s) h
      exact ⟨List.mem_append_left _ a, b⟩
    · obtain ⟨a, b⟩ := outss_sub (l := l) h
      exact ⟨List.mem_append_right _ a, b⟩
end
mutual
theorem outs_len : ∀ s : Sg, (outs s).length ≤ s.sz
  | .lt x => by simp [outs, Sg.sz]
  | .no s => by have := outs_len s; simp only [outs, Sg.sz]; omega
  | .many w l => by have := outss_len l; simp only [outs, Sg.sz]; omega
  | .so s t => by have := outs_len s; have := outs_len t; simp only [outs, Sg.sz, List.length_append]; omega
  | .tl s t => by have := outs_len s; have := outs_len t; simp only [outs, Sg.sz, List.length_append]; omega
  | .mod false z s => by simp [outs, Sg.sz]
  | .mod true z s => by have := outs_len s; simp only [outs, Sg.sz]; omega
theorem outss_len : ∀ l : List Sg, (outss l).length ≤ Sg.szs l
  | [] => by simp [outss]
  | s :: l => by have := outs_len s; have := outss_len l; simp only [outss, Sg.szs, List.length_append]; omega
end
mutual
theorem co_outs {A : List Sg} : ∀ (s : Sg), s.pl → (∀ x ∈ outs (core s), x ∈ A) → Co A (core s)
  | .lt x, _, h => h _ (by simp [core, outs])
  | .no s, p, h => co_outs s p fun x hx => h x (by simp only [core, outs]; exact hx)
  | .many w l, p, h => cos_outs l p fun x hx => h x (by simp only [core, outs]; exact hx)
  | .so a b, p, h => ⟨co_outs a p.1 fun x hx => h x (by simp only [core, outs]; exact List.mem_append_left _ hx), co_outs b p.2 fun x hx => h x (by simp only [core, outs]; exact List.mem_append_right _ hx)⟩
  | .tl a b, p, _ => p.elim
  | .mod true x s, p, h => ⟨rfl, h _ (by simp [core, outs])⟩
  | .mod false x s, p, h => ⟨rfl, h _ (by simp [core, outs])⟩
theorem cos_outs {A : List Sg} : ∀ (l : List Sg), Sg.pls l → (∀ x ∈ outss (cores l), x ∈ A) → Cos A (cores l)
  | [], _, _ => trivial
  | s :: r, p, h => ⟨co_outs s p.1 fun x hx => h x (by simp only [cores, outss]; exact List.mem_append_left _ hx), cos_outs r p.2 fun x hx => h x (by simp only [cores, outss]; exact List.mem_append_right _ hx)⟩
end
/-- a row of sayings, cut where a loop stands -/
theorem ds_split : ∀ {l : List Sg} {done r : List PyData} {x : PyData}, done ++ x :: r = Sg.ds l → ∃ l1 y l2, l = l1 ++ y :: l2 ∧ done = Sg.ds l1 ∧ x = y.d ∧ r = Sg.ds l2
  | [], done, r, x, e => by simp [Sg.ds] at e
  | s :: l, [], r, x, e => by
    simp only [Sg.ds, List.nil_append, List.cons.injEq] at e
    exact ⟨[], s, l, rfl, rfl, e.1, e.2⟩
  | s :: l, d :: done, r, x, e => by
    simp only [Sg.ds, List.cons_append, List.cons.injEq] at e
    obtain ⟨l1, y, l2, rfl, rfl, h1, h2⟩ := ds_split e.2
    exact ⟨s :: l1, y, l2, rfl, by simp [Sg.ds, e.1], h1, h2⟩
/-! ### outer_parts -/
noncomputable def opartsB : DS := (sSeq (sSet 1 (dPn (opLst true) dNil))
  (sSeq (sSet 2 (dPn (opLst true) (dCons (dV 0) dNil)))
  (sSeq (whl (dTv (dV 2))
  (sSeq (sSet 3 (dMt "list" opPop (dV 2) dNil))
  (sIf (isAtomT 3)
  (sExpr (dMt "list" opAppend (dV 1) (dCons (dV 3) dNil))) (sExpr (dMt "list" opExtend (dV 2) (dCons (dCall innerF [] (dCons (dV 3) dNil)) dNil))))) 100000)
  (sSeq (sLet 1) (sRet (dV 1))))))
noncomputable def opartsF : Fn := fnF 1 4 opartsB
def OpI (s : Sg) (k : Nat) (ρ : Env) (μ : Mem) : Prop := ∃ (F Wt : List Sg) (e : Option W), ρ = [some (.d s.d), some (.r 0), some (.r 1), e] ∧ μ = [.l (Sg.ds F), .l (Sg.ds Wt)] ∧ (∀ x, x ∈ outs s ↔ x ∈ F ∨ x ∈ outss Wt) ∧ F.length + Sg.szs Wt ≤ s.sz ∧ k = Sg.szs Wt
theorem oparts_ok {s : Sg} (hz : s.sz ≤ 90000) : Ok (opartsF [.d s.d] []) fun w _ => ∃ y, w = .d y ∧ ∃ l, y = .list (Sg.ds l) ∧ (∀ x, x ∈ l ↔ x ∈ outs s) ∧ l.length ≤ s.sz := by
  simp [opartsF, opartsB]
  refine whl_inv (OpI s) ?_ 100000 s.sz _ _ (by omega) ⟨[], [s], none, rfl, rfl, by simp [outss], by simp [Sg.szs], by simp [Sg.szs]⟩
  rintro k ρ μ ⟨F, Wt, e, rfl, rfl, h1, h2, rfl⟩
  by_cases hn : Wt = []
  · subst hn
    simp only [Sg.szs] at h2
    simp [asB, truth, Sg.ds, frzW]
    exact ⟨F, rfl, fun x => by rw [h1]; simp [outss], by omega⟩
  · obtain ⟨r, x, rfl⟩ := snoc_of hn
    have hx : Sg.szs (r ++ [x]) = Sg.szs r + Sg.szs x.inn + 1 := by have := sz_inn x; rw [szs_app]; simp only [Sg.szs]; omega
    have e1 : (!(Sg.ds (r ++ [x])).isEmpty) = true := by simp [ds_app, Sg.ds]
    have hl := szs_len r
    have hi := szs_len x.inn
    rw [ds_app] at e1 ⊢
    simp only [Sg.ds] at e1 ⊢
    simp only [ok_dTv, ok_dV0, ok_dVs, asB, truth]
    simp [tyW, okO_pop (show ([MO.l (Sg.ds F), MO.l (Sg.ds r ++ [x.d])] : Mem)[1]? = some (.l (Sg.ds r ++ [x.d])) from rfl)]
    refine ⟨by omega, isAtom_ok (s := x) rfl ?_⟩
    cases ha : x.atom with
    | true =>
      simp [tyW]
      rw [okO_app (xs := Sg.ds F) (by rfl) (le_million (by rw [ds_len]; omega))]
      refine ⟨Sg.szs r, by omega, F ++ [x], r, _, rfl, by simp [ds_app, Sg.ds], fun z => ?_, by rw [List.length_append, List.length_singleton]; omega, rfl⟩
      rw [h1, outss_app, outss_one, outs_at ha, List.mem_append, List.mem_append]
      exact ⟨fun h => h.elim (fun h => .inl (.inl h)) fun h => h.elim .inr fun h => .inl (.inr h), fun h => h.elim (fun h => h.elim .inl fun h => .inr (.inr h)) fun h => .inr (.inl h)⟩
    | false =>
      simp [tyW, inner_eq]
      rw [okO_ext (show ([MO.l (Sg.ds F), MO.l (Sg.ds r)] : Mem)[1]? = some (.l (Sg.ds r)) from rfl) (ys := Sg.ds x.inn) (le_million (by rw [ds_len, ds_len]; omega))]
      refine ⟨Sg.szs (r ++ x.inn), by rw [szs_app]; omega, F, r ++ x.inn, _, rfl, by simp [ds_app], fun z => ?_, by rw [szs_app]; omega, rfl⟩
      rw [h1, outss_app, outss_one, outs_in ha, outss_app]
/-! ### outer_atoms -/
noncomputable def oatomsB (n : Nat) : DS := (sSeq (sSet 1 (dPn (opLst true) dNil))
  (sSeq (sFor (dI iV (dV 0)) (gN 2)
  (sExpr (dMt "list" opExtend (dV 1) (dCons (dCall opartsF [] (dCons (dCall (coreF n) [] (dCons (dV 2) dNil)) dNil)) dNil))))
  (sSeq (sLet 1) (sRet (dCall risingF [] (dCons (dV 1) dNil))))))
noncomputable def oatomsF (n : Nat) : Fn := fnF 1 3 (oatomsB n)
def oat (l : List Sg) : List PyData := riseD (Sg.ds (outss (cores l)))
structure Os (n : Nat) (l : List Sg) : Prop where
  cs : ∀ s ∈ l, Cs n s
  sz : Sg.szs (cores l) ≤ 50000
theorem cores_app (l m : List Sg) : cores (l ++ m) = cores l ++ cores m := by rw [cores_map, cores_map, cores_map, List.map_append]
theorem mem_outss {x : Sg} : ∀ {l : List Sg}, x ∈ outss l ↔ ∃ s ∈ l, x ∈ outs s
  | [] => by simp [outss]
  | s :: l => by simp [outss, mem_outss (l := l)]
theorem Os.ord {n : Nat} {l : List Sg} (h : Os n l) : Ord (Sg.ds (outss (cores l))) := ord_dep fun x hx => by
  obtain ⟨c, hc, hx⟩ := mem_outss.mp hx
  rw [cores_map] at hc
  obtain ⟨s, hs, rfl⟩ := List.mem_map.mp hc
  have m := (outs_sub hx).1
  have k := h.cs s hs
  exact ⟨(allP_sub m).1 ((core_sz s).2.2 k.sok), Nat.le_trans (allP_dep _ (Nat.le_refl _) m) k.dep⟩
theorem Os.app {n : Nat} {l m : List Sg} (h : Os n (l ++ m)) : Sg.szs (cores l) + Sg.szs (cores m) ≤ 50000 := by
  have := h.sz
  rw [cores_app, szs_app] at this
  exact this
def OaI (x0 : W) (done : List PyData) (ρ : Env) (μ : Mem) : Prop := ∃ (l1 F : List Sg) (e : Option W), done = Sg.ds l1 ∧ ρ = [some x0, some (.r 0), e] ∧ μ = [.l (Sg.ds F)] ∧ (∀ x, x ∈ F ↔ x ∈ outss (cores l1)) ∧ F.length ≤ Sg.szs (cores l1)
theorem oatoms_eq {n : Nat} {l : List Sg} {y : PyData} (hy : y = .list (Sg.ds l) ∨ y = .tuple (Sg.ds l)) (h : Os n l) (μ : Mem) : callF (oatomsF n) [.d y] μ = .ok (.d (.tuple (oat l))) μ := by
  rcases hy with rfl | rfl
  all_goals
    refine call_pure rfl ?_
    simp [oatomsF, oatomsB]
    refine for_inv (xs := Sg.ds l) (s := (Sg.ds l, none)) (OaI _) rfl (fun _ _ _ _ _ => trivial) ⟨[], [], none, rfl, rfl, rfl, by simp [cores, outss], by simp [cores, Sg.szs]⟩ ?_ ?_
    · rintro done x r ρ μ e ⟨l1, F, e2, rfl, rfl, rfl, h1, h2⟩
      obtain ⟨l1', s, l2, rfl, e3, rfl, _⟩ := ds_split e
      have := ds_inj e3
      subst this
      have hs := h.cs s (by simp)
      have hz := h.app
      simp only [cores, Sg.szs] at hz
      have c1 : ∀ μ, callF (coreF n) [.d s.d] μ = .ok (.d (core s).d) μ := core_ok n s hs.ht hs.sok
      obtain ⟨y', ⟨G, rfl, g1, g2⟩, e4⟩ := pure_ex (F := opartsF) (ws := [.d (core s).d]) rfl (oparts_ok (s := core s) (by omega))
      simp [tyW, c1, e4]
      rw [okO_extl (show ([MO.l (Sg.ds F)] : Mem)[0]? = some (.l (Sg.ds F)) from rfl) (ys := Sg.ds G) (le_million (by rw [ds_len, ds_len]; omega))]
      refine ⟨l1 ++ [s], F ++ G, _, by simp [ds_app, Sg.ds], rfl, by simp [ds_app], fun x => ?_, by rw [cores_app, szs_app, List.length_append]; simp only [cores, Sg.szs]; omega⟩
      rw [cores_app, outss_app, List.mem_append, List.mem_append, h1, g1]
      simp [cores, outss]
    · rintro ρ μ ⟨l1, F, e2, e3, rfl, rfl, h1, h2⟩
      have := ds_inj e3
      subst this
      have hz := h.sz
      have m : ∀ x, x ∈ Sg.ds F ↔ x ∈ Sg.ds (outss (cores l)) := fun x => by
        rw [mem_ds, mem_ds]
        exact ⟨fun ⟨s, h3, h4⟩ => ⟨s, (h1 s).mp h3, h4⟩, fun ⟨s, h3, h4⟩ => ⟨s, (h1 s).mpr h3, h4⟩⟩
      have r : ∀ μ, callF risingF [.d (.list (Sg.ds F))] μ = .ok (.d (.tuple (riseD (Sg.ds F)))) μ := fun μ => call_pure rfl (rising_ok (h.ord.sub fun x hx => (m x).mp hx) (by rw [ds_len]; omega))
      simp [frzW, r, rise_congr h.ord m, oat]
/-! ### the law's own -/
noncomputable def louterB (self : Fn) : DS := (sSeq (sIf (isAtomT 0)
  (sRet (dPn (opLst false) (dCons (dV 0) dNil))) sNext)
  (sSeq (sSet 1 (dPn (opLst false) dNil))
  (sSeq (sFor (dI iV (dCall linnerF [] (dCons (dV 0) dNil))) (gN 2)
  (sSet 1 (dP2 (opAdd false) (dV 1) (dCall self [] (dCons (dV 2) dNil)))))
  (sRet (dV 1)))))
noncomputable def louterF : Nat → Fn
  | 0 => fun _ _ => .bad
  | n + 1 => fnF 1 3 (louterB (louterF n))
def LoI (s : Sg) (done : List PyData) (ρ : Env) (μ : Mem) : Prop := ∃ (l : List Sg) (e2 : Option W), done = Sg.ds l ∧ ρ = [some (.d s.d), some (.d (.list (Sg.ds (outss l)))), e2] ∧ μ = []
noncomputable def loatomsB (n : Nat) : DS := (sSeq (sSet 1 (dPn (opLst false) dNil))
  (sSeq (sFor (dI iV (dV 0)) (gN 2)
  (sSet 1 (dP2 (opAdd false) (dV 1) (dCall (louterF 60) [] (dCons (dCall (lcoreF n) [] (dCons (dV 2) dNil)) dNil)))))
  (sRet (dCall onceF [] (dCons (dV 1) dNil)))))
noncomputable def loatomsF (n : Nat) : Fn := fnF 1 3 (loatomsB n)
def LaI (x0 : W) (done : List PyData) (ρ : Env) (μ : Mem) : Prop := ∃ (l1 : List Sg) (e : Option W), done = Sg.ds l1 ∧ ρ = [some x0, some (.d (.list (Sg.ds (outss (cores l1))))), e] ∧ μ = []
/-- the atoms as sayings -/
theorem oat_of {n : Nat} {l : List Sg} (h : Os n l) (p : ∀ s ∈ l, s.pl) : ∃ A : List Sg, oat l = Sg.ds A ∧ AtA A ∧ (∀ s ∈ l, Co A (core s)) ∧ (∀ a, a ∈ A ↔ a ∈ outss (cores l)) := by
  have hz := h.sz
  have q := outss_len (cores l)
  obtain ⟨A, e, hm, hl⟩ := rise_ds h.ord
  refine ⟨A, e, ⟨?_, fun a ha => ?_, fun a ha => (outss_sub ((hm a).mp ha)).2, by omega⟩, fun s hs => co_outs s (p s hs) fun x hx => (hm x).mpr (mem_outss.mpr ⟨core s, by rw [cores_map]; exact List.mem_map_of_mem hs, hx⟩), hm⟩
  · have hp := (rise_spec h.ord).1
    rw [show riseD (Sg.ds (outss (cores l))) = Sg.ds A from e, ds_map, List.pairwise_map] at hp
    refine List.Pairwise.imp (fun {a b} hab => ?_) hp
    intro z
    subst z
    have := lt_asym _ _ hab
    rw [hab] at this
    cases this
  · obtain ⟨c, hc, hx⟩ := mem_outss.mp ((hm a).mp ha)
    rw [cores_map] at hc
    obtain ⟨s, hs, rfl⟩ := List.mem_map.mp hc
    exact (allP_sub (outs_sub hx).1).1 ((core_sz s).2.2 (h.cs s hs).sok)
end Mok09

set_option autoImplicit false
namespace Mok09
open PySem PySem.Spec PyProof.Rows L2
/-! ### whole_table: every row of truths there is -/
section
variable {μ : Mem} {Pw : W → Mem → Prop}
@[simp] theorem okO_imul {i j : Int} : OkO (opIMul [.d (.int i), .d (.int j)] μ) Pw = (CMul i j ∧ Pw (.d (.int (i * j))) μ) := by
  unfold opIMul
  dsimp only
  split <;> simp [*, pI]
end
theorem rep_step {w : Nat} {g : Nat → Bool} (hw : 0 < w) : Builtin.bitOr (mk w g : Int) ((mk w g : Int) * 2 ^ w) = (mk (w * 2) (fun i => g (i % w)) : Nat) := by
  have e : (mk w g : Int) * 2 ^ w = ((mk w g <<< w : Nat) : Int) := by rw [Nat.shiftLeft_eq]; simp
  rw [e, bor]
  congr 1
  refine mk_eq fun i => ?_
  rw [Nat.testBit_or, mk_bit, Nat.testBit_shiftLeft, mk_bit]
  by_cases h : i < w
  · have h2 : i < w * 2 := by omega
    have h3 : ¬ w ≤ i := by omega
    simp [h, h2, h3, Nat.mod_eq_of_lt h]
  · by_cases h2 : i < w * 2
    · have h3 : w ≤ i := by omega
      have h4 : i - w < w := by omega
      have h5 : i % w = i - w := by rw [Nat.mod_eq_sub_mod h3, Nat.mod_eq_of_lt h4]
      simp [h, h2, h3, h4, h5]
    · have h3 : w ≤ i := by omega
      have h4 : ¬ i - w < w := by omega
      simp [h, h2, h4]
noncomputable def repB : DS := (sSeq (whl (dTb (dP2 opLt (dV 1) (dV 2)))
  (sSeq (sAug 0 opOr (dP2 opShl (dV 0) (dV 1)))
  (sAug 1 opIMul (dC (.int 2)))) 100000)
  (sRet (dV 0)))
noncomputable def repF : Fn := fnF 3 3 repB
def RpI (k n : Nat) (f : Nat → Bool) (m : Nat) (ρ : Env) (μ : Mem) : Prop := ∃ j, j + m = n ∧ k ≤ j ∧ ρ = [some (.d (.int (mk (2 ^ j) fun i => f (i % 2 ^ k) : Nat))), some (.d (.int (2 ^ j : Nat))), some (.d (.int (2 ^ n : Nat)))] ∧ μ = []
theorem pow_lit {n : Nat} (h : n ≤ 16) : 2 ^ n ≤ 65536 := Nat.pow_le_pow_right (by decide) h
theorem rep_test {x a b : Int} {μ : Mem} : Ok (dTb (dP2 opLt (dV 1) (dV 2)) [some (.d (.int x)), some (.d (.int a)), some (.d (.int b))] μ) fun t μ1 => t = decide (a < b) ∧ μ1 = μ := by simp
theorem rep_body {x a b y z : Int} {μ : Mem} {N : Env → Mem → Prop} {R B C} (c1 : CShl x a) (c2 : CMul a 2) (e1 : Builtin.bitOr x (x * 2 ^ a.toNat) = y) (e2 : a * 2 = z) (q : N [some (.d (.int y)), some (.d (.int z)), some (.d (.int b))] μ) :
    Oks (sSeq (sAug 0 opOr (dP2 opShl (dV 0) (dV 1))) (sAug 1 opIMul (dC (.int 2))) [some (.d (.int x)), some (.d (.int a)), some (.d (.int b))] μ) N R B C := by
  subst e1 e2
  simp [c1, c2]
  exact q
theorem rep_eq {k n : Nat} {f : Nat → Bool} (hk : k ≤ n) (hn : n ≤ 16) (μ : Mem) : callF repF [.d (.int (mk (2 ^ k) f : Nat)), .d (.int (2 ^ k : Nat)), .d (.int (2 ^ n : Nat))] μ = .ok (.d (.int (mk (2 ^ n) fun i => f (i % 2 ^ k) : Nat))) μ := by
  refine call_pure rfl ?_
  have e0 : mk (2 ^ k) f = mk (2 ^ k) fun i => f (i % 2 ^ k) := mk_congr fun i hi => by rw [Nat.mod_eq_of_lt hi]
  simp only [repF, repB, ok_fnF3, oks_seq]
  refine whl_inv (RpI k n f) ?_ 100000 (n - k) _ _ (by omega) ⟨k, by omega, Nat.le_refl _, by rw [← e0]; rfl, rfl⟩
  rintro m ρ μ ⟨j, h1, h2, rfl, rfl⟩
  have pj := pow_lit (show j ≤ 16 by omega)
  have pn := pow_lit hn
  have p0 : 0 < 2 ^ j := Nat.two_pow_pos j
  by_cases hm : m = 0
  · subst hm
    have : j = n := by omega
    subst this
    refine rep_test.mono ?_
    rintro t μ1 ⟨rfl, rfl⟩
    rw [decide_eq_false (Int.lt_irrefl _), if_neg Bool.false_ne_true]
    simp
  · have lt : 2 ^ j < 2 ^ n := Nat.pow_lt_pow_right (by decide) (by omega)
    have lt' : ((2 ^ j : Nat) : Int) < ((2 ^ n : Nat) : Int) := Int.ofNat_lt.mpr lt
    have c1 : CShl (mk (2 ^ j) fun i => f (i % 2 ^ k) : Nat) ((2 ^ j : Nat) : Int) := shl_ok (n := 2 ^ j) (by rw [Int.natAbs_natCast]; exact mk_lt _ _) (by omega)
    have c2 : CMul ((2 ^ j : Nat) : Int) 2 := .inr ⟨by decide, by decide⟩
    have e1 := rep_step (g := fun i => f (i % 2 ^ k)) p0
    have e2 : ((2 ^ j : Nat) : Int).toNat = 2 ^ j := Int.toNat_natCast _
    have e3 : ((2 ^ j : Nat) : Int) * 2 = ((2 ^ (j + 1) : Nat) : Int) := by rw [Nat.pow_succ]; simp
    have e4 : mk (2 ^ j * 2) (fun i => f (i % 2 ^ j % 2 ^ k)) = mk (2 ^ (j + 1)) fun i => f (i % 2 ^ k) := by
      rw [Nat.pow_succ]
      exact mk_congr fun i _ => by rw [Nat.mod_mod_of_dvd _ (Nat.pow_dvd_pow 2 h2)]
    refine rep_test.mono ?_
    rintro t μ1 ⟨rfl, rfl⟩
    rw [decide_eq_true lt', if_pos rfl]
    refine ⟨by omega, rep_body c1 c2 ((congrArg (fun q => Builtin.bitOr _ (_ * 2 ^ q)) e2).trans e1) e3 ⟨m - 1, by omega, j + 1, by omega, by omega, ?_, rfl⟩⟩
    rw [e4]
/-- a row of truths: the number's bits, the highest first -/
def rowB (n i : Nat) : List Bool := (List.range n).map fun j => i.testBit (n - 1 - j)
theorem rowB_len (n i : Nat) : (rowB n i).length = n := by simp [rowB]
theorem rowB_at {n i j : Nat} (h : j < n) : (rowB n i)[j]? = some (i.testBit (n - 1 - j)) := by simp [rowB, h]
noncomputable def wv (A : List Sg) (i : Nat) (a : Sg) : Bool := vOf A (rowB A.length i) a
theorem half_bit (k i : Nat) : decide (2 ^ k ≤ i % 2 ^ (k + 1)) = i.testBit k := by
  have e : i.testBit k = (i % 2 ^ (k + 1)).testBit k := by rw [Nat.testBit_mod_two_pow]; simp
  rw [e]
  have hl : i % 2 ^ (k + 1) < 2 ^ (k + 1) := Nat.mod_lt _ (Nat.two_pow_pos _)
  generalize i % 2 ^ (k + 1) = x at hl ⊢
  by_cases h : 2 ^ k ≤ x
  · rw [decide_eq_true h]
    obtain ⟨y, rfl⟩ : ∃ y, x = 2 ^ k + y := ⟨x - 2 ^ k, by omega⟩
    have hy : y < 2 ^ k := by rw [Nat.pow_succ] at hl; omega
    rw [Nat.testBit_two_pow_add_eq, Nat.testBit_lt_two_pow hy]
    rfl
  · rw [decide_eq_false h, Nat.testBit_lt_two_pow (by omega)]
theorem top_mask (r : Nat) (hr : 0 < r) : ((2 : Int) ^ r - 1) * 2 ^ r = (mk (2 * r) (fun i => decide (r ≤ i)) : Nat) := by
  have e0 : (2 : Int) ^ r - 1 = (mk r fun _ => true : Nat) := by
    have := shl_full r
    rwa [Int.one_mul] at this
  have e : ((mk r fun _ => true : Nat) : Int) * 2 ^ r = ((mk r (fun _ => true) <<< r : Nat) : Int) := by rw [Nat.shiftLeft_eq]; simp
  rw [e0, e]
  congr 1
  refine mk_eq fun i => ?_
  rw [Nat.testBit_shiftLeft, mk_bit]
  by_cases h : r ≤ i
  · have : i - r < r ↔ i < 2 * r := by omega
    simp [h, this]
  · simp [h]
noncomputable def wholeB : DS := (sSeq (sSet 1 (dP2 opShl (dC (.int 1)) (dPn (orO opLen opLenD) (dCons (dV 0) dNil))))
  (sSeq (sSet 2 (dPn (opLst true) dNil))
  (sSeq (sSet 3 (dV 1))
  (sSeq (sFor (dI iV (dV 0)) (gN 4)
  (sSeq (sSet 3 (dP2 opDiv (dV 3) (dC (.int 2))))
  (sExpr (dMt "list" opAppend (dV 2) (dCons (dCall repF [] (dCons (dP2 opShl (dP2 opSub (dP2 opShl (dC (.int 1)) (dV 3)) (dC (.int 1))) (dV 3)) (dCons (dP2 (opMul false) (dC (.int 2)) (dV 3)) (dCons (dV 1) dNil)))) dNil)))))
  (sSeq (sLet 2) (sRet (dMake "TruthTable" tinitF (dCons (dV 0) (dCons (dV 2) (dCons (dV 1) dNil))))))))))
noncomputable def wholeF : Fn := fnF 1 5 wholeB
def WhI (A : List Sg) (vs : Nat → Sg → Bool) (done : List PyData) (ρ : Env) (μ : Mem) : Prop := ∃ e4, ρ = [some (.d (.tuple (Sg.ds A))), some (.d (.int (2 ^ A.length : Nat))), some (.r 0), some (.d (.int (2 ^ (A.length - done.length) : Nat))), e4] ∧ μ = [.l ((colsD (2 ^ A.length) A vs).take done.length)]
theorem whole_ok {A : List Sg} (hA : A.Nodup) (hn : A.length ≤ 16) : Ok (wholeF [.d (.tuple (Sg.ds A))] []) fun w μ => ∃ n, w = .r n ∧ μ[n]? = some (TabO (2 ^ A.length) A (wv A)) := by
  have c0 : CShl 1 (A.length : Int) := cshl1 (by omega)
  have e0 : (1 : Int) * 2 ^ A.length = ((2 ^ A.length : Nat) : Int) := shl_one _
  simp only [wholeF, wholeB, ok_fnF1, oks_seq, oks_set, ok_dP2, ok_dC, ok_dPn, ok_dCons, ok_dNil, ok_dV0, ok_dVs]
  simp [ds_len, c0]
  refine for_inv (xs := Sg.ds A) (s := (Sg.ds A, none)) (WhI A (wv A)) rfl (fun _ _ _ _ _ => trivial) ⟨none, by simp, by simp⟩ ?_ ?_
  · rintro done x r ρ μ e ⟨e4, rfl, rfl⟩
    obtain ⟨l1, a, l2, hl, rfl, rfl, _⟩ := ds_split e
    have ha : A[l1.length]? = some a := by rw [hl]; simp
    have hd : l1.length < A.length := (List.getElem?_eq_some_iff.mp ha).1
    obtain ⟨k, hk⟩ : ∃ k, A.length - l1.length = k + 1 := ⟨A.length - l1.length - 1, by omega⟩
    have pk := pow_lit (show k ≤ 16 by omega)
    have p0 : 0 < 2 ^ k := Nat.two_pow_pos k
    have d1 : CDivW ((2 ^ (k + 1) : Nat) : Int) 2 := divW (by decide) (by decide)
    have e1 : ((2 ^ (k + 1) : Nat) : Int) / 2 = ((2 ^ k : Nat) : Int) := by
      have : (2 : Nat) ^ (k + 1) = 2 ^ k * 2 := Nat.pow_succ ..
      rw [this]
      omega
    have c1 : CShl 1 ((2 ^ k : Nat) : Int) := cshl1 (by omega)
    have t1 : ((2 ^ k : Nat) : Int).toNat = 2 ^ k := Int.toNat_natCast _
    have f1 := shl_full (2 ^ k)
    have c2 : CShl ((mk (2 ^ k) fun _ => true : Nat) : Int) ((2 ^ k : Nat) : Int) := shl_ok (n := 2 ^ k) (by rw [Int.natAbs_natCast]; exact mk_lt _ _) (by omega)
    have m1 := top_mask (2 ^ k) p0
    have m0 : (2 : Int) ^ (2 ^ k) - 1 = (mk (2 ^ k) fun _ => true : Nat) := by
      have := f1
      rwa [Int.one_mul] at this
    rw [m0] at m1
    have c3 : CMulX 2 ((2 ^ k : Nat) : Int) := mulX (by decide) (by decide) (by omega) (by omega)
    have e3 : (2 : Int) * ((2 ^ k : Nat) : Int) = ((2 ^ (k + 1) : Nat) : Int) := by rw [Nat.pow_succ]; omega
    have e5 : 2 * 2 ^ k = 2 ^ (k + 1) := by rw [Nat.pow_succ]; omega
    rw [e5] at m1
    have e6 := fun μ => rep_eq (k := k + 1) (n := A.length) (f := fun i => decide (2 ^ k ≤ i)) (by omega) hn μ
    have e7 : mk (2 ^ A.length) (fun i => decide (2 ^ k ≤ i % 2 ^ (k + 1))) = mk (2 ^ A.length) fun i => wv A i a := mk_congr fun i _ => by
      rw [half_bit]
      unfold wv
      rw [vOf_at hA ha (rowB_at hd)]
      congr 1
      omega
    rw [e7] at e6
    have e8 : A.length - (l1.length + 1) = k := by omega
    simp only [ds_len, hk, List.set_cons_zero, List.set_cons_succ, oks_seq, oks_set, ok_dP2, ok_dV0, ok_dVs, ok_dC, okO_div]
    refine ⟨d1, ?_⟩
    rw [e1]
    simp only [oks_expr, ok_dMt, ok_dCons, ok_dNil, ok_dCall, ok_dP2, ok_dV0, ok_dVs, ok_dC, List.set_cons_zero, List.set_cons_succ, okO_shl, okO_sub, okO_mul, t1]
    refine ⟨rfl, c1, ?_⟩
    rw [f1]
    refine ⟨c2, ?_⟩
    rw [m1]
    refine ⟨c3, ?_⟩
    rw [e3]
    simp only [List.map_nil, List.append_nil, e6, ok_ok]
    rw [okO_app (xs := (colsD (2 ^ A.length) A (wv A)).take l1.length) (by rfl) (le_million (by rw [List.length_take]; omega))]
    refine ⟨some (.d a.d), ?_, ?_⟩
    · rw [List.length_append, ds_len, List.length_singleton, e8]
    · simp only [List.set_cons_zero, List.length_append, ds_len, List.length_singleton]
      rw [List.take_add_one]
      simp [colsD, ha]
  · rintro ρ μ ⟨e4, rfl, rfl⟩
    have e1 : (colsD (2 ^ A.length) A (wv A)).take (Sg.ds A).length = colsD (2 ^ A.length) A (wv A) := List.take_of_length_le (by rw [ds_len]; simp [colsD])
    rw [e1]
    simp [frzW]
    have := pow_lit hn
    refine make_tab (n := 2 ^ A.length) (A := A) (vs := wv A) (μ := [MO.dead]) ?_ ?_
    · omega
    · exact ⟨1, rfl, rfl⟩
theorem whole_eq {A : List Sg} (hA : A.Nodup) (hn : A.length ≤ 16) (μ : Mem) : callF wholeF [.d (.tuple (Sg.ds A))] μ = .ok (.r μ.length) (μ ++ [TabO (2 ^ A.length) A (wv A)]) := call_new rfl ⟨fun z => (by cases z), fun _ _ z => (by cases z)⟩ (whole_ok hA hn)
end Mok09

set_option autoImplicit false
namespace Mok09
open PySem PySem.Spec PyProof.Rows L2
/-! ### bits -/
theorem and_even (a b : Nat) : (2 * a) &&& (2 * b + 1) = 2 * (a &&& b) := by
  refine Nat.eq_of_testBit_eq fun i => ?_
  cases i with
  | zero => simp [Nat.testBit_zero]
  | succ i =>
    rw [Nat.testBit_and, Nat.testBit_succ, Nat.testBit_succ, Nat.testBit_succ, show 2 * a / 2 = a by omega, show (2 * b + 1) / 2 = b by omega, show 2 * (a &&& b) / 2 = a &&& b by omega, Nat.testBit_and]
theorem and_odd (a : Nat) : (2 * a + 1) &&& (2 * a) = 2 * a := by
  refine Nat.eq_of_testBit_eq fun i => ?_
  cases i with
  | zero => simp [Nat.testBit_zero]
  | succ i =>
    rw [Nat.testBit_and, Nat.testBit_succ, Nat.testBit_succ, show 2 * a / 2 = a by omega, show (2 * a + 1) / 2 = a by omega, Bool.and_self]
theorem low_bit : ∀ x : Nat, 0 < x → ∃ t, x.testBit t = true ∧ x = (x &&& (x - 1)) + 2 ^ t := by
  intro x
  induction x using Nat.strongRecOn with
  | ind x ih =>
    intro hx
    by_cases h : x % 2 = 0
    · obtain ⟨y, rfl⟩ : ∃ y, x = 2 * y := ⟨x / 2, by omega⟩
      obtain ⟨t, h1, h2⟩ := ih y (by omega) (by omega)
      refine ⟨t + 1, ?_, ?_⟩
      · rw [Nat.testBit_succ, show 2 * y / 2 = y by omega]; exact h1
      · obtain ⟨z, rfl⟩ : ∃ z, y = z + 1 := ⟨y - 1, by omega⟩
        rw [show 2 * (z + 1) - 1 = 2 * z + 1 by omega, and_even, Nat.pow_succ]
        rw [show z + 1 - 1 = z by omega] at h2
        omega
    · obtain ⟨y, rfl⟩ : ∃ y, x = 2 * y + 1 := ⟨x / 2, by omega⟩
      refine ⟨0, by simp [Nat.testBit_zero], ?_⟩
      rw [show 2 * y + 1 - 1 = 2 * y by omega, and_odd]
theorem and_neg {x : Nat} (hx : 0 < x) : ∃ t, x.testBit t = true ∧ Builtin.bitAnd (x : Int) (-(x : Int)) = ((2 ^ t : Nat) : Int) := by
  obtain ⟨t, h1, h2⟩ := low_bit x hx
  refine ⟨t, h1, ?_⟩
  have e1 : decide (0 ≤ (x : Int)) = true := decide_eq_true (by omega)
  have e2 : decide (0 ≤ -(x : Int)) = false := decide_eq_false (by omega)
  have e3 : (Builtin.bitNot (-(x : Int))).toNat = x - 1 := by
    unfold Builtin.bitNot
    omega
  unfold Builtin.bitAnd
  rw [e1, e2]
  show (x : Int) - _ = _
  rw [e3, Int.toNat_natCast]
  omega
theorem bits_pow (t : Nat) : Builtin.Int.intBits ((2 ^ t : Nat) : Int) = t + 1 := by
  have h : ((2 ^ t : Nat) : Int) ≠ 0 := by
    have := Nat.two_pow_pos t
    omega
  unfold Builtin.Int.intBits
  rw [if_neg (by simpa using h), Int.natAbs_natCast, Nat.log2_two_pow]
theorem call_keep {F : Fn} {ws : List W} {y : PyData} {μ : Mem} (hd : datas ws = none) (h : Ok (F ws μ) fun w μ' => w = .d y ∧ μ' = μ) : callF F ws μ = .ok (.d y) μ := by
  obtain ⟨w, μ', e, rfl, rfl⟩ := h.ex
  unfold callF
  rw [hd]
  dsimp only
  rw [e]
  dsimp only
  rw [List.take_length]
noncomputable def firstB : DS := (sRet (dP2 opSub (dP1 opBits (dP2 opAnd (dV 0) (dP1 opNeg (dV 0)))) (dC (.int 1))))
noncomputable def firstF : Fn := fnF 1 1 firstB
theorem first_eq {n : Nat} {f : Nat → Bool} (h : mk n f ≠ 0) : ∃ t, t < n ∧ f t = true ∧ ∀ μ, callF firstF [.d (.int (mk n f : Nat))] μ = .ok (.d (.int (t : Nat))) μ := by
  obtain ⟨t, h1, h2⟩ := and_neg (x := mk n f) (by omega)
  rw [mk_bit, Bool.and_eq_true, decide_eq_true_iff] at h1
  refine ⟨t, h1.1, h1.2, fun μ => call_pure rfl ?_⟩
  simp only [firstF, firstB, ok_fnF1, oks_ret, ok_dP2, ok_dP1, ok_dV0, ok_dC, okO_neg, okO_and, okO_bits, okO_sub, h2, bits_pow]
  congr 3
  omega
noncomputable def hasB : DS := (sRet (dPn opBool (dCons (dP2 opAnd (dP2 opShr (dV 0) (dV 1)) (dC (.int 1))) dNil)))
noncomputable def hasF : Fn := fnF 2 2 hasB
theorem has_eq (m t : Nat) (μ : Mem) : callF hasF [.d (.int (m : Nat)), .d (.int (t : Nat))] μ = .ok (.d (.bool (m.testBit t))) μ := by
  refine call_pure rfl ?_
  simp only [hasF, hasB, ok_fnF2, oks_ret, ok_dPn, ok_dCons, ok_dNil, ok_dP2, ok_dV0, ok_dVs, ok_dC, okO_shr, okO_and, okO_booli]
  refine ⟨Int.natCast_nonneg _, ?_⟩
  rw [PyProof.Rows.bitAnd_m1, Int.toNat_natCast, Nat.testBit_eq_decide_div_mod_eq]
  congr 3
  have e : ((m : Int) / 2 ^ t) % 2 = ((m / 2 ^ t % 2 : Nat) : Int) := by simp
  rw [e]
  have : m / 2 ^ t % 2 < 2 := Nat.mod_lt _ (by decide)
  by_cases h : m / 2 ^ t % 2 = 1
  · rw [h]; rfl
  · have : m / 2 ^ t % 2 = 0 := by omega
    rw [this]; rfl
noncomputable def truthsB : DS := (sRet (dPn opTu (dCons (dLc false (dI iV (dAt "TruthTable" "columns" (dV 0))) (gN 2) dYes (dCall hasF [] (dCons (dV 2) (dCons (dV 1) dNil))) [2]) dNil)))
noncomputable def truthsF : Fn := fnF 2 3 truthsB
section
variable {n : Nat} {A : List Sg} {vs : Nat → Sg → Bool} {μ : Mem} {k : Nat}
theorem tab_at (h : μ[k]? = some (TabO n A vs)) {P : W → Mem → Prop} {f : Str} {y : PyData} (q : ([("atoms", .tuple (Sg.ds A)), ("columns", .list (A.map fun a => .int (mk n fun i => vs i a : Nat))), ("many", .int (n : Nat)), ("full", .int (mk n fun _ => true : Nat))] : List (Str × PyData)).lookup f = some y) : Ok (atW "TruthTable" f (.r k) μ) P = P (.d y) μ := ok_atW h q
theorem tab_mth (h : μ[k]? = some (TabO n A vs)) {f : Str} (hf : (([("atoms", .tuple (Sg.ds A)), ("columns", .list (A.map fun a => .int (mk n fun i => vs i a : Nat))), ("many", .int (n : Nat)), ("full", .int (mk n fun _ => true : Nat))] : List (Str × PyData)).lookup f).isNone = true) (e : mthW "TruthTable" f (.r k) μ = mthW "TruthTable" f (.r 0) [TabO n A vs]) : mthW "TruthTable" f (.r k) μ = true := by
  rw [e]
  simp only [mthW, List.getElem?_cons_zero, TabO, Bool.and_eq_true]
  exact ⟨by decide +kernel, hf⟩
theorem mth_eq (h : μ[k]? = some (TabO n A vs)) (f : Str) : mthW "TruthTable" f (.r k) μ = mthW "TruthTable" f (.r 0) [TabO n A vs] := by
  simp only [mthW, h, List.getElem?_cons_zero]
theorem truths_eq (h : μ[k]? = some (TabO n A vs)) (hA : A.length ≤ 100000) {t : Nat} (ht : t < n) : callF truthsF [.r k, .d (.int (t : Nat))] μ = .ok (.d (rowD (A.map (vs t)))) μ := by
  refine call_keep rfl ?_
  simp [truthsF, truthsB, ok_dLc, tab_at h (f := "columns") (y := _) (by rfl)]
  refine lc_pure (s := (colsD n A vs, none)) (xs := colsD n A vs) (fun _ => true) (fun x => match x with
    | .int i => .bool (i.toNat.testBit t)
    | _ => .none) rfl trivial (by simp [colsD]; exact le_million (by omega)) (fun x hx => ?_) ?_
  · obtain ⟨a, ha, rfl⟩ := List.mem_map.mp hx
    refine ⟨_, rfl, ?_⟩
    simp [wipeE, dYes, has_eq]
  · have e : ((colsD n A vs).filter fun _ => true).map (fun x => match x with
        | .int i => PyData.bool (i.toNat.testBit t)
        | _ => .none) = (A.map (vs t)).map .bool := by
      rw [List.filter_eq_self.mpr (by simp)]
      simp only [colsD, List.map_map]
      refine List.map_congr_left fun a _ => ?_
      simp [mk_bit, ht]
    rw [e]
    simp [rowD]
    exact le_million (by omega)
end
noncomputable def whfB : DS := (sRet (dP2 opXor (dAt "TruthTable" "full" (dV 0)) (dMeth "TruthTable" "where_true" (whereF 60) (dV 0) (dCons (dV 1) dNil))))
noncomputable def whfF : Fn := fnF 2 2 whfB
noncomputable def pmaskB : DS := (sSeq (sSet 3 (dMeth "TruthTable" "where_false" whfF (dV 0) (dCons (dV 2) dNil)))
  (sSeq (sFor (dI iV (dV 1)) (gN 4)
  (sSeq (sIf (dTb (dP2 (opEq false) (dV 3) (dC (.int 0))))
  sBreak sNext)
  (sAug 3 opAnd (dMeth "TruthTable" "where_true" (whereF 60) (dV 0) (dCons (dV 4) dNil)))))
  (sRet (dV 3))))
noncomputable def pmaskF : Fn := fnF 3 5 pmaskB
structure Cg (A : List Sg) (c : Sg) : Prop where
  ht : c.ht < 60
  sok : c.sok
  dep : c.d.depth ≤ 64
  co : Co A c
section
variable {n : Nat} {A : List Sg} {vs : Nat → Sg → Bool} {μ : Mem} {k : Nat}
theorem whf_eq (hA : AtA A) {c : Sg} (hc : Cg A c) (h : μ[k]? = some (TabO n A vs)) : callF whfF [.r k, .d c.d] μ = .ok (.d (.int (mk n fun i => !ev (vs i) c : Nat))) μ := by
  refine call_keep rfl ?_
  have e := where_eq hA.nodup hA.sok hc.ht hc.sok hc.dep hc.co h
  have m := tab_mth h (f := "where_true") rfl (mth_eq h _)
  simp [whfF, whfB, tab_at h (f := "full") (y := _) (by rfl), m, e, mk_not]
def pmk (vs : Nat → Sg → Bool) (c : Sg) (cs : List Sg) (i : Nat) : Bool := !ev (vs i) c && cs.all (ev (vs i))
def PmI (n : Nat) (vs : Nat → Sg → Bool) (k : Nat) (cs : List Sg) (c : Sg) (μ0 : Mem) (done : List PyData) (ρ : Env) (μ : Mem) : Prop := ∃ (l1 : List Sg) (e : Option W), done = Sg.ds l1 ∧ ρ = [some (.r k), some (.d (.list (Sg.ds cs))), some (.d c.d), some (.d (.int (mk n (pmk vs c l1) : Nat))), e] ∧ μ = μ0
theorem pmask_eq (hA : AtA A) {c : Sg} {cs : List Sg} (hc : Cg A c) (hcs : ∀ x ∈ cs, Cg A x) (h : μ[k]? = some (TabO n A vs)) : callF pmaskF [.r k, .d (.list (Sg.ds cs)), .d c.d] μ = .ok (.d (.int (mk n (pmk vs c cs) : Nat))) μ := by
  refine call_keep rfl ?_
  have e := whf_eq hA hc h
  have m := tab_mth h (f := "where_false") rfl (mth_eq h _)
  have m2 := tab_mth h (f := "where_true") rfl (mth_eq h _)
  simp [pmaskF, pmaskB, m, e]
  refine for_inv (xs := Sg.ds cs) (s := (Sg.ds cs, none)) (PmI n vs k cs c μ) rfl (fun _ _ _ _ _ => trivial) ⟨[], none, rfl, by rw [mk_congr (n := n) (g := pmk vs c []) fun i _ => by simp [pmk]], rfl⟩ ?_ ?_
  · rintro done x r ρ μ' ed ⟨l1, e4, rfl, rfl, rfl⟩
    obtain ⟨l1', y, l2, rfl, e3, rfl, _⟩ := ds_split ed
    have := ds_inj e3
    subst this
    have hy := hcs y (by simp)
    have e2 := where_eq hA.nodup hA.sok hy.ht hy.sok hy.dep hy.co h
    by_cases z : mk n (pmk vs c l1) = 0
    · have all0 : mk n (pmk vs c (l1 ++ y :: l2)) = 0 := mk_zero_iff.mpr fun i hi => by
        have := mk_zero_iff.mp z i hi
        simp only [pmk, List.all_append] at this ⊢
        rw [← Bool.and_assoc, this, Bool.false_and]
      simp [z, all0]
    · have z' : ((mk n (pmk vs c l1) : Nat) : Int) ≠ 0 := by omega
      simp [z, z', m2, e2, mk_and]
      exact ⟨l1 ++ [y], _, by simp [ds_app, Sg.ds], by rw [mk_congr (n := n) (g := pmk vs c (l1 ++ [y])) fun i _ => by simp [pmk, Bool.and_assoc]], rfl⟩
  · rintro ρ μ' ⟨l1, e4, e3, rfl, rfl⟩
    have := ds_inj e3
    subst this
    simp
end
end Mok09

set_option autoImplicit false
namespace Mok09
open PySem PySem.Spec PyProof.Rows L2
/-! ### parting_row -/
noncomputable def prowB (n : Nat) : DS := (sSeq (sSet 2 (dCall (oatomsF n) [] (dCons (dPn (opLst false) (dStar (dV 0) (dCons (dV 1) dNil))) dNil)))
  (sSeq (sSet 3 (dCall wholeF [] (dCons (dV 2) dNil)))
  (sSeq (sSet 4 (dCall pmaskF [] (dCons (dV 3) (dCons (dLc false (dI iV (dV 0)) (gN 5) dYes (dCall (coreF n) [] (dCons (dV 5) dNil)) [5]) (dCons (dCall (coreF n) [] (dCons (dV 1) dNil)) dNil)))))
  (sSeq (sIf (dTb (dP2 (opEq false) (dV 4) (dC (.int 0))))
  (sRet (dC .none)) sNext)
  (sRet (dPn opTz (dCons (dV 2) (dCons (dMeth "TruthTable" "truths_in" truthsF (dV 3) (dCons (dCall firstF [] (dCons (dV 4) dNil)) dNil)) dNil))))))))
noncomputable def prowF (n : Nat) : Fn := fnF 2 6 (prowB n)
/-- some row parts the sayings from the one -/
noncomputable def parts (A : List Sg) (l : List Sg) (s : Sg) (ts : List Bool) : Bool := !ev (vOf A ts) (core s) && l.all fun x => ev (vOf A ts) (core x)
def rowW (A : List Sg) (ts : List Bool) : PyData := .tuple (zipD (Sg.ds A) (ts.map .bool))
theorem map_vOf : ∀ {A : List Sg} {ts : List Bool}, A.Nodup → ts.length = A.length → A.map (vOf A ts) = ts := by
  intro A ts hA hl
  apply List.ext_getElem?
  intro i
  by_cases hi : i < A.length
  · have h1 : A[i]? = some A[i] := List.getElem?_eq_getElem hi
    have h2 : ts[i]? = some (ts[i]'(by omega)) := List.getElem?_eq_getElem _
    rw [List.getElem?_map, h1, h2]
    simp [vOf_at hA h1 h2]
  · rw [List.getElem?_eq_none (by rw [List.length_map]; omega), List.getElem?_eq_none (by omega)]
theorem cg_of {n : Nat} {A : List Sg} {s : Sg} (h : Cs n s) (c : Co A (core s)) : Cg A (core s) := ⟨by have := h.cht; omega, (core_sz s).2.2 h.sok, by have := h.dep; omega, c⟩
theorem datas_snoc (y : PyData) : ∀ xs : List PyData, datas (xs.map W.d ++ [.d y]) = some (xs ++ [y])
  | [] => rfl
  | x :: r => by simp [datas, datas_snoc y r]
def PrR (A l : List Sg) (s : Sg) (y : PyData) : Prop := (y = .none ∧ ∀ i, i < 2 ^ A.length → parts A l s (rowB A.length i) = false) ∨ ∃ t, t < 2 ^ A.length ∧ parts A l s (rowB A.length t) = true ∧ y = rowW A (rowB A.length t)
theorem prow_eq {n : Nat} {l A : List Sg} {s : Sg} {y : PyData} (hy : y = .list (Sg.ds l) ∨ y = .tuple (Sg.ds l)) (h : Os n (l ++ [s])) (hoat : oat (l ++ [s]) = Sg.ds A) (hA : AtA A) (hco : ∀ x ∈ l ++ [s], Co A (core x)) (hn : A.length ≤ 16) : ∃ r, PrR A l s r ∧ ∀ μ, callF (prowF n) [.d y, .d s.d] μ = .ok (.d r) μ := by
  have hs := h.cs s (by simp)
  have c2 : ∀ μ, callF (coreF n) [.d s.d] μ = .ok (.d (core s).d) μ := core_ok n s hs.ht hs.sok
  have hz := h.app
  have hll : l.length ≤ Sg.szs (cores l) := by
    have q : (cores l).length = l.length := by rw [cores_map, List.length_map]
    have := szs_len (cores l)
    omega
  have e1 : ∀ μ, callF (oatomsF n) [.d (.list (Sg.ds (l ++ [s])))] μ = .ok (.d (.tuple (Sg.ds A))) μ := fun μ => by rw [← hoat]; exact oatoms_eq (.inl rfl) h μ
  have e0 : Sg.ds (l ++ [s]) = Sg.ds l ++ [s.d] := by simp [ds_app, Sg.ds]
  rw [e0] at e1
  have t0 : ([TabO (2 ^ A.length) A (wv A)] : Mem)[0]? = some (TabO (2 ^ A.length) A (wv A)) := rfl
  have e3 := pmask_eq hA (c := core s) (cs := cores l) (cg_of hs (hco s (by simp))) (fun x hx => by
    rw [cores_map] at hx
    obtain ⟨z, hz, rfl⟩ := List.mem_map.mp hx
    exact cg_of (h.cs z (by simp [hz])) (hco z (by simp [hz]))) t0
  have pq : ∀ i, pmk (wv A) (core s) (cores l) i = parts A l s (rowB A.length i) := fun i => by
    unfold pmk parts
    rw [cores_map, List.all_map]
    rfl
  have lc : ∀ {ρ : Env} {Pa : List PyData → Mem → Prop}, ρ[5]? ≠ none → Pa (Sg.ds (cores l)) [TabO (2 ^ A.length) A (wv A)] → Ok (lcL (Sg.ds l, none) (gN 5) (lcOne dYes (dCall (coreF n) [] (dCons (dV 5) dNil))) ρ (Sg.ds l) [] [TabO (2 ^ A.length) A (wv A)]) Pa := by
    intro ρ Pa h5 q
    refine lc_map (s := (Sg.ds l, none)) (ys := Sg.ds (cores l)) rfl trivial (by rw [ds_len, ds_len, cores_map, List.length_map]) (by rw [ds_len]; exact le_million (by omega)) (fun j x y hx hy => ?_) q
    rw [ds_map, List.getElem?_map] at hx
    obtain ⟨a, ha, rfl⟩ := Option.map_eq_some_iff.mp hx
    rw [ds_map, cores_map, List.map_map, List.getElem?_map, ha] at hy
    cases hy
    have hm := h.cs a (by simp [List.mem_of_getElem? ha])
    have := core_ok n a hm.ht hm.sok
    have hlt : 5 < ρ.length := by
      rcases Nat.lt_or_ge 5 ρ.length with h | h
      · exact h
      · exact (h5 (List.getElem?_eq_none h)).elim
    simp [dCall, dCons, dNil, wipeE, dV, this, hlt]
  have z1 : (Sg.ds l).length + 1 ≤ sizeLine := le_million (by rw [ds_len]; omega)
  obtain ⟨r, hr, hok⟩ : ∃ r, PrR A l s r ∧ Ok (prowF n [.d y, .d s.d] []) fun w _ => w = .d r := by
    by_cases z : mk (2 ^ A.length) (pmk (wv A) (core s) (cores l)) = 0
    · refine ⟨.none, .inl ⟨rfl, fun i hi => by rw [← pq]; exact mk_zero_iff.mp z i hi⟩, ?_⟩
      rcases hy with rfl | rfl
      all_goals
        simp [prowF, prowB, viewL, datas_snoc, wipeE, e1, whole_eq hA.nodup hn, z1, ok_dLc, c2]
        refine lc (ρ := [_, _, _, _, _, _]) (by simp) ?_
        simp [e3, z]
    · obtain ⟨t, t1, t2, t3⟩ := first_eq z
      refine ⟨_, .inr ⟨t, t1, by rw [← pq]; exact t2, rfl⟩, ?_⟩
      have e4 := truths_eq t0 hA.few t1
      have m := tab_mth t0 (f := "truths_in") rfl (mth_eq t0 _)
      have z' : ((mk (2 ^ A.length) (pmk (wv A) (core s) (cores l)) : Nat) : Int) ≠ 0 := by omega
      have e5 : A.map (wv A t) = rowB A.length t := map_vOf hA.nodup (rowB_len _ _)
      rw [e5] at e4
      rcases hy with rfl | rfl
      all_goals
        simp [prowF, prowB, viewL, datas_snoc, wipeE, e1, whole_eq hA.nodup hn, z1, ok_dLc, c2]
        refine lc (ρ := [_, _, _, _, _, _]) (by simp) ?_
        simp [e3, z, z', m, t3, e4, rowD]
        rw [okO_tz (by rw [ds_len, List.length_map, rowB_len]) (by rw [ds_len]; exact le_million (by omega))]
        rfl
  refine ⟨r, hr, fun μ => ?_⟩
  exact call_pure (xs := [y, s.d]) rfl hok
/-! ### the law's reading of a row -/
noncomputable def lcomesB (self : Fn) : DS := (sSeq (sIf (dTb (dP2 (opInA false) (dPn opRepr (dCons (dV 0) dNil)) (dV 1)))
  (sRet (dP2 opIxA (dV 1) (dPn opRepr (dCons (dV 0) dNil)))) sNext)
  (sSeq (sIf (dTb (dP2 (opEq false) (dP2 opIxA (dV 0) (dC (.int 0))) (dC (.str "not"))))
  (sRet (dNotV (dCall self [] (dCons (dP2 opIxA (dV 0) (dC (.int 1))) (dCons (dV 1) dNil))))) sNext)
  (sSeq (sIf (dTb (dP2 (opEq false) (dP2 opIxA (dV 0) (dC (.int 0))) (dC (.str "so"))))
  (sRet (dOrV (dNotV (dCall self [] (dCons (dP2 opIxA (dV 0) (dC (.int 1))) (dCons (dV 1) dNil)))) (dCall self [] (dCons (dP2 opIxA (dV 0) (dC (.int 2))) (dCons (dV 1) dNil))))) sNext)
  (sSeq (sSet 2 (dLc false (dI iV (dP2 opIxA (dV 0) (dC (.int 1)))) (gN 3) dYes (dCall self [] (dCons (dV 3) (dCons (dV 1) dNil))) [3]))
  (sRet (dIf (dTb (dP2 (opEq false) (dP2 opIxA (dV 0) (dC (.int 0))) (dC (.str "and")))) (dP2 (opInA true) (dC (.bool false)) (dV 2)) (dP2 (opInA false) (dC (.bool true)) (dV 2))))))))
noncomputable def lcomesF : Nat → Fn
  | 0 => fun _ _ => .bad
  | n + 1 => fnF 2 4 (lcomesB (lcomesF n))
theorem lcomes_ok {A : List Sg} {ts : List Bool} (hA : AtA A) (hl : ts.length = A.length) : ∀ (n : Nat) (c : Sg), c.ht < n → c.sok → c.d.depth ≤ 60 → c.sz ≤ 3000 → Co A c → ∀ μ, callF (lcomesF n) [.d c.d, .d (.dict (pairsA A ts))] μ = .ok (.d (.bool (ev (vOf A ts) c))) μ := by
  intro n
  induction n with
  | zero => intro c h; omega
  | succ n ih =>
    intro c hn hs hd hz hc μ
    refine call_pure rfl ?_
    obtain ⟨a1, a2, a3, a4⟩ := sg_rp hs
    have rp : Rp c.d := ⟨a1, by omega, a3, Nat.le_trans (show wt c.d ≤ 100000 by omega) (by decide)⟩
    have rin : ∀ {P : W → Mem → Prop} {μ : Mem}, OkO (opRepr [.d c.d] μ) P = P (.d (.str c.d.shown)) μ := okO_repr rp
    have sub : ∀ p ∈ c.inn, Co A p → ∀ μ, callF (lcomesF n) [.d p.d, .d (.dict (pairsA A ts))] μ = .ok (.d (.bool (ev (vOf A ts) p))) μ := fun p hp hq => ih p (by have := inn_ht hp; omega) (inn_sok hp hs) (by have := inn_dep hp; omega) (by have := sz_inn c; have := mem_sz hp; omega) hq
    have atom : c ∈ A → ev (vOf A ts) c = vOf A ts c → Ok (lcomesF (n + 1) [.d c.d, .d (.dict (pairsA A ts))] []) fun w _ => w = .d (.bool (ev (vOf A ts) c)) := by
      intro h e
      have g := getP_in (ts := ts) hA.sok hl hs h
      simp [lcomesF, lcomesB, rin, okO_inDict, g, okO_ixDict g, e]
    have out : c.atom = false → getD (pairsA A ts) (.str c.d.shown) = none := fun h => getP_out hA.sok hs fun z => by
      rw [hA.at_ c z] at h
      cases h
    cases c with
    | lt x => exact atom hc rfl
    | tl a b => exact hc.elim
    | mod w x s =>
      obtain ⟨rfl, h⟩ := hc
      exact atom h rfl
    | no s =>
      have g := out (atom_no s)
      have e := sub s (by simp [Sg.inn]) hc
      simp only [Sg.d] at rin g
      simp (config := { decide := true }) [lcomesF, lcomesB, rin, okO_inDict, g, Sg.d, e, ev]
    | so a b =>
      have g := out (atom_so a b)
      have e1 := sub a (by simp [Sg.inn]) hc.1
      have e2 := sub b (by simp [Sg.inn]) hc.2
      simp only [Sg.d] at rin g
      simp (config := { decide := true }) [lcomesF, lcomesB, rin, okO_inDict, g, Sg.d, e1, e2, ev]
      cases ev (vOf A ts) a <;> simp
    | many w l =>
      have g := out (atom_many w l)
      have hl' : (Sg.ds l).length ≤ sizeLine := by rw [ds_len]; exact le_size hs.2
      have go : ∀ {ρ : Env} {i : Nat} {te : DE} {P : List PyData → Mem → Prop} , (∀ p ∈ l, te (ρ.set i (some (.d p.d))) [] = .ok (.d (.bool (ev (vOf A ts) p))) []) → P (l.map fun p => .bool (ev (vOf A ts) p)) [] → Ok (lcL (Sg.ds l, none) (gN i) (lcOne dYes te) ρ (Sg.ds l) [] []) P := by
        intro ρ i te P h q
        refine lc_map (s := (Sg.ds l, none)) (ys := l.map fun p => .bool (ev (vOf A ts) p)) rfl trivial (by simp [ds_map]) hl' (fun j x y hx hy => ?_) q
        rw [ds_map, List.getElem?_map] at hx
        rw [List.getElem?_map] at hy
        obtain ⟨a, ha, rfl⟩ := Option.map_eq_some_iff.mp hx
        rw [ha] at hy
        cases hy
        exact h a (List.mem_of_getElem? ha)
      have fin1 : (!((l.map fun p => PyData.bool (ev (vOf A ts) p)).any fun y => PyData.eqv y (.bool false))) = evAll (vOf A ts) l := by
        rw [evAll_map, List.any_map, Bool.eq_iff_iff]
        simp [Function.comp_def]
      have fin2 : ((l.map fun p => PyData.bool (ev (vOf A ts) p)).any fun y => PyData.eqv y (.bool true)) = evAny (vOf A ts) l := by
        rw [evAny_map, List.any_map, Bool.eq_iff_iff]
        simp [Function.comp_def]
      have sb : ∀ b : Bool, SeqAt.shaped (.bool b) = true := fun b => by simp [SeqAt.shaped, PyData.depth]
      simp only [Sg.d] at rin g
      cases w with
      | false =>
        simp only [show wMany false = "and" from rfl] at rin g
        simp (config := { decide := true }) [lcomesF, lcomesB, rin, okO_inDict, g, Sg.d, ok_dLc, ev, show wMany false = "and" from rfl]
        refine go (fun p hp => ?_) ?_
        · simp [dCall, dCons, dNil, wipeE, dV, sub p hp (cos_all.mp hc p hp)]
        · rw [okO_in2l (sb _) (lay_bools' _ _)]
          simp only [if_true]
          rw [fin1]
      | true =>
        simp only [show wMany true = "or" from rfl] at rin g
        simp (config := { decide := true }) [lcomesF, lcomesB, rin, okO_inDict, g, Sg.d, ok_dLc, ev, show wMany true = "or" from rfl]
        refine go (fun p hp => ?_) ?_
        · simp [dCall, dCons, dNil, wipeE, dV, sub p hp (cos_all.mp hc p hp)]
        · rw [okO_in2l (sb _) (lay_bools' _ _)]
          simp only [Bool.false_eq_true, if_false]
          rw [fin2]
end Mok09

set_option autoImplicit false
namespace Mok09
open PySem PySem.Spec PyProof.Rows L2
/-! ### the law's rows of truths -/
def rowsL : Nat → List (List Bool)
  | 0 => [[]]
  | n + 1 => (rowsL n).map (· ++ [false]) ++ (rowsL n).map (· ++ [true])
theorem rows_len : ∀ n, (rowsL n).length = 2 ^ n
  | 0 => rfl
  | n + 1 => by simp only [rowsL, List.length_append, List.length_map, rows_len n, Nat.pow_succ]; omega
theorem rows_mem : ∀ (n : Nat) (ts : List Bool), ts ∈ rowsL n ↔ ts.length = n
  | 0, ts => by simp [rowsL, List.length_eq_zero_iff]
  | n + 1, ts => by
    simp only [rowsL, List.mem_append, List.mem_map]
    constructor
    · rintro (⟨r, h, rfl⟩ | ⟨r, h, rfl⟩) <;> simp [(rows_mem n r).mp h]
    · intro h
      have hn : ts ≠ [] := fun e => by subst e; simp at h
      obtain ⟨r, x, rfl⟩ := snoc_of hn
      have hr : r ∈ rowsL n := (rows_mem n r).mpr (by simpa using h)
      cases x with
      | false => exact .inl ⟨r, hr, rfl⟩
      | true => exact .inr ⟨r, hr, rfl⟩
/-- every row is some number's -/
theorem row_of : ∀ ts : List Bool, ∃ i, i < 2 ^ ts.length ∧ rowB ts.length i = ts
  | [] => ⟨0, by simp, rfl⟩
  | b :: ts => by
    obtain ⟨i, h1, h2⟩ := row_of ts
    refine ⟨(if b = true then 2 ^ ts.length else 0) + i, ?_, ?_⟩
    · rw [List.length_cons, Nat.pow_succ]
      split <;> omega
    · apply List.ext_getElem?
      intro j
      by_cases hj : j < ts.length + 1
      · rw [List.length_cons, rowB_at hj]
        cases j with
        | zero =>
          simp only [List.getElem?_cons_zero, Option.some.injEq, Nat.add_sub_cancel, Nat.sub_zero]
          cases b with
          | true => rw [if_pos rfl, Nat.testBit_two_pow_add_eq, Nat.testBit_lt_two_pow h1]; rfl
          | false => rw [if_neg Bool.false_ne_true, Nat.zero_add, Nat.testBit_lt_two_pow h1]
        | succ j =>
          rw [List.getElem?_cons_succ]
          have e : (rowB ts.length i)[j]? = some (i.testBit (ts.length - 1 - j)) := rowB_at (by omega)
          rw [h2] at e
          rw [e, show ts.length + 1 - 1 - (j + 1) = ts.length - 1 - j by omega]
          congr 1
          cases b with
          | true =>
            rw [if_pos rfl, Nat.testBit_two_pow_add_gt (by omega)]
          | false => rw [if_neg Bool.false_ne_true, Nat.zero_add]
      · rw [List.getElem?_eq_none (by rw [rowB_len, List.length_cons]; omega), List.getElem?_eq_none (by rw [List.length_cons]; omega)]
noncomputable def ltruthsB : DS := (sSeq (sSet 1 (dPn (opLst false) (dCons (dPn opTup dNil) dNil)))
  (sSeq (sFor (dIs iR1 (dCons (dV 0) dNil)) (gN 2)
  (sSet 1 (dP2 (opAdd false) (dLc false (dI iV (dV 1)) (gN 3) dYes (dP2 (opAdd false) (dV 3) (dPn opTup (dCons (dC (.bool false)) dNil))) [3]) (dLc false (dI iV (dV 1)) (gN 3) dYes (dP2 (opAdd false) (dV 3) (dPn opTup (dCons (dC (.bool true)) dNil))) [3]))))
  (sRet (dV 1))))
noncomputable def ltruthsF : Fn := fnF 1 4 ltruthsB
def snocD (b : Bool) : PyData → PyData
  | .tuple xs => .tuple (xs ++ [.bool b])
  | _ => .none
theorem snocD_map (b : Bool) (l : List (List Bool)) : ((l.map rowD).filter fun _ => true).map (snocD b) = (l.map (· ++ [b])).map rowD := by
  rw [List.filter_eq_self.mpr (by simp), List.map_map, List.map_map]
  refine List.map_congr_left fun r _ => ?_
  simp [snocD, rowD]
def LtI (n : Nat) (done : List PyData) (ρ : Env) (μ : Mem) : Prop := ∃ e2, ρ = [some (.d (.int (n : Nat))), some (.d (.list ((rowsL done.length).map rowD))), e2, none] ∧ μ = []
theorem ltruths_eq {n : Nat} (hn : n ≤ 16) (μ : Mem) : callF ltruthsF [.d (.int (n : Nat))] μ = .ok (.d (.list ((rowsL n).map rowD))) μ := by
  refine call_pure rfl ?_
  simp [ltruthsF, ltruthsB]
  refine ⟨inR_nat (by omega), ?_⟩
  refine for_inv (xs := intsOf 0 n) (s := (intsOf 0 n, none)) (LtI n) rfl (fun _ _ _ _ _ => trivial) ⟨none, rfl, rfl⟩ ?_ ?_
  · rintro done x r ρ μ e ⟨e2, rfl, rfl⟩
    obtain ⟨hd, rfl⟩ := done_at e
    have p := pow_lit (show done.length ≤ 16 by omega)
    have hlen := rows_len done.length
    have p1 := pow_lit (show done.length + 1 ≤ 16 by omega)
    have lc : ∀ (b : Bool) {ρ : Env} {Pa : List PyData → Mem → Prop}, (∃ a0 a1 a2 a3, ρ = [a0, a1, a2, a3]) → Pa (((rowsL done.length).map (· ++ [b])).map rowD) [] → Ok (lcL ((rowsL done.length).map rowD, none) (gN 3) (lcOne dYes (dP2 (opAdd false) (dV 3) (dPn opTup (dCons (dC (.bool b)) dNil)))) ρ ((rowsL done.length).map rowD) [] []) Pa := by
      rintro b ρ Pa ⟨a0, a1, a2, a3, rfl⟩ q
      refine lc_pure (s := ((rowsL done.length).map rowD, none)) (xs := (rowsL done.length).map rowD) (fun _ => true) (snocD b) rfl trivial (by rw [List.length_map, hlen]; exact le_million (by omega)) (fun x hx => ?_) (by rw [snocD_map]; exact q)
      obtain ⟨r, hr, rfl⟩ := List.mem_map.mp hx
      have := (rows_mem _ _).mp hr
      refine ⟨_, rfl, ?_⟩
      simp [dYes, rowD, snocD]
      exact le_million (by omega)
    simp [ok_dLc, wipeE]
    refine lc false ⟨_, _, _, _, rfl⟩ ?_
    simp [ok_dLc, wipeE]
    refine lc true ⟨_, _, _, _, rfl⟩ ?_
    simp only [okO_addl, List.length_map]
    refine ⟨le_million (by rw [hlen]; omega), some (.d (.int (done.length : Int))), ?_, rfl⟩
    simp [rowsL]
  · rintro ρ μ ⟨e2, rfl, rfl⟩
    simp [intsOf_len]
/-! ### follows -/
theorem oat_rp {n : Nat} {l : List Sg} (h : Os n l) {a : Sg} (ha : a ∈ outss (cores l)) : Rp a.d := by
  obtain ⟨c, hc, hx⟩ := mem_outss.mp ha
  rw [cores_map] at hc
  obtain ⟨s, hs, rfl⟩ := List.mem_map.mp hc
  have m := (outs_sub hx).1
  have k := h.cs s hs
  have z := (core_sz s).1
  obtain ⟨q1, q2, q3, _⟩ := allP_sub m
  have := k.sz
  have := k.dep
  have := allP_dep _ (Nat.le_refl _) m
  exact (th_sg (q1 ((core_sz s).2.2 k.sok)) 60 (by omega)).rp (by omega) (by omega)
def pairG (A : List Sg) (bs : List Bool) : PyData → PyData
  | .int i => .tuple [.str ((A[i.toNat]?.getD (.lt "a")).d.shown), .bool (bs[i.toNat]?.getD false)]
  | _ => .none
noncomputable def lfollowsB (n : Nat) : DS := (sSeq (sSet 2 (dCall (loatomsF n) [] (dCons (dP2 (opAdd false) (dV 0) (dPn (opLst false) (dCons (dV 1) dNil))) dNil)))
  (sSeq (sPar 3 4 (dCons (dLc false (dI iV (dV 0)) (gN 7) dYes (dCall (lcoreF n) [] (dCons (dV 7) dNil)) [7]) (dCons (dCall (lcoreF n) [] (dCons (dV 1) dNil)) dNil)))
  (sSeq (sFor (dI iV (dCall ltruthsF [] (dCons (dPn (orO opLen opLenD) (dCons (dV 2) dNil)) dNil))) (gN 5)
  (sSeq (sSet 6 (dPn (opDict false) (dCons (dLc false (dIs iR1 (dCons (dPn (orO opLen opLenD) (dCons (dV 2) dNil)) dNil)) (gN 8) dYes (dPn opTup (dCons (dPn opRepr (dCons (dP2 opIxA (dV 2) (dV 8)) dNil)) (dCons (dP2 opIxA (dV 5) (dV 8)) dNil))) [8]) dNil)))
  (sIf (dAnd (dTb (dP2 (opInA true) (dC (.bool false)) (dLc false (dI iV (dV 3)) (gN 7) dYes (dCall (lcomesF 60) [] (dCons (dV 7) (dCons (dV 6) dNil))) [7]))) (dNot (dTv (dCall (lcomesF 60) [] (dCons (dV 4) (dCons (dV 6) dNil))))))
  (sRet (dC (.bool false))) sNext)))
  (sRet (dC (.bool true))))))
noncomputable def lfollowsF (n : Nat) : Fn := fnF 2 9 (lfollowsB n)
structure Row (n : Nat) (l : List Sg) (s : Sg) (A : List Sg) : Prop where
  os : Os n (l ++ [s])
  at_ : AtA A
  eq : oat (l ++ [s]) = Sg.ds A
  co : ∀ x ∈ l ++ [s], Co A (core x)
  mem : ∀ a, a ∈ A ↔ a ∈ outss (cores (l ++ [s]))
  few : A.length ≤ 16
section
variable {n : Nat} {l A : List Sg} {s : Sg}
theorem Row.len (h : Row n l s A) : l.length ≤ 50000 := by
  have hz := h.os.app
  have q : (cores l).length = l.length := by rw [cores_map, List.length_map]
  have := szs_len (cores l)
  omega
theorem Row.comes (h : Row n l s A) {ts : List Bool} (ht : ts.length = A.length) {x : Sg} (hx : x ∈ l ++ [s]) (μ : Mem) : callF (lcomesF 60) [.d (core x).d, .d (.dict (pairsA A ts))] μ = .ok (.d (.bool (ev (vOf A ts) (core x)))) μ := by
  have k := h.os.cs x hx
  have z := (core_sz x).1
  have := k.sz
  exact lcomes_ok h.at_ ht 60 (core x) (by have := k.cht; omega) ((core_sz x).2.2 k.sok) k.dep (by omega) (h.co x hx) μ
theorem no_false (bs : List Bool) : (!((bs.map PyData.bool).any fun y => PyData.eqv y (.bool false))) = bs.all id := by
  rw [List.any_map, Bool.eq_iff_iff]
  simp [Function.comp_def]
def FoI (n : Nat) (l : List Sg) (s : Sg) (A : List Sg) (done : List PyData) (ρ : Env) (μ : Mem) : Prop := ∃ e5 e6 e8, ρ = [some (.d (.list (Sg.ds l))), some (.d s.d), some (.d (.list (Sg.ds A))), some (.d (.list (Sg.ds (cores l)))), some (.d (core s).d), e5, e6, none, e8] ∧ μ = [] ∧ ∀ ts, rowD ts ∈ done → ts.length = A.length → parts A l s ts = false
theorem bools_inj : ∀ {a b : List Bool}, a.map PyData.bool = b.map PyData.bool → a = b
  | [], [], _ => rfl
  | [], _ :: _, h => by cases h
  | _ :: _, [], h => by cases h
  | x :: a, y :: b, h => by
    simp only [List.map_cons, List.cons.injEq, PyData.bool.injEq] at h
    rw [h.1, bools_inj h.2]
theorem rowD_inj {a b : List Bool} (h : rowD a = rowD b) : a = b := by
  simp only [rowD, PyData.tuple.injEq] at h
  exact bools_inj h
end
end Mok09

set_option autoImplicit false
namespace Mok09
open PySem PySem.Spec PyProof.Rows L2
/-! ### for x, y in zip(two tuples | two lists) -/
def IzT (K : PySem.W.Frag) (p q : Addr) : It :=
  ⟨fun i H => ∃ (us vs : List V) (x y : V), SqT K H p us ∧ SqT K H q vs ∧ us[i]? = some x ∧ vs[i]? = some y, fun i H v H' => ∃ T x y o, v = .ref T ∧ H T = none ∧ o.dict = none ∧ H' = upd H T (.frz o (.tup [x, y])) ∧ (∀ us, SqT K H p us → us[i]? = some x) ∧ ∀ vs, SqT K H q vs → vs[i]? = some y, fun i H => ∃ us vs : List V, SqT K H p us ∧ SqT K H q vs ∧ (us.length ≤ i ∨ vs.length ≤ i)⟩
def IzL (K : PySem.W.Frag) (p q : Addr) : It :=
  ⟨fun i H => ∃ (us vs : List V) (x y : V), SqL K H p us ∧ SqL K H q vs ∧ us[i]? = some x ∧ vs[i]? = some y, fun i H v H' => ∃ T x y o, v = .ref T ∧ H T = none ∧ o.dict = none ∧ H' = upd H T (.frz o (.tup [x, y])) ∧ (∀ us, SqL K H p us → us[i]? = some x) ∧ ∀ vs, SqL K H q vs → vs[i]? = some y, fun i H => ∃ us vs : List V, SqL K H p us ∧ SqL K H q vs ∧ (us.length ≤ i ∨ vs.length ≤ i)⟩
def iZipF (K : PySem.W.Frag) (ta : TA) : TI := fun σ H R => ta σ H fun vs H1 => ∃ a b us ws, vs = [.ref a, .ref b] ∧ ((SqL K H1 a us ∧ SqL K H1 b ws ∧ R (IzL K a b) H1) ∨ (SqT K H1 a us ∧ SqT K H1 b ws ∧ R (IzT K a b) H1))
def iZp : List W → Mem → Res Src
  | [.d (.list xs), .d (.list ys)], μ => .ok (zipD xs ys, none) μ
  | [.d (.tuple xs), .d (.tuple ys)], μ => .ok (zipD xs ys, none) μ
  | _, _ => .bad
theorem zipD_len (xs ys : List PyData) : (zipD xs ys).length = min xs.length ys.length := by
  unfold zipD
  rw [List.length_zipWith]
section
variable {X : Cx} {ct : Ct} {Z : WX}
end
section
variable {μ : Mem} {Ps : Src → Mem → Prop}
@[simp] theorem ok_iZl {xs ys : List PyData} : Ok (iZp [.d (.list xs), .d (.list ys)] μ) Ps = Ps (zipD xs ys, none) μ := rfl
@[simp] theorem ok_iZt {xs ys : List PyData} : Ok (iZp [.d (.tuple xs), .d (.tuple ys)] μ) Ps = Ps (zipD xs ys, none) μ := rfl
end
end Mok09

set_option autoImplicit false
namespace Mok09
open PySem PySem.Spec PyProof.Rows L2
/-! ### {k: v for x in it if ..} -/
def encD (kvs : List (PyData × PyData)) : List PyData := kvs.map fun p => .tuple [p.1, p.2]
def dcPut (acc : List PyData) (w z : W) (μ : Mem) : Res (List PyData) := match w, z, pairsD acc with
  | .d x, .d y, some kvs => if ((keyD x).isSome && sz (kvs.length + 1)) = true then .ok (encD (putD kvs x y)) μ else .bad
  | _, _, _ => .bad
def dcOne (tt : DT) (tk tv : DE) (ρ : Env) (acc : List PyData) (μ : Mem) : Res (List PyData) :=
  bnd (noX (tt ρ μ)) fun b μ1 => if b = true then bnd (noX (tk ρ μ1)) fun w μ2 => bnd (noX (tv ρ μ2)) fun z μ3 => dcPut acc w z μ3 else .ok acc μ1
noncomputable def dDc (di : DI) (g : PyData → Env → Option Env) (tt : DT) (tk tv : DE) (vs : List Nat) : DE := fun ρ μ => bnd (di ρ μ) fun s μ1 =>
  bnd (lcL s g (dcOne tt tk tv) (wipeE ρ vs) s.1 [] μ1) fun acc μ2 => match pairsD acc with
    | some kvs => .ok (.d (.dict kvs)) μ2
    | none => .bad
structure HidK (K : PySem.W.Frag) (D : Addr) (h0 : List Addr) (m : Ms) (H : Hp) (acc : List PyData) : Prop where
  hid : m.h = D :: h0
  at_ : ∃ us kvs, H D = some (.dK us) ∧ DvK K (Live m) H us kvs ∧ acc = encD kvs
section
variable {K : PySem.W.Frag} {D : Addr} {h0 : List Addr} {m m' : Ms} {H H' : Hp} {acc : List PyData} {μ : Mem}
end
section
variable {X : Cx} {ct : Ct} {Z : WX}
end
section
variable {X : Cx} {ct : Ct} {Z : WX} {scope : Scope} {own : List (Str × Nat)} {tg iter kx vx : Expr} {ifs : List Expr} {pos : Pos} {di : DI} {g : PyData → Env → Option Env} {us : List Nat} {dt : DT} {dk dv : DE}
end
section
variable {ρ : Env} {μ : Mem} {Pw : W → Mem → Prop} {Pa : List PyData → Mem → Prop}
end
end Mok09

set_option autoImplicit false
namespace Mok09
open PySem PySem.Spec PyProof.Rows L2
/-! ### tuple(range(n)) -/
noncomputable def opTr : Op
  | [.d (.int n)], μ => if inR n = true then mkT (intsOf 0 n.toNat) μ else none
  | _, _ => none
section
variable {X : Cx} {ct : Ct} {Z : WX}
end
section
variable {μ : Mem} {Pw : W → Mem → Prop}
end
/-! ### enumerate(a tuple) -/
set_option maxHeartbeats 1000000 in
theorem enum_newT (t : Addr) (o : Obj) (items : Array Value) (n : Nat) (hc : o.cls = .type "tuple") (hd : o.data = .seq items n) :
    Meets (Builtin.«enumerate.__new__» ⟨[.type "enumerate", .ref t], []⟩) (fun _ R s => s.heap.get? t = some o ∧
      R (.ok (.ret (.ref (s.heap.objs.size + 1)))) { s with heap := (s.heap.push { cls := .type "tuple_iterator", data := .fields #[.ref t, .int 0 0] }).push { cls := .type "enumerate", data := .fields #[.none, .bool false, .ref s.heap.objs.size, rawInt 0, .none, .none] } }) :=
  .of_wp fun prog w A R s h => by
    obtain ⟨hp, g, d, tk, os⟩ := s
    obtain ⟨at_, h⟩ := h
    have is : Heap.IsTuple (Shared.heap ⟨hp, g, d, tk, os⟩) t items := ⟨o, at_, hc, n, hd⟩
    have hsub := sub_enumerate
    have hsz : (hp.push { cls := .type "tuple_iterator", data := .fields #[.ref t, .int 0 0] }).objs.size = hp.objs.size + 1 := Heap.size_push ..
    rw [← hsz] at h
    wp_walk
    refine wpAny_stack_any fun st => wpAny_pure ?_
    split
    · rename_i k _ _ _ _ _
      cases (k == Value.type "enumerate")
      · wp_walk using wpAny_pyIter_tuple is
        exact ⟨_, rfl, h⟩
      · wp_walk using wpAny_pyIter_tuple is
        exact ⟨_, rfl, h⟩
    · wp_walk using wpAny_pyIter_tuple is
      exact ⟨_, rfl, h⟩
end Mok09

set_option autoImplicit false
namespace Mok09
open PySem PySem.Spec PyProof.Rows L2
section
variable {prog : Program} {w : World} {A : Around} {E : Value → Shared → Prop} {s : Shared}
theorem call_enumT {t : Addr} {items : Array Value} {Q : Value → Shared → Prop} (is : s.heap.IsTuple t items)
    (q : ∀ g, IsEnum g (s.heap.objs.size + 1) s.heap.objs.size 0 .none → g.IsTupleIter s.heap.objs.size t 0 → (∀ b o, s.heap.get? b = some o → g.get? b = some o) → Q (.ref (s.heap.objs.size + 1)) { s with heap := g }) :
    wpAny (model prog w) A (call (.type "enumerate") [.ref t]) Q E s := by
  obtain ⟨o, at_, hc, n, hd⟩ := is
  refine callType_new F.called_enumerate (by decide) (F.typeCall_enumerate_1 _) (F.newCall_enumerate_1 _) (fun obj => F.args_object_init_2 obj _) F.entry_enumerate_new (enum_newT t o items n hc hd) ⟨at_, ?_⟩
  have sz : (s.heap.push { cls := .type "tuple_iterator", data := .fields #[.ref t, .int 0 0] }).objs.size = s.heap.objs.size + 1 := Heap.size_push ..
  have en : IsEnum ((s.heap.push { cls := .type "tuple_iterator", data := .fields #[.ref t, .int 0 0] }).push
      { cls := .type "enumerate", data := .fields #[.none, .bool false, .ref s.heap.objs.size, rawInt 0, .none, .none] }) (s.heap.objs.size + 1) s.heap.objs.size 0 .none := by
    rw [← sz]
    exact Heap.get?_push_size _ rfl
  exact ⟨⟨_, en, rfl⟩, q _ en ⟨_, Heap.get?_push_of_some _ (Heap.get?_push_size _ rfl), rfl, rfl⟩ fun b o x => Heap.get?_push_of_some _ (Heap.get?_push_of_some _ x)⟩
end
section
variable {prog : Program} {w : World} {A : Around} {E : Value → Shared → Prop} {s : Shared}
/-- its end, wherever the iterator stands behind the last -/
theorem wpAny_pyNext_enumT_end {e it t : Addr} {i : Nat} {items : Array Value} {c : Int} {old : Value} {Q : Option Value → Shared → Prop} (hh : A.handled = none) (en : IsEnum s.heap e it c old) (w1 : s.heap.IsTupleIter it t i) (is : s.heap.IsTuple t items) (no : items[i]? = none)
    (q : ∀ g, Heap.ExtBut it s.heap g → Q none { s with heap := g }) : wpAny (model prog w) A (pyNext (.ref e)) Q E s := by
  have ty : s.TypeIs (.ref e) "enumerate" := ⟨_, en, rfl⟩
  unfold pyNext
  refine wpAny_bind (wpAny_attempt (wpAny_callSpecial?_slot (name := Str.ofString "__next__") ty F.slot_enumerate_next
    (wpAny_call_entry F.slot_enumerate_next ty F.entry_enumerate_next ?_ (F.args_enumerate_next_1 _))))
  show wpAny _ _ (field (.ref e) 2 >>= fun v => _) _ _ _
  refine wpAny_bind (wpAny_field en rfl (x := .ref it) rfl ?_)
  refine wpAny_bind (wpAny_nextOf_tuple_end hh w1 is no fun g x ext hx => ?_)
  obtain ⟨o, ho, cls⟩ := hx
  exact wpAny_bind (wpAny_isInstance (T := "StopIteration") (b := true) ⟨o, ho, cls⟩ isSubtype_stop (wpAny_pure (q _ ext)))
end
def ItfT (K : PySem.W.Frag) (a : Addr) : It :=
  ⟨fun i H => ∃ (xs : List V) (x : V), SqT K H a xs ∧ xs[i]? = some x, fun i H v H' => ∃ T x o, v = .ref T ∧ H T = none ∧ o.dict = none ∧ H' = upd H T (.frz o (.tup [.int (i : Nat), x])) ∧ ∀ xs, SqT K H a xs → xs[i]? = some x, fun i H => ∃ xs : List V, SqT K H a xs ∧ xs.length ≤ i⟩
theorem enum_apart {h : Heap} {a e it : Addr} {items : Array Value} {c : Int} {old : Value} {i : Nat} (en : IsEnum h e it c old) (w1 : h.IsTupleIter it a i) (is : h.IsTuple a items) : a ≠ it ∧ e ∉ [it, a] ∧ e ≠ it := by
  obtain ⟨o1, e1, c1, _⟩ := w1
  obtain ⟨o2, e2, c2, _⟩ := is
  have en' : h.get? e = some _ := en
  have n1 : a ≠ it := fun z => by
    subst z
    rw [e1] at e2
    cases e2
    rw [c1] at c2
    exact absurd c2 (by decide)
  have n2 : e ≠ it := fun z => by
    subst z
    rw [e1] at en'
    cases en'
    exact absurd (show Value.type "enumerate" = Value.type "tuple_iterator" from c1) (by decide)
  have n3 : e ≠ a := fun z => by
    subst z
    rw [e2] at en'
    cases en'
    exact absurd (show Value.type "enumerate" = Value.type "tuple" from c2) (by decide)
  exact ⟨n1, by simp [n2, n3], n2⟩
theorem turn_enumT {P : Program} {w : World} {K : PySem.W.Frag} {elts : List Expr} {kk : Nat} {tpos : Pos} (a e it : Addr) :
    Turn P w K (.Tuple elts kk tpos) (ItfT K a) [e, it] e (fun i h => (∃ old, IsEnum h e it ((i : Nat) : Int) old) ∧ h.IsTupleIter it a i) where
  mem := List.mem_cons_self
  obj := fun i h t b hb => by
    obtain ⟨⟨old, en⟩, o, ho, _, hd⟩ := t
    simp only [List.mem_cons, List.not_mem_nil, or_false] at hb
    rcases hb with rfl | rfl
    · exact ⟨_, en, fun v q => nomatch q⟩
    · exact ⟨o, ho, fun v q => by rw [hd] at q; cases q⟩
  keep := fun i h g t k => let ⟨⟨old, en⟩, w1⟩ := t; ⟨⟨old, k e (by simp) _ en⟩, w1.at fun o q => k it (by simp) o q⟩
  item := by
    intro X hP hw hK hc i pins s σ H E I fp t gg
    subst hP hw hK
    obtain ⟨⟨old, en⟩, w1⟩ := t
    obtain ⟨xs, x, sq, ux⟩ := gg
    obtain ⟨its, rv, pt, hz⟩ := I.tuple sq
    obtain ⟨u, hu, ru⟩ := rv.get ux
    have is : s.heap.IsTuple a its.toArray := pt
    obtain ⟨n1, n2, n3⟩ := enum_apart en w1 is
    have le : e < s.heap.objs.size := Heap.lt_size en
    have li : it < s.heap.objs.size := by obtain ⟨_, q, _⟩ := w1; exact Heap.lt_size q
    have hlt : i < its.toArray.size := by
      have := (List.getElem?_eq_some_iff.mp hu).1
      simpa using this
    refine wpAny_pyNext_enum_itemD (Draws.tuple (prog := X.prog) (w := X.w) (A := X.A.in1) (I.ok.hd hc) it a n1 its.toArray) en ⟨w1, is⟩ hlt n3 n2 fun x' h1 tk px out st tt sz ke => ?_
    have ex : x' = u := by
      have p2 : its.toArray[i]? = some x' := px
      have p3 : its[i]? = some x' := by simpa using p2
      rw [hu] at p3
      exact (Option.some.inj p3).symm
    subst ex
    refine ⟨_, rfl, wpAny_letOwnedTupleGo_enum (s := { s with heap := h1, toks := tk + 1 }) out fun h2 en2 same => ?_⟩
    let O : Obj := { cls := .type "tuple", data := .seq #[.int i tk, x'] }
    have at2 : h2.get? s.heap.objs.size = some O := (same.2 _ (Nat.ne_of_gt le)).trans tt
    have nw : ObjOk X.prog X.w (upd H s.heap.objs.size (.frz O (.tup [.int (i : Nat), x]))) h2 s.heap.objs.size (.frz O (.tup [.int (i : Nat), x])) :=
      ⟨at2, by show 2 ≤ sizeLine; decide, [.int i tk, x'], .cons ⟨_, rfl⟩ (.cons ru .nil), ⟨_, at2, rfl, _, rfl⟩⟩
    have J : Inv X pins σ (upd H s.heap.objs.size (.frz O (.tup [.int (i : Nat), x]))) { s with heap := h2, toks := tk + 1 } :=
      I.turnedNew (ch := [e, it]) (fun c o n q => (same.2 c fun z => n (by simp [z])).trans (ke c o (fun z => n (by simp [z])) (fun z => n (by simp [z])) q)) fp (Nat.le_refl _) nw
    refine ⟨.ref s.heap.objs.size, _, J, rfl, ⟨_, x, O, rfl, I.hok.fresh (Nat.le_refl _), rfl, rfl, fun ys hy => by rw [I.tuple_inj hy sq]; exact ux⟩, ⟨⟨x', ?_⟩, st.1.at fun o q => (same.2 it (Ne.symm n3)).trans q⟩, fun b hb => ?_⟩
    · have e1 : ((i + 1 : Nat) : Int) = (i : Int) + 1 := by omega
      rw [e1]
      exact en2
    · have lb : b < s.heap.objs.size := by
        have hb' := hb
        simp only [List.mem_cons, List.not_mem_nil, or_false] at hb'
        rcases hb' with rfl | rfl
        · exact le
        · exact li
      rw [upd_ne (Nat.ne_of_lt lb)]
      exact (fp b hb).1
  done := by
    intro X hP hw hK hc i pins s σ H E I fp t gg
    subst hP hw hK
    obtain ⟨⟨old, en⟩, w1⟩ := t
    obtain ⟨xs, sq, hx⟩ := gg
    obtain ⟨its, rv, pt, hz⟩ := I.tuple sq
    have is : s.heap.IsTuple a its.toArray := pt
    obtain ⟨n1, n2, n3⟩ := enum_apart en w1 is
    obtain ⟨f0, f1, f2, f3, f4, f5⟩ := fp it (by simp)
    have hl := rv.length
    have nil : its.toArray[i]? = none := by simp; omega
    have en0 := en
    refine wpAny_pyNext_enumT_end (I.ok.hd hc) en w1 is nil fun g eb => ⟨rfl, I.turned (t' := s.toks) (fun b o hb q => eb b o hb q) f0 f1 f3 f4 f5⟩
  self := fun A i s Q E t h => let ⟨⟨_, en⟩, _⟩ := t; wpAny_pyIter_enum en h
end Mok09

set_option autoImplicit false
namespace Mok09
open PySem PySem.Spec PyProof.Rows L2
/-! ### enumerate of a list or of a tuple -/
def iEnumA (K : PySem.W.Frag) (ta : TA) : TI := fun σ H R => ta σ H fun vs H1 => ∃ a xs, vs = [.ref a] ∧ ((SqL K H1 a xs ∧ R (Itf K a) H1) ∨ (SqT K H1 a xs ∧ R (ItfT K a) H1))
theorem pi_enumA {X : Cx} {e : Expr} {ta : TA} {p pos tpos : Pos} {elts : List Expr} {kk : Nat} (hg : Gl X "enumerate") (hm : X.mg "enumerate" = none) (ha : PA X [e] ta) (hs : starEach [e] X.env = [(false, eval e X.env)] := by rfl) :
    PI X (.Tuple elts kk tpos) (.Call (.Name "enumerate" p) [e] [] pos) (iEnumA X.K ta) := by
  refine ⟨fun pins s σ H R I h => ?_⟩
  refine Call_ (ld_blt I hg hm boot_enumerate (PyProof.Rows.callWith_type1 (thn (ha.run pos pins s σ H _ I h) fun us s1 ⟨vs, H1, I1, r1, q1⟩ => ?_) hs rfl))
  obtain ⟨a, xs, ex, q⟩ := q1
  subst ex
  cases r1 with
  | cons r rr =>
  cases rr
  cases r
  have fr : ∀ b, b ∈ [s1.heap.objs.size + 1, s1.heap.objs.size] → FpOk X pins H1 b := fun b hm => by
    have le : s1.heap.objs.size ≤ b := by
      simp only [List.mem_cons, List.not_mem_nil, or_false] at hm
      rcases hm with z | z <;> rw [z] <;> first | exact Nat.le_refl _ | exact Nat.le_add_right _ _
    exact I1.fpOk le (I1.hok.fresh le)
  rcases q with ⟨sq, q⟩ | ⟨sq, q⟩
  · obtain ⟨its, rv, pl, hz⟩ := I1.list sq
    refine call_enumerate_list pl.isList fun g en w1 sz ke => wpAny_pyIter_enum en ?_
    have J : Inv X pins σ H1 { s1 with heap := g } := I1.kept (t' := s1.toks) ke
    exact ⟨s1.heap.objs.size + 1, _, _, _, H1, rfl, J, turn_enumF a (s1.heap.objs.size + 1) s1.heap.objs.size, ⟨⟨.none, en⟩, w1, Nat.succ_ne_self _⟩, fr, q⟩
  · obtain ⟨its, rv, pt, hz⟩ := I1.tuple sq
    refine call_enumT (show s1.heap.IsTuple a its.toArray from pt) fun g en w1 ke => wpAny_pyIter_enum en ?_
    have J : Inv X pins σ H1 { s1 with heap := g } := I1.kept (t' := s1.toks) ke
    exact ⟨s1.heap.objs.size + 1, _, _, _, H1, rfl, J, turn_enumT a (s1.heap.objs.size + 1) s1.heap.objs.size, ⟨⟨.none, en⟩, w1⟩, fr, q⟩
def iEnA : List W → Mem → Res Src
  | [.d (.list xs)], μ => .ok (numb 0 xs, none) μ
  | [.d (.tuple xs)], μ => .ok (numb 0 xs, none) μ
  | _, _ => .bad
theorem srv_enumT {K : PySem.W.Frag} {a : Addr} {m : Ms} {H : Hp} {us : List V} {xs : List PyData} (hq : TpR K H a us) (ha : DvAll K (Live m) H us xs) : Srv K (ItfT K a) m H (numb 0 xs, none) where
  stop := fun m' H' μ e hh _ => ⟨us, (hq.stay e.ks).sq, by show us.length ≤ (numb 0 xs).length; rw [numb_len, ha.len]; exact Nat.le_refl _⟩
  go := fun i m' H' μ hi e hh _ => by
    have lt : i < (numb 0 xs).length := hi
    rw [numb_len, ← ha.len] at lt
    exact ⟨us, us[i], (hq.stay e.ks).sq, List.getElem?_eq_getElem _⟩
  yld := fun i m' H' μ x H2 e hh _ hi hy => by
    obtain ⟨T, y, o, rfl, hT, hd, rfl, at_⟩ := hy
    obtain ⟨d, k1, k2⟩ := (ha.stay e.ks).get' (at_ us (hq.stay e.ks).sq)
    exact ⟨_, by simpa using numb_at xs 0 i k1, .tup (.inl ⟨o, upd_same, hd⟩) (.cons (.int _) (.cons (Dv.stay k2 (Ext.laid hT _).ks) .nil)), .laid hT _, hh.laid hT _⟩
section
variable {X : Cx} {ct : Ct} {Z : WX}
theorem miEnA {a : Expr} {p pos tpos : Pos} {elts : List Expr} {kk : Nat} {da : DA} (h : MA X ct Z [a] da) (hm : X.mg "enumerate" = none) (hg : Gl X "enumerate" := by rfl) (hs : starEach [a] X.env = [(false, eval a X.env)] := by rfl) : MI X ct Z (.Tuple elts kk tpos) (.Call (.Name "enumerate" p) [a] [] pos) (dIs iEnA da) := by
  refine ⟨pi_imp (pi_enumA hg hm h.pa hs) fun σ H R q => ?_⟩
  obtain ⟨m, ρ, μ, he, hh, g⟩ := q
  refine ⟨m, ρ, μ, he, hh, (Gd.bnd g).mono fun ws μ1 m1 H1 e1 h1 g1 vs r1 => ?_⟩
  unfold iEnA at g1
  split at g1
  · cases r1 with
    | cons a b =>
      cases b
      cases a with
      | lst hq ha => exact ⟨_, _, rfl, .inl ⟨hq.sq, g1 m1 H1 (.refl _ _) h1 _ (srv_enum hq ha)⟩⟩
  · cases r1 with
    | cons a b =>
      cases b
      cases a with
      | tup hq ha => exact ⟨_, _, rfl, .inr ⟨hq.sq, g1 m1 H1 (.refl _ _) h1 _ (srv_enumT hq ha)⟩⟩
  · exact g1.elim
end
section
variable {μ : Mem} {Ps : Src → Mem → Prop}
@[simp] theorem ok_iEnAl {xs : List PyData} : Ok (iEnA [.d (.list xs)] μ) Ps = Ps (numb 0 xs, none) μ := rfl
@[simp] theorem ok_iEnAt {xs : List PyData} : Ok (iEnA [.d (.tuple xs)] μ) Ps = Ps (numb 0 xs, none) μ := rfl
end
end Mok09

set_option autoImplicit false
namespace Mok09
open PySem PySem.Spec PyProof.Rows L2
/-! ### the lowest bit; all bits in their order -/
/-- the places where f holds, rising -/
def wheres (n : Nat) (f : Nat → Bool) : List Nat := (List.range n).filter f
def natsD (l : List Nat) : List PyData := l.map fun i => .int (i : Nat)
noncomputable def bitsB : DS := (sSeq (sSet 1 (dPn (opLst true) dNil))
  (sSeq (whl (dTv (dV 0))
  (sSeq (sSet 2 (dCall firstF [] (dCons (dV 0) dNil)))
  (sSeq (sExpr (dMt "list" opAppend (dV 1) (dCons (dV 2) dNil)))
  (sAug 0 opXor (dP2 opShl (dC (.int 1)) (dV 2))))) 100000)
  (sSeq (sLet 1) (sRet (dV 1)))))
noncomputable def bitsF : Fn := fnF 1 3 bitsB
def from_ (j : Nat) (f : Nat → Bool) (i : Nat) : Bool := decide (j ≤ i) && f i
def BiI (n : Nat) (f : Nat → Bool) (k : Nat) (ρ : Env) (μ : Mem) : Prop := ∃ (j : Nat) (e : Option W), j + k = n ∧ ρ = [some (.d (.int (mk n (from_ j f) : Nat))), some (.r 0), e] ∧ μ = [.l (natsD (wheres j f))]
end Mok09

set_option autoImplicit false
namespace Mok09
open PySem PySem.Spec PyProof.Rows L2
/-! ### webs -/
structure Web where
  n : Nat
  st : List (Str × List (Nat × Nat))
  le : List (Str × List Nat)
def pairD (p : Nat × Nat) : PyData := .tuple [.int (p.1 : Nat), .int (p.2 : Nat)]
def rowsD (rows : List (Str × List PyData)) : List PyData := rows.map fun p => .tuple [.str p.1, .tuple p.2]
def stR (w : Web) : List (Str × List PyData) := w.st.map fun p => (p.1, p.2.map pairD)
def leR (w : Web) : List (Str × List PyData) := w.le.map fun p => (p.1, natsD p.2)
def Web.d (w : Web) : PyData := .tuple [.int (w.n : Nat), .tuple (rowsD (stR w)), .tuple (rowsD (leR w))]
/-- the first row of a name -/
def look {α : Type} : List (Str × List α) → Str → List α
  | [], _ => []
  | (y, xs) :: r, x => if y = x then xs else look r x
/-! ### listed -/
noncomputable def listedB : DS := (sSeq (sFor (dI iV (dV 0)) (gT 2 (gCons' (gN 2) (gCons' (gN 3) gNil')))
  (sIf (dTb (dP2 (opEq false) (dV 2) (dV 1)))
  (sRet (dV 3)) sNext))
  (sRet (dPn opTup dNil)))
noncomputable def listedF : Fn := fnF 2 4 listedB
def LdI (rows : List (Str × List PyData)) (x : Str) (done : List PyData) (ρ : Env) (μ : Mem) : Prop := ∃ e2 e3, (∀ p ∈ rows.take done.length, p.1 ≠ x) ∧ ρ = [some (.d (.tuple (rowsD rows))), some (.d (.str x)), e2, e3] ∧ μ = []
/-! ### leading_mask -/
noncomputable def leadB : DS := (sSeq (sSet 3 (dC (.int 0)))
  (sSeq (sFor (dI iV (dCall listedF [] (dCons (dP2 opIxA (dV 0) (dC (.int 1))) (dCons (dV 1) dNil)))) (gT 2 (gCons' (gN 4) (gCons' (gN 5) gNil')))
  (sIf (dTv (dCall hasF [] (dCons (dV 2) (dCons (dV 5) dNil))))
  (sAug 3 opOr (dP2 opShl (dC (.int 1)) (dV 4))) sNext))
  (sRet (dV 3))))
noncomputable def leadF : Fn := fnF 3 6 leadB
def ledBy (ps : List (Nat × Nat)) (g : Nat → Bool) (i : Nat) : Bool := ps.any fun p => decide (p.1 = i) && g p.2
def lead (w : Web) (h : Str) (g : Nat → Bool) : Nat → Bool := ledBy (look w.st h) g
structure Web.ok (w : Web) : Prop where
  n : w.n ≤ 1000
  st : ∀ p ∈ w.st, ∀ q ∈ p.2, q.1 < w.n ∧ q.2 < w.n
  le : ∀ p ∈ w.le, ∀ q ∈ p.2, q < w.n
def LeI (w : Web) (h : Str) (g : Nat → Bool) (ps : List (Nat × Nat)) (done : List PyData) (ρ : Env) (μ : Mem) : Prop := ∃ e4 e5, ρ = [some (.d w.d), some (.d (.str h)), some (.d (.int (mk w.n g : Nat))), some (.d (.int (mk w.n (ledBy (ps.take done.length) g) : Nat))), e4, e5] ∧ μ = []
end Mok09

set_option autoImplicit false
namespace Mok09
open PySem PySem.Spec PyProof.Rows L2
/-! ### {world: name}: the new numbers -/
def dks : Nat → List Nat → List (PyData × PyData)
  | _, [] => []
  | k, x :: r => (.int (x : Nat), .int (k : Nat)) :: dks (k + 1) r
def rank (f : Nat → Bool) (x : Nat) : Nat := (wheres x f).length
section
variable {μ : Mem} {Pw : W → Mem → Prop}
end
/-! ### the web of some worlds -/
def keptP (f : Nat → Bool) (ps : List (Nat × Nat)) : List (Nat × Nat) := (ps.filter fun q => f q.1 && f q.2).map fun q => (rank f q.1, rank f q.2)
def keptN (f : Nat → Bool) (xs : List Nat) : List Nat := (xs.filter f).map (rank f)
def keepR {α β : Type} (g : List α → List β) : List (Str × List α) → List (Str × List β)
  | [] => []
  | (x, as) :: r => if (g as).isEmpty = true then keepR g r else (x, g as) :: keepR g r
def cutW (w : Web) (f : Nat → Bool) : Web := ⟨(wheres w.n f).length, keepR (keptP f) w.st, keepR (keptN f) w.le⟩
/-- what holds where: a saying with tellings as the web tells it -/
def hold : Web → Sg → Nat → Bool
  | w, .lt x, i => decide (i ∈ look w.le x)
  | w, .no s, i => !hold w s i
  | w, .many b l, i => if b = true then holdAny w l i else holdAll w l i
  | w, .so a b, i => !hold w a i || hold w b i
  | w, .mod b h s, i => if b = true then lead w h (hold w s) i else !lead w h (fun j => !hold w s j) i
  | w, .tl a b, i => !hold w a i || hold (cutW w (hold w a)) b (rank (hold w a) i)
where
  holdAny : Web → List Sg → Nat → Bool
    | _, [], _ => false
    | w, s :: l, i => hold w s i || holdAny w l i
  holdAll : Web → List Sg → Nat → Bool
    | _, [], _ => true
    | w, s :: l, i => hold w s i && holdAll w l i
end Mok09

set_option autoImplicit false
namespace Mok09
open PySem PySem.Spec PyProof.Rows L2
/-! ### web_of_worlds -/
noncomputable def wowE : DS := (sSeq (sSet 7 (dPn (opLst true) dNil))
  (sSeq (sFor (dI iV (dP2 opIxA (dV 0) (dC (.int 2)))) (gT 2 (gCons' (gN 8) (gCons' (gN 9) gNil')))
  (sSeq (sSet 10 (dLc false (dI iV (dV 9)) (gN 12) (dTb (dP2 (opInA false) (dV 12) (dV 2))) (dP2 opIxA (dV 2) (dV 12)) [12]))
  (sIf (dTv (dV 10))
  (sExpr (dMt "list" opAppend (dV 7) (dCons (dPn opTup (dCons (dV 8) (dCons (dPn opTu (dCons (dV 10) dNil)) dNil))) dNil))) sNext)))
  (sRet (dPn opTup (dCons (dPn (orO opLen opLenD) (dCons (dV 1) dNil)) (dCons (dPn opTu (dCons (dV 3) dNil)) (dCons (dPn opTu (dCons (dV 7) dNil)) dNil)))))))
noncomputable def wowC : DS := (sSeq (sFor (dI iV (dP2 opIxA (dV 0) (dC (.int 1)))) (gT 2 (gCons' (gN 4) (gCons' (gN 5) gNil')))
  (sSeq (sSet 6 (dLc false (dI iV (dV 5)) (gT 2 (gCons' (gN 13) (gCons' (gN 14) gNil'))) (dAnd (dTb (dP2 (opInA false) (dV 13) (dV 2))) (dTb (dP2 (opInA false) (dV 14) (dV 2)))) (dPn opTup (dCons (dP2 opIxA (dV 2) (dV 13)) (dCons (dP2 opIxA (dV 2) (dV 14)) dNil))) [13, 14]))
  (sIf (dTv (dV 6))
  (sExpr (dMt "list" opAppend (dV 3) (dCons (dPn opTup (dCons (dV 4) (dCons (dPn opTu (dCons (dV 6) dNil)) dNil))) dNil))) sNext)))
  wowE)
noncomputable def wowB : DS := (sSeq (sSet 2 (dDc (dIs iEnA (dCons (dV 1) dNil)) (gT 2 (gCons' (gN 11) (gCons' (gN 12) gNil'))) dYes (dV 12) (dV 11) [11, 12]))
  (sSeq (sSet 3 (dPn (opLst true) dNil))
  wowC))
noncomputable def wowF : Fn := fnF 2 15 wowB
section
variable {w : Web} {f : Nat → Bool}
def inP (f : Nat → Bool) : PyData → Bool
  | .tuple [.int a, .int b] => f a.toNat && f b.toNat
  | _ => false
def rkP (f : Nat → Bool) : PyData → PyData
  | .tuple [.int a, .int b] => pairD (rank f a.toNat, rank f b.toNat)
  | _ => .none
def inN (f : Nat → Bool) : PyData → Bool
  | .int a => f a.toNat
  | _ => false
def rkN (f : Nat → Bool) : PyData → PyData
  | .int a => .int (rank f a.toNat : Nat)
  | _ => .none
end
end Mok09

set_option autoImplicit false
namespace Mok09
open PySem PySem.Spec PyProof.Rows L2
def rowS (p : Str × List (Nat × Nat)) : PyData := .tuple [.str p.1, .tuple (p.2.map pairD)]
def rowL (p : Str × List Nat) : PyData := .tuple [.str p.1, .tuple (natsD p.2)]
structure Web.sm (w : Web) : Prop where
  st : w.st.length ≤ 1000
  stp : ∀ p ∈ w.st, p.2.length ≤ 1000000
  le : w.le.length ≤ 1000
  lep : ∀ p ∈ w.le, p.2.length ≤ 1000000
section
variable {w : Web} {f : Nat → Bool}
def StI (w : Web) (f : Nat → Bool) (y : PyData) (done : List PyData) (ρ : Env) (μ : Mem) : Prop := ∃ e4 e5 e6, ρ = [some (.d w.d), some (.d y), some (.d (.dict (dks 0 (wheres w.n f)))), some (.r 0), e4, e5, e6, none, none, none, none, none, none, none, none] ∧ μ = [.l ((keepR (keptP f) (w.st.take done.length)).map rowS)]
def LtJ2 (w : Web) (f : Nat → Bool) (y : PyData) (S : List PyData) (a4 a5 a6 : Option W) (done : List PyData) (ρ : Env) (μ : Mem) : Prop := ∃ e8 e9 e10, ρ = [some (.d w.d), some (.d y), some (.d (.dict (dks 0 (wheres w.n f)))), some (.r 0), a4, a5, a6, some (.r 1), e8, e9, e10, none, none, none, none] ∧ μ = [.l S, .l ((keepR (keptN f) (w.le.take done.length)).map rowL)]
end
end Mok09

set_option autoImplicit false
namespace Mok09
open PySem PySem.Spec PyProof.Rows L2
section
variable {w : Web} {f : Nat → Bool}
end
end Mok09

set_option autoImplicit false
namespace Mok09
open PySem PySem.Spec PyProof.Rows L2
/-! ### holding_mask, told_mask -/
noncomputable def toldB (self : Fn) : DS := (sSeq (sSet 3 (dCall self [] (dCons (dV 0) (dCons (dV 1) dNil))))
  (sSeq (sSet 4 (dCall bitsF [] (dCons (dV 3) dNil)))
  (sSeq (sSet 5 (dP2 opXor (dP2 opSub (dP2 opShl (dC (.int 1)) (dP2 opIxA (dV 0) (dC (.int 0)))) (dC (.int 1))) (dV 3)))
  (sSeq (sIf (dNot (dTv (dV 4)))
  (sRet (dV 5)) sNext)
  (sSeq (sSet 6 (dCall wowF [] (dCons (dV 0) (dCons (dV 4) dNil))))
  (sRet (dP2 opOr (dV 5) (dCall maskF [] (dCons (dLc false (dI iV (dCall bitsF [] (dCons (dCall self [] (dCons (dV 6) (dCons (dV 2) dNil))) dNil))) (gN 7) dYes (dP2 opIxA (dV 4) (dV 7)) [7]) dNil)))))))))
noncomputable def toldF (self : Fn) : Fn := fnF 3 8 (toldB self)
end Mok09

set_option autoImplicit false
namespace Mok09
open PySem PySem.Spec PyProof.Rows L2
noncomputable def holdB (self : Fn) : DS := (sSeq (sSet 2 (dP2 opIxA (dV 1) (dC (.int 0))))
  (sSeq (sIf (dTb (dP2 (opEq false) (dV 2) (dC (.str "letter"))))
  (sRet (dCall maskF [] (dCons (dCall listedF [] (dCons (dP2 opIxA (dV 0) (dC (.int 2))) (dCons (dP2 opIxA (dV 1) (dC (.int 1))) dNil))) dNil))) sNext)
  (sSeq (sIf (dTb (dP2 (opEq false) (dV 2) (dC (.str "told"))))
  (sRet (dCall (toldF self) [] (dCons (dV 0) (dCons (dP2 opIxA (dV 1) (dC (.int 1))) (dCons (dP2 opIxA (dV 1) (dC (.int 2))) dNil))))) sNext)
  (sSeq (sSet 3 (dP2 opSub (dP2 opShl (dC (.int 1)) (dP2 opIxA (dV 0) (dC (.int 0)))) (dC (.int 1))))
  (sSeq (sSet 4 (dLc false (dI iV (dCall innerF [] (dCons (dV 1) dNil))) (gN 5) dYes (dCall self [] (dCons (dV 0) (dCons (dV 5) dNil))) [5]))
  (sSeq (sIf (dTb (dP2 (opEq false) (dV 2) (dC (.str "may"))))
  (sRet (dCall leadF [] (dCons (dV 0) (dCons (dP2 opIxA (dV 1) (dC (.int 1))) (dCons (dP2 opIxA (dV 4) (dC (.int 0))) dNil))))) sNext)
  (sSeq (sIf (dTb (dP2 (opEq false) (dV 2) (dC (.str "must"))))
  (sRet (dP2 opXor (dV 3) (dCall leadF [] (dCons (dV 0) (dCons (dP2 opIxA (dV 1) (dC (.int 1))) (dCons (dP2 opXor (dV 3) (dP2 opIxA (dV 4) (dC (.int 0)))) dNil)))))) sNext)
  (sRet (dCall joinF [] (dCons (dV 2) (dCons (dV 4) (dCons (dV 3) dNil))))))))))))
noncomputable def holdF : Nat → Fn
  | 0 => fun _ _ => .bad
  | n + 1 => fnF 2 6 (holdB (holdF n))
end Mok09

set_option autoImplicit false
namespace Mok09
open PySem PySem.Spec PyProof.Rows L2
/-! ### worlds_where, cut_web -/
noncomputable def wwB : DS := (sRet (dPn opTu (dCons (dCall bitsF [] (dCons (dCall (holdF 60) [] (dCons (dV 0) (dCons (dV 1) dNil))) dNil)) dNil)))
noncomputable def wwF : Fn := fnF 2 2 wwB
noncomputable def cutB : DS := (sSeq (sSet 2 (dCall wwF [] (dCons (dV 0) (dCons (dV 1) dNil))))
  (sSeq (sIf (dNot (dTv (dV 2)))
  (sRet (dC .none)) sNext)
  (sRet (dCall wowF [] (dCons (dV 0) (dCons (dV 2) dNil))))))
noncomputable def cutF : Fn := fnF 2 3 cutB
section
variable {w : Web} {s : Sg}
end
end Mok09

set_option autoImplicit false
namespace Mok09
open PySem PySem.Spec PyProof.Rows L2
/-! ### told out: what holds behind a telling -/
mutual
/-- said behind a telling -/
def beh (t : Sg) : Sg → Sg
  | .lt x => .so t (.lt x)
  | .no s => .so t (.no (beh t s))
  | .many w l => if w = true then .so t (.many w (behs t l)) else .many w (behs t l)
  | .so a b => .so (beh t a) (beh t b)
  | .tl a b => .so t (.tl (beh t a) (beh t b))
  | .mod w h s => if w = true then .so t (.mod w h (.many false [t, beh t s])) else .so t (.mod w h (beh t s))
def behs (t : Sg) : List Sg → List Sg
  | [] => []
  | s :: r => beh t s :: behs t r
end
mutual
def tout : Sg → Sg
  | .lt x => .lt x
  | .no s => .no (tout s)
  | .many w l => .many w (touts l)
  | .so a b => .so (tout a) (tout b)
  | .tl a b => beh (tout a) (tout b)
  | .mod w h s => .mod w h (tout s)
def touts : List Sg → List Sg
  | [] => []
  | s :: r => tout s :: touts r
end
structure Web.nm (w : Web) : Prop where
  st : (w.st.map (·.1)).Nodup
  le : (w.le.map (·.1)).Nodup
end Mok09

set_option autoImplicit false
namespace Mok09
open PySem PySem.Spec PyProof.Rows L2
end Mok09

set_option autoImplicit false
namespace Mok09
open PySem PySem.Spec PyProof.Rows L2
noncomputable def B_said_behind (self : Fn) : DS := (sSeq (sSet 2 (dP2 opIxA (dV 0) (dC (.int 0))))
  (sSeq (sSet 3 (dPn opTu (dCons (dLc false (dI iV (dCall innerF [] (dCons (dV 0) dNil))) (gN 5) dYes (dCall self [] (dCons (dV 5) (dCons (dV 1) dNil))) [5]) dNil)))
  (sSeq (sIf (dTb (dP2 (opEq false) (dV 2) (dC (.str "may"))))
  (sRet (dPn opTup (dCons (dC (.str "so")) (dCons (dV 1) (dCons (dPn opTup (dCons (dC (.str "may")) (dCons (dP2 opIxA (dV 0) (dC (.int 1))) (dCons (dPn opTup (dCons (dC (.str "and")) (dCons (dPn opTup (dCons (dV 1) (dCons (dP2 opIxA (dV 3) (dC (.int 0))) dNil))) dNil))) dNil)))) dNil))))) sNext)
  (sSeq (sSet 4 (dCall withF [] (dCons (dV 0) (dCons (dV 3) dNil))))
  (sSeq (sIf (dTb (dP2 (opInA false) (dV 2) (dPn opTup (dCons (dC (.str "and")) (dCons (dC (.str "so")) dNil)))))
  (sRet (dV 4)) sNext)
  (sRet (dPn opTup (dCons (dC (.str "so")) (dCons (dV 1) (dCons (dV 4) dNil))))))))))
noncomputable def F_said_behind : Nat → Fn
  | 0 => fun _ _ => .bad
  | n + 1 => fnF 2 6 (B_said_behind (F_said_behind n))
noncomputable def B_told_out (self : Fn) : DS := (sSeq (sSet 1 (dPn opTu (dCons (dLc false (dI iV (dCall innerF [] (dCons (dV 0) dNil))) (gN 2) dYes (dCall self [] (dCons (dV 2) dNil)) [2]) dNil)))
  (sSeq (sIf (dTb (dP2 (opEq false) (dP2 opIxA (dV 0) (dC (.int 0))) (dC (.str "told"))))
  (sRet (dCall (F_said_behind 40) [] (dCons (dP2 opIxA (dV 1) (dC (.int 1))) (dCons (dP2 opIxA (dV 1) (dC (.int 0))) dNil)))) sNext)
  (sRet (dCall withF [] (dCons (dV 0) (dCons (dV 1) dNil))))))
noncomputable def F_told_out : Nat → Fn
  | 0 => fun _ _ => .bad
  | n + 1 => fnF 1 3 (B_told_out (F_told_out n))
noncomputable def B_is_word : DS := (sSeq (sIf (dOr (dNot (dTv (dP1 (opIsi "str") (dV 0)))) (dNot (dTb (dChain opLeT opLeT (dC (.int 1)) (dPn (orO opLen opLenD) (dCons (dV 0) dNil)) (dC (.int 8))))))
  (sRet (dC (.bool false))) sNext)
  (sRet (dPn opAll (dCons (dLc false (dI iVs (dV 0)) (gN 1) dYes (dChain opLeT opLeT (dC (.str "a")) (dV 1) (dC (.str "z"))) [1]) dNil))))
noncomputable def F_is_word : Fn := fnF 1 2 B_is_word
noncomputable def B_things_within_pair : DS := (sSeq (sIf (dAnd (dTb (dP2 (opEq false) (dV 0) (dC (.str "letter")))) (dTv (dCall F_is_word [] (dCons (dV 1) dNil))))
  (sRet (dPn opTup dNil)) sNext)
  (sSeq (sIf (dTb (dP2 (opEq false) (dV 0) (dC (.str "not"))))
  (sRet (dPn opTup (dCons (dV 1) dNil))) sNext)
  (sSeq (sIf (dAnd (dTb (dP2 (opInA false) (dV 0) (dPn opTup (dCons (dC (.str "and")) (dCons (dC (.str "or")) dNil))))) (dTv (dP1 (opIsi "tuple") (dV 1))))
  (sRet (dV 1)) sNext)
  (sRet (dC .none)))))
noncomputable def F_things_within_pair : Fn := fnF 2 2 B_things_within_pair
noncomputable def B_things_within : DS := (sSeq (sIf (dOr (dNot (dTv (dP1 (opIsi "tuple") (dV 0)))) (dTb (dP2 (opInA true) (dPn (orO opLen opLenD) (dCons (dV 0) dNil)) (dPn opTup (dCons (dC (.int 2)) (dCons (dC (.int 3)) dNil))))))
  (sRet (dC .none)) sNext)
  (sSeq (sSet 2 (dP2 opIxA (dV 0) (dC (.int 0))))
  (sSeq (sIf (dTb (dP2 (opEq false) (dPn (orO opLen opLenD) (dCons (dV 0) dNil)) (dC (.int 2))))
  (sRet (dCall F_things_within_pair [] (dCons (dV 2) (dCons (dP2 opIxA (dV 0) (dC (.int 1))) dNil)))) sNext)
  (sSeq (sIf (dOr (dTb (dP2 (opEq false) (dV 2) (dC (.str "so")))) (dAnd (dTb (dP2 (opEq false) (dV 2) (dC (.str "told")))) (dTv (dV 1))))
  (sRet (dSl false (dV 0) (dPart (dC (.int 1))) dNo)) sNext)
  (sSeq (sIf (dAnd (dTb (dP2 (opInA false) (dV 2) (dPn opTup (dCons (dC (.str "must")) (dCons (dC (.str "may")) dNil))))) (dTv (dCall F_is_word [] (dCons (dP2 opIxA (dV 0) (dC (.int 1))) dNil))))
  (sRet (dSl false (dV 0) (dPart (dC (.int 2))) dNo)) sNext)
  (sRet (dC .none)))))))
noncomputable def F_things_within : Fn := fnF 2 3 B_things_within
noncomputable def B_is_built : DS := (sSeq (sSet 2 (dPn (opLst true) (dCons (dV 0) dNil)))
  (sSeq (whl (dTv (dV 2))
  (sSeq (sSet 3 (dCall F_things_within [] (dCons (dMt "list" opPop (dV 2) dNil) (dCons (dV 1) dNil))))
  (sSeq (sIf (dTb (dP2 (opIs false) (dV 3) (dC .none)))
  (sRet (dC (.bool false))) sNext)
  (sExpr (dMt "list" opExtend (dV 2) (dCons (dV 3) dNil))))) 100000)
  (sRet (dC (.bool true)))))
noncomputable def F_is_built : Fn := fnF 2 4 B_is_built
noncomputable def B_is_plain_saying : DS := (sRet (dCall F_is_built [] (dCons (dV 0) (dCons (dC (.bool false)) dNil))))
noncomputable def F_is_plain_saying : Fn := fnF 1 1 B_is_plain_saying
noncomputable def B_is_number : DS := (sRet (dAndV (dP1 (opIsi "int") (dV 0)) (dNotV (dP1 (opIsi "bool") (dV 0)))))
noncomputable def F_is_number : Fn := fnF 1 1 B_is_number
noncomputable def B_are_rising : DS := (sRet (dPn opAll (dCons (dLc false (dIs iZp (dCons (dV 0) (dCons (dSl false (dV 0) (dPart (dC (.int 1))) dNo) dNil))) (gT 2 (gCons' (gN 1) (gCons' (gN 2) gNil'))) dYes (dP2 opLt (dV 1) (dV 2)) [1, 2]) dNil)))
noncomputable def F_are_rising : Fn := fnF 1 3 B_are_rising
noncomputable def B_is_pair : DS := (sRet (dAndV (dP1 (opIsi "tuple") (dV 0)) (dP2 (opEq false) (dPn (orO opLen opLenD) (dCons (dV 0) dNil)) (dC (.int 2)))))
noncomputable def F_is_pair : Fn := fnF 1 1 B_is_pair
noncomputable def B_is_worded : DS := (sSeq (sIf (dOr (dNot (dTv (dP1 (opIsi "tuple") (dV 0)))) (dNot (dTv (dPn opAll (dCons (dLc false (dI iV (dV 0)) (gN 1) dYes (dAndV (dCall F_is_pair [] (dCons (dV 1) dNil)) (dCall F_is_word [] (dCons (dP2 opIxA (dV 1) (dC (.int 0))) dNil))) [1]) dNil)))))
  (sRet (dC (.bool false))) sNext)
  (sRet (dCall F_are_rising [] (dCons (dLc false (dI iV (dV 0)) (gN 1) dYes (dP2 opIxA (dV 1) (dC (.int 0))) [1]) dNil))))
noncomputable def F_is_worded : Fn := fnF 1 2 B_is_worded
noncomputable def B_is_world : DS := (sRet (dAndV (dCall F_is_number [] (dCons (dV 0) dNil)) (dChain opLe opLt (dC (.int 0)) (dV 0) (dV 1))))
noncomputable def F_is_world : Fn := fnF 2 2 B_is_world
noncomputable def B_are_steps : DS := (sSeq (sIf (dOr (dNot (dTv (dP1 (opIsi "tuple") (dV 0)))) (dNot (dTv (dV 0))))
  (sRet (dC (.bool false))) sNext)
  (sSeq (sIf (dNot (dTv (dPn opAll (dCons (dLc false (dI iV (dV 0)) (gN 2) dYes (dAndV (dCall F_is_pair [] (dCons (dV 2) dNil)) (dAndV (dCall F_is_world [] (dCons (dP2 opIxA (dV 2) (dC (.int 0))) (dCons (dV 1) dNil))) (dCall F_is_world [] (dCons (dP2 opIxA (dV 2) (dC (.int 1))) (dCons (dV 1) dNil))))) [2]) dNil))))
  (sRet (dC (.bool false))) sNext)
  (sRet (dCall F_are_rising [] (dCons (dV 0) dNil)))))
noncomputable def F_are_steps : Fn := fnF 2 3 B_are_steps
noncomputable def B_are_worlds : DS := (sSeq (sIf (dOr (dNot (dTv (dP1 (opIsi "tuple") (dV 0)))) (dNot (dTv (dV 0))))
  (sRet (dC (.bool false))) sNext)
  (sRet (dAndV (dPn opAll (dCons (dLc false (dI iV (dV 0)) (gN 2) dYes (dCall F_is_world [] (dCons (dV 2) (dCons (dV 1) dNil))) [2]) dNil)) (dCall F_are_rising [] (dCons (dV 0) dNil)))))
noncomputable def F_are_worlds : Fn := fnF 2 3 B_are_worlds
noncomputable def B_is_web : DS := (sSeq (sIf (dOr (dNot (dTv (dP1 (opIsi "tuple") (dV 0)))) (dTb (dP2 (opEq true) (dPn (orO opLen opLenD) (dCons (dV 0) dNil)) (dC (.int 3)))))
  (sRet (dC (.bool false))) sNext)
  (sSeq (sAsg (gT 3 (gCons' (gN 1) (gCons' (gN 2) (gCons' (gN 3) gNil')))) (dV 0))
  (sSeq (sIf (dOr (dNot (dTv (dCall F_is_number [] (dCons (dV 1) dNil)))) (dTb (dP2 opLt (dV 1) (dC (.int 1)))))
  (sRet (dC (.bool false))) sNext)
  (sSeq (sIf (dOr (dNot (dTv (dCall F_is_worded [] (dCons (dV 2) dNil)))) (dNot (dTv (dCall F_is_worded [] (dCons (dV 3) dNil)))))
  (sRet (dC (.bool false))) sNext)
  (sRet (dAndV (dPn opAll (dCons (dLc false (dI iV (dV 2)) (gT 2 (gCons' (gN 4) (gCons' (gN 5) gNil'))) dYes (dCall F_are_steps [] (dCons (dV 5) (dCons (dV 1) dNil))) [4, 5]) dNil)) (dPn opAll (dCons (dLc false (dI iV (dV 3)) (gT 2 (gCons' (gN 6) (gCons' (gN 7) gNil'))) dYes (dCall F_are_worlds [] (dCons (dV 7) (dCons (dV 1) dNil))) [6, 7]) dNil))))))))
noncomputable def F_is_web : Fn := fnF 1 8 B_is_web
end Mok09

set_option autoImplicit false
namespace Mok09
open PySem PySem.Spec PyProof.Rows L2
theorem behs_map (t : Sg) : ∀ l, behs t l = l.map (beh t)
  | [] => rfl
  | s :: r => by rw [behs, behs_map t r]; rfl
theorem touts_map : ∀ l, touts l = l.map tout
  | [] => rfl
  | s :: r => by rw [touts, touts_map r]; rfl
mutual
/-- how many tellings are put before it -/
def Sg.A : Sg → Nat
  | .lt _ => 1
  | .no s => s.A + 1
  | .many w l => Sg.As l + (if w = true then 1 else 0)
  | .so a b => a.A + b.A
  | .tl a b => a.A + b.A + 1
  | .mod w _ s => s.A + (if w = true then 2 else 1)
def Sg.As : List Sg → Nat
  | [] => 0
  | s :: r => s.A + Sg.As r
end
mutual
def Sg.q : Sg → Nat
  | .lt _ => 1
  | .no s => s.q + 1
  | .many _ l => Sg.qs l + 1
  | .so a b => a.q + b.q + 1
  | .tl a b => a.q + b.q + 1
  | .mod w _ s => s.q + (if w = true then 2 else 1)
def Sg.qs : List Sg → Nat
  | [] => 0
  | s :: r => s.q + Sg.qs r
end
mutual
def Sg.pa : Sg → Nat
  | .lt _ => 1
  | .no s => s.pa + 1
  | .many w l => Sg.pas l + (if w = true then 1 else 0)
  | .so a b => max a.pa b.pa
  | .tl a b => max a.pa b.pa + 1
  | .mod _ _ s => s.pa + 1
def Sg.pas : List Sg → Nat
  | [] => 0
  | s :: r => max s.pa (Sg.pas r)
end
section
variable (t : Sg)
mutual
theorem beh_q : ∀ s : Sg, s.pl → (beh t s).q ≤ s.q + s.A * (t.q + 2)
  | .lt _, _ => by simp only [beh, Sg.A, Sg.q, Nat.one_mul]; omega
  | .no s, h => by have := beh_q s h; simp only [beh, Sg.A, Sg.q, Nat.add_mul, Nat.one_mul]; omega
  | .many w l, h => by have := beh_qs l h; cases w <;> simp only [beh, Sg.A, Sg.q, if_true, Bool.false_eq_true, if_false, Nat.add_mul, Nat.one_mul, Nat.zero_mul] <;> omega
  | .so a b, h => by have := beh_q a h.1; have := beh_q b h.2; simp only [beh, Sg.A, Sg.q, Nat.add_mul]; omega
  | .tl a b, h => h.elim
  | .mod w x s, h => by have := beh_q s h; cases w <;> simp only [beh, Sg.A, Sg.q, Sg.qs, if_true, Bool.false_eq_true, if_false, Nat.add_mul, Nat.one_mul] <;> omega
theorem beh_qs : ∀ l : List Sg, Sg.pls l → Sg.qs (behs t l) ≤ Sg.qs l + Sg.As l * (t.q + 2)
  | [], _ => by simp [behs, Sg.qs]
  | s :: r, h => by have := beh_q s h.1; have := beh_qs r h.2; simp only [behs, Sg.qs, Sg.As, Nat.add_mul]; omega
end
mutual
theorem beh_sok (ht : t.sok) : ∀ s : Sg, s.sok → (beh t s).sok
  | .lt _, h => ⟨ht, h⟩
  | .no s, h => ⟨ht, beh_sok ht s h⟩
  | .many w l, h => by
    have a := beh_soks ht l h.1
    have b : (behs t l).length ≤ 1000 := by rw [behs_map, List.length_map]; exact h.2
    cases w
    · exact ⟨a, b⟩
    · exact ⟨ht, a, b⟩
  | .so a b, h => ⟨beh_sok ht a h.1, beh_sok ht b h.2⟩
  | .tl a b, h => ⟨ht, beh_sok ht a h.1, beh_sok ht b h.2⟩
  | .mod w x s, h => by
    have a := beh_sok ht s h.2
    cases w
    · exact ⟨ht, h.1, a⟩
    · exact ⟨ht, h.1, ⟨ht, a, trivial⟩, by simp⟩
theorem beh_soks (ht : t.sok) : ∀ l : List Sg, Sg.soks l → Sg.soks (behs t l)
  | [], _ => trivial
  | s :: r, h => ⟨beh_sok ht s h.1, beh_soks ht r h.2⟩
end
mutual
theorem beh_pl (ht : t.pl) : ∀ s : Sg, s.pl → (beh t s).pl
  | .lt _, _ => ⟨ht, trivial⟩
  | .no s, h => ⟨ht, beh_pl ht s h⟩
  | .many w l, h => by
    have a := beh_pls ht l h
    cases w
    · exact a
    · exact ⟨ht, a⟩
  | .so a b, h => ⟨beh_pl ht a h.1, beh_pl ht b h.2⟩
  | .tl a b, h => h.elim
  | .mod w x s, h => by
    have a := beh_pl ht s h
    cases w
    · exact ⟨ht, a⟩
    · exact ⟨ht, ht, a, trivial⟩
theorem beh_pls (ht : t.pl) : ∀ l : List Sg, Sg.pls l → Sg.pls (behs t l)
  | [], _ => trivial
  | s :: r, h => ⟨beh_pl ht s h.1, beh_pls ht r h.2⟩
end
end
mutual
theorem tout_sok : ∀ s : Sg, s.sok → (tout s).sok ∧ (tout s).pl
  | .lt _, h => ⟨h, trivial⟩
  | .no s, h => tout_sok s h
  | .many w l, h => by
    have a := tout_soks l h.1
    exact ⟨⟨a.1, by rw [touts_map, List.length_map]; exact h.2⟩, a.2⟩
  | .so a b, h => ⟨⟨(tout_sok a h.1).1, (tout_sok b h.2).1⟩, (tout_sok a h.1).2, (tout_sok b h.2).2⟩
  | .tl a b, h => ⟨beh_sok _ (tout_sok a h.1).1 _ (tout_sok b h.2).1, beh_pl _ (tout_sok a h.1).2 _ (tout_sok b h.2).2⟩
  | .mod w x s, h => ⟨⟨h.1, (tout_sok s h.2).1⟩, (tout_sok s h.2).2⟩
theorem tout_soks : ∀ l : List Sg, Sg.soks l → Sg.soks (touts l) ∧ Sg.pls (touts l)
  | [], _ => ⟨trivial, trivial⟩
  | s :: r, h => ⟨⟨(tout_sok s h.1).1, (tout_soks r h.2).1⟩, (tout_sok s h.1).2, (tout_soks r h.2).2⟩
end
/-- what it may grow to -/
def Sg.U (s : Sg) : Nat := 4 ^ s.lv * 2 ^ s.int
def Us (l : List Sg) : Nat := 4 ^ Sg.lvs l * 2 ^ Sg.ints l
/-- a saying of the law: small -/
structure Small (s : Sg) : Prop where
  sok : s.sok
  int : s.int ≤ 5
  lv : s.lv ≤ 6
end Mok09

set_option autoImplicit false
namespace Mok09
open PySem PySem.Spec PyProof.Rows L2
section
variable {μ : Mem} {Pw : W → Mem → Prop}
theorem okO_lens {x : Str} (h : x.length ≤ sizeLine) : OkO ((orO opLen opLenD) [.d (.str x)] μ) Pw = Pw (.d (.int x.length)) μ := by
  simp [orO, opLen, sz, h, pI]
end
theorem bet_true {c : Nat} {μ : Mem} {ρ : Env} : dChain opLeT opLeT (dC (.str "a")) (dV 1) (dC (.str "z")) (ρ.set 1 (some (.d (.str ⟨#[c]⟩)))) μ = (if 1 < ρ.length then .ok (.d (.bool (bet c))) μ else .bad) := by
  by_cases h : 1 < ρ.length
  · rw [if_pos h]
    have e : ∀ μ, dV 1 (ρ.set 1 (some (.d (.str ⟨#[c]⟩)))) μ = .ok (.d (.str ⟨#[c]⟩)) μ := fun μ => dV_of (by rw [List.getElem?_set_self h])
    unfold dChain
    simp only [dC, bnd_ok, e]
    unfold bet
    simp only [opLeT, orO, opLe, opCmp, opCmpS, pB, ofO, bnd_ok, asBl]
    by_cases q : (Str.ofString "a").cps.toList ≤ (⟨#[c]⟩ : Str).cps.toList <;> simp [q]
  · rw [if_neg h]
    have e : ∀ μ, dV 1 (ρ.set 1 (some (.d (.str ⟨#[c]⟩)))) μ = .bad := fun μ => by
      unfold dV
      rw [List.getElem?_eq_none (by simp; omega)]
    unfold dChain
    simp only [dC, bnd_ok, e, bnd_bad]
theorem all_bet (l : List Nat) : ((l.map bet).all id) = l.all bet := by
  rw [List.all_map]; rfl
theorem signs_at {x : Str} {j : Nat} {d : PyData} (h : (signs x)[j]? = some d) : ∃ c, x.cps.toList[j]? = some c ∧ d = .str ⟨#[c]⟩ := by
  unfold signs at h
  rw [List.getElem?_map] at h
  obtain ⟨c, h1, h2⟩ := Option.map_eq_some_iff.mp h
  exact ⟨c, h1, h2.symm⟩
def sgn (c : Nat) : PyData := .str ⟨#[c]⟩
def LeftI (x : Str) (μ : Mem) (done acc : List PyData) (μ' : Mem) : Prop := μ' = μ ∧ acc = ((x.cps.toList.take done.length).filter fun c => !bet c).map sgn
theorem is_word_ok {d : PyData} (h : Th 64 1000000 d) (μ : Mem) : Ok (F_is_word [.d d] μ) fun w _ => w = .d (.bool (word d)) := by
  cases d with
  | str x =>
    have hl := h.slen
    have hz : x.length ≤ sizeLine := Nat.le_trans (show x.length ≤ 1000000 by omega) (by decide)
    simp [F_is_word, B_is_word, isi_str h.lay, isS, okO_lens hz]
    by_cases h1 : 1 ≤ (x.length : Int)
    · rw [if_pos h1]
      by_cases h2 : (x.length : Int) ≤ 8
      · rw [if_pos h2, ok_dLc]
        simp
        refine lc_map (xs := signs x) (s := (signs x, none)) (ys := x.cps.toList.map fun c => .bool (bet c)) rfl trivial (by simp [Str.length]) (by rw [signs_len]; exact hz) (fun j d y hd hy => ?_) ?_
        · obtain ⟨c, h3, rfl⟩ := signs_at hd
          rw [List.getElem?_map, h3] at hy
          cases hy
          rw [bet_true]
          exact if_pos (by simp [wipeE])
        · skip
          have e : boolsD (x.cps.toList.map fun c => PyData.bool (bet c)) = some (x.cps.toList.map bet) := by
            rw [← boolsD_map, List.map_map]; rfl
          rw [okO_all e, all_bet]
          have h3 : 1 ≤ x.length := by omega
          have h4 : x.length ≤ 8 := by omega
          simp [word, h3, h4]
      · rw [if_neg h2]
        have h4 : ¬ x.length ≤ 8 := by omega
        simp [word, h4]
    · rw [if_neg h1]
      have h4 : ¬ 1 ≤ x.length := by omega
      simp [word, h4]
  | _ => simp [F_is_word, B_is_word, isi_str h.lay, isS, word]
theorem is_word_eq {d : PyData} (h : Th 64 1000000 d) (μ : Mem) : callF F_is_word [.d d] μ = .ok (.d (.bool (word d))) μ := call_pure rfl (is_word_ok h [])
/-- what must be sayings for it to be one -/
def TW2 (w x : PyData) : Option (List PyData) := match w with
  | .str v => if v = "letter" then (if word x = true then some [] else none) else if v = "not" then some [x] else if v = "and" ∨ v = "or" then (match x with
    | .tuple ys => some ys
    | _ => none) else none
  | _ => none
def TW3 (t : Bool) (w x y : PyData) : Option (List PyData) := match w with
  | .str v => if v = "so" ∨ (v = "told" ∧ t = true) then some [x, y] else if v = "must" ∨ v = "may" then (if word x = true then some [y] else none) else none
  | _ => none
def TW (t : Bool) : PyData → Option (List PyData)
  | .tuple [w, x] => TW2 w x
  | .tuple [w, x, y] => TW3 t w x y
  | _ => none
theorem mem_wts {y : PyData} : ∀ {xs : List PyData}, y ∈ xs → wt y + 2 ≤ wts xs
  | x :: xs, h => by
    rw [wts]
    rcases List.mem_cons.mp h with rfl | h
    · omega
    · have := mem_wts h; omega
theorem TW_wts {t : Bool} {d : PyData} {ys : List PyData} (h : TW t d = some ys) : wts ys + 1 ≤ wt d := by
  unfold TW at h
  split at h
  · rename_i w x
    simp only [wt.eq_6, wts]
    unfold TW2 at h
    split at h
    · split at h
      · split at h
        · cases h; simp only [wts]; omega
        · cases h
      · split at h
        · cases h; simp only [wts]; omega
        · split at h
          · split at h
            · cases h; simp only [wt.eq_6]; omega
            · cases h
          · cases h
    · cases h
  · rename_i w x y
    simp only [wt.eq_6, wts]
    unfold TW3 at h
    split at h
    · split at h
      · cases h; simp only [wts]; omega
      · split at h
        · split at h
          · cases h; simp only [wts]; omega
          · cases h
        · cases h
    · cases h
  · cases h
def say (t : Bool) (d : PyData) : Bool := match h : TW t d with
  | none => false
  | some ys => ys.attach.all fun ⟨y, hy⟩ => say t y
termination_by wt d
decreasing_by
  have a := TW_wts h
  have b := mem_wts hy
  omega
theorem say_eq (t : Bool) (d : PyData) : say t d = match TW t d with
    | none => false
    | some ys => ys.all (say t) := by
  rw [say]
  split
  · rename_i h; rw [h]
  · rename_i ys h
    rw [h]
    simp
theorem TW_ths {t : Bool} {d : PyData} {ys : List PyData} {D N : Nat} (k : Th D N d) (h : TW t d = some ys) : Ths D N ys := by
  have e := TW_wts h
  have hl := k.len
  unfold TW at h
  split at h
  · rename_i w x
    obtain ⟨q, _, _⟩ := k.items
    obtain ⟨q1, q2⟩ := q.hd
    obtain ⟨q3, q4⟩ := q2.hd
    unfold TW2 at h
    split at h
    · split at h
      · split at h
        · cases h; exact .nil
        · cases h
      · split at h
        · cases h
          exact (Ths.sub q2 (fun y hy => hy) (by omega)).mono (by omega) (Nat.le_refl _)
        · split at h
          · split at h
            · cases h
              obtain ⟨q5, _⟩ := q3.items
              exact q5.mono (by omega) (by omega)
            · cases h
          · cases h
    · cases h
  · rename_i w x y
    obtain ⟨q, _, _⟩ := k.items
    obtain ⟨q1, q2⟩ := q.hd
    unfold TW3 at h
    split at h
    · split at h
      · cases h; exact q2.mono (by omega) (by omega)
      · split at h
        · split at h
          · cases h; exact q2.hd.2.mono (by omega) (by omega)
          · cases h
        · cases h
    · cases h
  · cases h
def twD : Option (List PyData) → PyData
  | none => .none
  | some ys => .tuple ys
theorem eqv_nos {d : PyData} {s : Str} (h : isS d = false) : PyData.eqv d (.str s) = false := by
  cases d <;> first | (simp [PyData.eqv]; done) | simp [isS] at h
theorem eqv_nos' {d : PyData} {s : Str} (h : isS d = false) : PyData.eqv (.str s) d = false := by
  cases d <;> first | (simp [PyData.eqv]; done) | simp [isS] at h
theorem tw2_nos {w x : PyData} (h : isS w = false) : TW2 w x = none := by
  cases w <;> first | rfl | simp [isS] at h
theorem tw3_nos {t : Bool} {w x y : PyData} (h : isS w = false) : TW3 t w x y = none := by
  cases w <;> first | rfl | simp [isS] at h
theorem pair_ok {w x : PyData} (hw : Th 64 1000000 w) (hx : Th 64 1000000 x) (μ : Mem) : Ok (F_things_within_pair [.d w, .d x] μ) fun r _ => r = .d (twD (TW2 w x)) := by
  have sw := hw.shp (Nat.le_refl _)
  by_cases hs : isS w = true
  · obtain ⟨v, rfl⟩ : ∃ v, w = .str v := by cases w <;> first | exact ⟨_, rfl⟩ | simp [isS] at hs
    have hv : PyData.strOk v = true := by simpa using hw.lay
    simp [F_things_within_pair, B_things_within_pair, is_word_eq hx, isi_tup hx.lay, hv, sw, TW2]
    by_cases h1 : v = "letter"
    · subst h1
      cases word x <;> simp (config := { decide := true }) [twD]
    · by_cases h2 : v = "not"
      · subst h2
        simp (config := { decide := true }) [twD]
      · by_cases h3 : v = "and"
        · subst h3
          cases x <;> simp (config := { decide := true }) [twD, isT]
        · by_cases h4 : v = "or"
          · subst h4
            cases x <;> simp (config := { decide := true }) [twD, isT]
          · simp [h1, h2, h3, h4, Ne.symm h3, Ne.symm h4, twD]
  · rw [Bool.not_eq_true] at hs
    simp [F_things_within_pair, B_things_within_pair, is_word_eq hx, isi_tup hx.lay, sw, eqv_nos hs, eqv_nos' hs, tw2_nos hs, twD, bothS]
theorem pair_eq {w x : PyData} (hw : Th 64 1000000 w) (hx : Th 64 1000000 x) (μ : Mem) : callF F_things_within_pair [.d w, .d x] μ = .ok (.d (twD (TW2 w x))) μ := call_pure rfl (pair_ok hw hx [])
theorem within_ok {d : PyData} {t : Bool} (h : Th 64 1000000 d) (μ : Mem) : Ok (F_things_within [.d d, .d (.bool t)] μ) fun r _ => r = .d (twD (TW t d)) := by
  cases d with
  | tuple xs =>
    obtain ⟨hxs, _, _⟩ := h.items
    match xs, hxs with
    | [], _ => simp (config := { decide := true }) [F_things_within, B_things_within, isi_tup h.lay, isT, TW, twD]
    | [_], _ => simp (config := { decide := true }) [F_things_within, B_things_within, isi_tup h.lay, isT, TW, twD]
    | [w, x], hxs =>
      have hw := hxs.hd.1.mono (D' := 64) (N' := 1000000) (by omega) (by omega)
      have hx := hxs.hd.2.hd.1.mono (D' := 64) (N' := 1000000) (by omega) (by omega)
      simp (config := { decide := true }) [F_things_within, B_things_within, isi_tup h.lay, isT, TW, pair_eq hw hx]
    | [w, x, y], hxs =>
      have hw := hxs.hd.1.mono (D' := 64) (N' := 1000000) (by omega) (by omega)
      have hx := hxs.hd.2.hd.1.mono (D' := 64) (N' := 1000000) (by omega) (by omega)
      have sw := hw.shp (Nat.le_refl _)
      by_cases hs : isS w = true
      · obtain ⟨v, rfl⟩ : ∃ v, w = .str v := by cases w <;> first | exact ⟨_, rfl⟩ | simp [isS] at hs
        have hv : PyData.strOk v = true := by simpa using hw.lay
        simp (config := { decide := true }) [F_things_within, B_things_within, isi_tup h.lay, isT, TW, is_word_eq hx, hv, sw, TW3]
        by_cases h1 : v = "so"
        · subst h1
          simp (config := { decide := true }) [twD]
        · by_cases h2 : v = "told"
          · subst h2
            cases t <;> simp (config := { decide := true }) [twD]
          · by_cases h3 : v = "must"
            · subst h3
              cases word x <;> simp (config := { decide := true }) [twD]
            · by_cases h4 : v = "may"
              · subst h4
                cases word x <;> simp (config := { decide := true }) [twD]
              · simp [h1, h2, h3, h4, Ne.symm h3, Ne.symm h4, twD]
      · rw [Bool.not_eq_true] at hs
        simp (config := { decide := true }) [F_things_within, B_things_within, isi_tup h.lay, isT, TW, is_word_eq hx, sw, eqv_nos hs, eqv_nos' hs, tw3_nos hs, twD, bothS]
    | _ :: _ :: _ :: _ :: r, _ =>
      have e1 : ¬ ((2 : Int) = (r.length : Int) + 1 + 1 + 1 + 1) := by omega
      have e2 : ¬ ((3 : Int) = (r.length : Int) + 1 + 1 + 1 + 1) := by omega
      simp (config := { decide := true }) [F_things_within, B_things_within, isi_tup h.lay, isT, TW, twD, e1, e2]
  | _ => simp [F_things_within, B_things_within, isi_tup h.lay, isT, TW, twD]
theorem within_eq {d : PyData} {t : Bool} (h : Th 64 1000000 d) (μ : Mem) : callF F_things_within [.d d, .d (.bool t)] μ = .ok (.d (twD (TW t d))) μ := call_pure rfl (within_ok h [])
theorem ths_snoc {D N : Nat} {r : List PyData} {x : PyData} (h : Ths D N (r ++ [x])) : Ths D N r ∧ Th D N x ∧ wts r + wt x + 2 = wts (r ++ [x]) := by
  refine ⟨h.sub (fun y hy => List.mem_append_left _ hy) ?_, ths_mem h x (by simp), ?_⟩
  · have := h.len
    rw [wts_app] at this
    omega
  · rw [wts_app, wts, wts]
    omega
theorem built_loop (d : PyData) (t b : Bool) : ∀ (n : Nat) (L : List PyData) (e3 : Option W), L.all (say t) = b → wts L < n → Ths 64 500000 L →
    Oks (whl (dTv (dV 2)) (sSeq (sSet 3 (dCall F_things_within [] (dCons (dMt "list" opPop (dV 2) dNil) (dCons (dV 1) dNil))))
  (sSeq (sIf (dTb (dP2 (opIs false) (dV 3) (dC .none)))
  (sRet (dC (.bool false))) sNext)
  (sExpr (dMt "list" opExtend (dV 2) (dCons (dV 3) dNil))))) n [some (.d d), some (.d (.bool t)), some (.r 0), e3] [.l L]) (fun _ _ => b = true) (fun w _ => w = .d (.bool b)) (fun _ _ => False) (fun _ _ => False)
  | 0, L, e3, _, h, _ => by omega
  | n + 1, L, e3, hb, h, hL => by
    rw [oks_whl]
    by_cases hn : L = []
    · subst hn
      have : b = true := by rw [← hb]; rfl
      simp [asB, truth, this]
    · obtain ⟨r, x, rfl⟩ := snoc_of hn
      obtain ⟨h1, h2, h3⟩ := ths_snoc hL
      have hx := h2.mono (D' := 64) (N' := 1000000) (Nat.le_refl _) (by decide)
      have e : (!(r ++ [x]).isEmpty) = true := by simp
      have sx := say_eq t x
      simp [asB, truth, tyW, okO_pop (show ([MO.l (r ++ [x])] : Mem)[0]? = some (.l (r ++ [x])) from rfl), within_eq hx, okO_isNone]
      rw [List.all_append, List.all_cons, List.all_nil, Bool.and_true] at hb
      cases q : TW t x with
      | none =>
        rw [q] at sx
        simp only at sx
        rw [sx, Bool.and_false] at hb
        simp [twD, ← hb]
      | some ys =>
        rw [q] at sx
        simp only at sx
        have hw := TW_wts q
        have hy := TW_ths h2 q
        have hl := hL.len
        have hry : Ths 64 500000 (r ++ ys) := ths_of (fun y hy' => by
          rcases List.mem_append.mp hy' with h | h
          · have := ths_mem h1 y h; exact ⟨this.lay, this.dep, this.shw⟩
          · have := ths_mem hy y h; exact ⟨this.lay, this.dep, this.shw⟩) (by rw [wts_app]; omega)
        have hz : r.length + ys.length ≤ sizeLine := le_million (by have := hry.size; rw [List.length_append] at this; omega)
        simp [twD]
        rw [okO_ext (xs := r) (by rfl) hz]
        exact built_loop d t b n (r ++ ys) (some (.d (.tuple ys))) (by rw [List.all_append, ← sx]; exact hb) (by rw [wts_app]; omega) hry
theorem built_ok {d : PyData} {t : Bool} (h : Th 64 90000 d) (μ : Mem) : Ok (F_is_built [.d d, .d (.bool t)] []) fun r _ => r = .d (.bool (say t d)) := by
  have hd : Ths 64 500000 [d] := (Ths.cons h (Ths.nil (N := 0))).mono (Nat.le_refl _) (by decide)
  have hl := h.len
  simp [F_is_built, B_is_built]
  exact Oks.mono (built_loop d t (say t d) 100000 [d] none (by simp) (by simp only [wts]; omega) hd) (fun _ _ h => by rw [h]) (fun _ _ h => h) (fun _ _ h => h) (fun _ _ h => h)
theorem built_eq {d : PyData} {t : Bool} (h : Th 64 90000 d) (μ : Mem) : callF F_is_built [.d d, .d (.bool t)] μ = .ok (.d (.bool (say t d))) μ := call_pure rfl (built_ok h [])
end Mok09

set_option autoImplicit false
namespace Mok09
open PySem PySem.Spec PyProof.Rows L2
/-! ### is_plain_saying of a plain saying -/
mutual
/-- no word is empty -/
def ne : Sg → Prop
  | .lt x => 1 ≤ x.length
  | .no s => ne s
  | .many _ l => nes l
  | .so a b => ne a ∧ ne b
  | .tl a b => ne a ∧ ne b
  | .mod _ h s => 1 ≤ h.length ∧ ne s
def nes : List Sg → Prop
  | [] => True
  | s :: r => ne s ∧ nes r
end
theorem bet_low : ∀ c : Nat, low c = true → bet c = true := by
  intro c h
  have h1 : 97 ≤ c ∧ c ≤ 122 := of_decide_eq_true h
  have main : ∀ k : Nat, k < 26 → bet (97 + k) = true := by decide +kernel
  have := main (c - 97) (by omega)
  rw [show 97 + (c - 97) = c by omega] at this
  exact this
theorem word_sw {x : Str} (h : Sw x) (hn : 1 ≤ x.length) : word (.str x) = true := by
  have h2 : x.length ≤ 8 := by
    have := h.2
    simpa [cp, Str.length] using this
  have h3 : x.cps.toList.all bet = true := List.all_eq_true.mpr fun c hc => bet_low c (low_all h.1 c hc)
  simp [word, hn, h2]
  simpa using h3
end Mok09

set_option autoImplicit false
namespace Mok09
open PySem PySem.Spec PyProof.Rows L2
open PySem.W (dataLt)
/-! ### kinds of webs -/
section
open PySem.W
theorem kb_bool_n : kitB "NoneType" "bool" = some false := by decide +kernel
theorem kb_bool_b : kitB "bool" "bool" = some true := by decide +kernel
theorem kb_bool_i : kitB "int" "bool" = some false := by decide +kernel
theorem kb_bool_s : kitB "str" "bool" = some false := by decide +kernel
theorem kb_bool_l : kitB "list" "bool" = some false := by decide +kernel
theorem kb_bool_t : kitB "tuple" "bool" = some false := by decide +kernel
end
def isIB : PyData → Bool
  | .int _ => true
  | .bool _ => true
  | _ => false
def isB : PyData → Bool
  | .bool _ => true
  | _ => false
def isI : PyData → Bool
  | .int _ => true
  | _ => false
theorem isi_bool {d : PyData} {μ : Mem} {Pw : W → Mem → Prop} (h : d.canLay0 = true) : OkO (opIsi "bool" [.d d] μ) Pw = Pw (.d (.bool (isB d))) μ := by
  cases d with
  | none => exact okO_isi (by simp [tyN]) kb_bool_n
  | bool b => exact okO_isi (by simp [tyN]) kb_bool_b
  | int b => exact okO_isi (by simp [tyN]) kb_bool_i
  | str b => exact okO_isi (by simp [tyN]) kb_bool_s
  | list b => exact okO_isi (by simp [tyN]) kb_bool_l
  | tuple b => exact okO_isi (by simp [tyN]) kb_bool_t
  | dict _ => simp [PyData.canLay0] at h
def isP : PyData → Bool
  | .tuple [_, _] => true
  | _ => false
theorem is_pair_eq {d : PyData} (h : d.canLay0 = true) (μ : Mem) : callF F_is_pair [.d d] μ = .ok (.d (.bool (isP d))) μ := by
  refine call_pure rfl ?_
  simp [F_is_pair, B_is_pair, isi_tup h]
  cases d with
  | tuple xs =>
    match xs with
    | [] => simp [isT, isP]
    | [_] => simp [isT, isP]
    | [_, _] => simp [isT, isP]
    | _ :: _ :: _ :: r =>
      simp [isT, isP]
      omega
  | _ => simp [isT, isP]
/-- each less than the next one -/
def adj : List PyData → Bool
  | x :: y :: r => dataLt x y && adj (y :: r)
  | _ => true
def ltD : PyData → PyData
  | .tuple [x, y] => .bool (dataLt x y)
  | _ => .none
theorem zip_mem {x : PyData} : ∀ {xs ys : List PyData}, x ∈ zipD xs ys → ∃ a ∈ xs, ∃ b ∈ ys, x = .tuple [a, b]
  | [], ys, h => by simp [zipD] at h
  | a :: xs, [], h => by simp [zipD] at h
  | a :: xs, b :: ys, h => by
    rcases List.mem_cons.mp (show x ∈ .tuple [a, b] :: zipD xs ys from h) with rfl | h
    · exact ⟨a, by simp, b, by simp, rfl⟩
    · obtain ⟨c, hc, d, hd, e⟩ := zip_mem h
      exact ⟨c, List.mem_cons_of_mem _ hc, d, List.mem_cons_of_mem _ hd, e⟩
end Mok09

set_option autoImplicit false
namespace Mok09
open PySem PySem.Spec PyProof.Rows L2
open PySem.W (dataLt)
/-- each thing's picture -/
theorem lc_each {xs : List PyData} {g : PyData → Env → Option Env} {te : DE} {ρ : Env} {μ : Mem} {Pa : List PyData → Mem → Prop} (f : PyData → PyData) (hz : xs.length ≤ sizeLine)
    (hstep : ∀ x ∈ xs, ∃ ρ1, g x ρ = some ρ1 ∧ Ok (te ρ1 μ) fun w μ' => w = .d (f x) ∧ μ' = μ) (hend : Pa (xs.map f) μ) : Ok (lcL (xs, none) g (lcOne dYes te) ρ xs [] μ) Pa := by
  refine lc_pure (s := (xs, none)) (fun _ => true) f rfl trivial hz (fun x hx => ?_) ?_
  · obtain ⟨ρ1, h1, h2⟩ := hstep x hx
    refine ⟨ρ1, h1, ?_⟩
    simp [dYes]
    exact h2
  · rw [List.filter_eq_self.mpr fun _ _ => rfl]
    exact hend
theorem okO_allB {α : Type} {xs : List α} {p : α → Bool} {μ : Mem} {Pw : W → Mem → Prop} : OkO (opAll [.d (.list (xs.map fun x => PyData.bool (p x)))] μ) Pw = Pw (.d (.bool (xs.all p))) μ := by
  have e : boolsD (xs.map fun x => PyData.bool (p x)) = some (xs.map p) := by
    rw [← boolsD_map, List.map_map]; rfl
  rw [okO_all e, List.all_map]
  rfl
structure CmpS (xs : List PyData) : Prop where
  cmp : ∀ x ∈ xs, ∀ y ∈ xs, cmpOk x y = true
  shp : ∀ x ∈ xs, SeqAt.shaped x = true
  len : xs.length ≤ sizeLine
def wordP : PyData → Bool
  | .tuple [w, _] => word w
  | _ => false
def worded : PyData → Bool
  | .tuple xs => xs.all wordP && adj (xs.map fstD)
  | _ => false
end Mok09

set_option autoImplicit false
namespace Mok09
open PySem PySem.Spec PyProof.Rows L2
open PySem.W (dataLt)
def isW (n : Int) : PyData → Bool
  | .int i => decide (0 ≤ i) && decide (i < n)
  | _ => false
def pairW (n : Int) : PyData → Bool
  | .tuple [x, y] => isW n x && isW n y
  | _ => false
def stepsB (n : Int) : PyData → Bool
  | .tuple xs => !xs.isEmpty && (xs.all (pairW n) && adj xs)
  | _ => false
def placesB (n : Int) : PyData → Bool
  | .tuple xs => !xs.isEmpty && (xs.all (isW n) && adj xs)
  | _ => false
def sndD : PyData → PyData
  | .tuple [_, y] => y
  | _ => .none
def itemsD : PyData → List PyData
  | .tuple xs => xs
  | _ => []
def webB : PyData → Bool
  | .tuple [.int n, s, l] => decide (1 ≤ n) && (worded s && worded l) && ((itemsD s).all (fun p => stepsB n (sndD p)) && (itemsD l).all (fun p => placesB n (sndD p)))
  | _ => false
end Mok09

set_option autoImplicit false
namespace Mok09
open PySem PySem.Spec PyProof.Rows L2
open PySem.W (dataLt)
def ltS (a b : Str) : Prop := dataLt (.str a) (.str b) = true
def ltP (p q : Nat × Nat) : Prop := p.1 < q.1 ∨ p.1 = q.1 ∧ p.2 < q.2
structure Web.gd (w : Web) : Prop where
  n1 : 1 ≤ w.n
  st : ∀ p ∈ w.st, word (.str p.1) = true ∧ p.2 ≠ [] ∧ (∀ q ∈ p.2, q.1 < w.n ∧ q.2 < w.n) ∧ p.2.Pairwise ltP
  stn : (w.st.map (·.1)).Pairwise ltS
  le : ∀ p ∈ w.le, word (.str p.1) = true ∧ p.2 ≠ [] ∧ (∀ q ∈ p.2, q < w.n) ∧ p.2.Pairwise (· < ·)
  len : (w.le.map (·.1)).Pairwise ltS
theorem ltS_nodup {l : List Str} (h : l.Pairwise ltS) : l.Nodup := h.imp fun {a b} e q => by
  subst q
  unfold ltS at e
  rw [PySem.W.dataLt_self] at e
  cases e
theorem Web.gd.ok {w : Web} (h : w.gd) (hn : w.n ≤ 1000) : w.ok := ⟨hn, fun p hp => (h.st p hp).2.2.1, fun p hp => (h.le p hp).2.2.1⟩
theorem Web.gd.nm {w : Web} (h : w.gd) : w.nm := ⟨ltS_nodup h.stn, ltS_nodup h.len⟩
end Mok09

set_option autoImplicit false
namespace Mok09
open PySem PySem.Spec PyProof.Rows L2
open PySem.W (dataLt)
theorem ltN_len {l : List Nat} {N : Nat} (h : l.Pairwise (· < ·)) (k : ∀ x ∈ l, x < N) : l.length ≤ N := by
  have nd : l.Nodup := h.imp fun e q => by omega
  have := sub_len (m := List.range N) nd fun x hx => List.mem_range.mpr (k x hx)
  simpa using this
theorem ltP_len {l : List (Nat × Nat)} {N : Nat} (h : l.Pairwise ltP) (k : ∀ q ∈ l, q.1 < N ∧ q.2 < N) : l.length ≤ N * N := by
  have h2 : (l.map fun q => q.1 * N + q.2).Pairwise (· < ·) := by
    rw [List.pairwise_map]
    refine h.imp_of_mem fun {a b} ha hb e => ?_
    have ka := k a ha
    have kb := k b hb
    rcases e with e | ⟨e, e'⟩
    · have := Nat.mul_le_mul_right N (show a.1 + 1 ≤ b.1 by omega)
      rw [Nat.add_mul] at this
      omega
    · rw [e]; omega
  have := ltN_len (N := N * N) h2 fun x hx => by
    obtain ⟨q, hq, rfl⟩ := List.mem_map.mp hx
    have kq := k q hq
    have := Nat.mul_le_mul_right N (show q.1 + 1 ≤ N by omega)
    rw [Nat.add_mul] at this
    omega
  simpa using this
theorem Web.gd.sm {w : Web} (h : w.gd) (hn : w.n ≤ 30) (hs : w.st.length ≤ 20) (hl : w.le.length ≤ 20) : w.sm where
  st := by omega
  stp := fun p hp => by
    have := ltP_len (h.st p hp).2.2.2 (h.st p hp).2.2.1
    have h2 : w.n * w.n ≤ 30 * 30 := Nat.mul_le_mul hn hn
    omega
  le := by omega
  lep := fun p hp => by
    have := ltN_len (h.le p hp).2.2.2 (h.le p hp).2.2.1
    omega
end Mok09

set_option autoImplicit false
namespace Mok09
open PySem PySem.Spec PyProof.Rows L2
mutual
/-- how deep its data at most -/
def Sg.dp : Sg → Nat
  | .lt _ => 1
  | .no s => s.dp + 1
  | .many _ l => Sg.dps l + 2
  | .so a b => max a.dp b.dp + 1
  | .tl a b => max a.dp b.dp + 1
  | .mod _ _ s => s.dp + 1
def Sg.dps : List Sg → Nat
  | [] => 0
  | s :: r => max s.dp (Sg.dps r)
end
mutual
/-- how much deeper when said behind a telling -/
def Sg.pb : Sg → Nat
  | .lt _ => 1
  | .no s => s.pb + 1
  | .many w l => Sg.pbs l + (if w = true then 1 else 0)
  | .so a b => max a.pb b.pb
  | .tl a b => max a.pb b.pb + 1
  | .mod w _ s => s.pb + (if w = true then 3 else 1)
def Sg.pbs : List Sg → Nat
  | [] => 0
  | s :: r => max s.pb (Sg.pbs r)
end
section
variable (t : Sg)
mutual
theorem beh_dp : ∀ s : Sg, s.pl → (beh t s).pb ≤ s.pb + t.pb ∧ (beh t s).dp ≤ s.dp + s.pb + t.dp
  | .lt _, _ => by simp only [beh, Sg.pb, Sg.dp]; omega
  | .no s, h => by have := beh_dp s h; simp only [beh, Sg.pb, Sg.dp]; omega
  | .many w l, h => by have := beh_dps l h; cases w <;> simp only [beh, Sg.pb, Sg.dp, if_true, Bool.false_eq_true, if_false] <;> omega
  | .so a b, h => by have := beh_dp a h.1; have := beh_dp b h.2; simp only [beh, Sg.pb, Sg.dp]; omega
  | .tl a b, h => h.elim
  | .mod w x s, h => by have := beh_dp s h; cases w <;> simp only [beh, Sg.pb, Sg.pbs, Sg.dp, Sg.dps, if_true, Bool.false_eq_true, if_false] <;> omega
theorem beh_dps : ∀ l : List Sg, Sg.pls l → Sg.pbs (behs t l) ≤ Sg.pbs l + t.pb ∧ Sg.dps (behs t l) ≤ Sg.dps l + Sg.pbs l + t.dp
  | [], _ => by simp [behs, Sg.pbs, Sg.dps]
  | s :: r, h => by have := beh_dp s h.1; have := beh_dps r h.2; simp only [behs, Sg.pbs, Sg.dps]; omega
end
end
/-- 3 n n + n + 2 -/
def qd (n : Nat) : Nat := 3 * (n * n) + n + 2
theorem qd_mono {a b : Nat} (h : a ≤ b) : qd a ≤ qd b := by
  have := Nat.mul_le_mul h h
  unfold qd; omega
theorem qd_one (n : Nat) : qd n + 4 ≤ qd (n + 1) := by
  unfold qd
  simp only [Nat.add_mul, Nat.mul_add]
  omega
mutual
theorem tout_dp : ∀ s : Sg, s.sok → (tout s).pb ≤ 3 * s.int + 1 ∧ 2 * (tout s).dp ≤ qd s.int
  | .lt _, _ => by simp [tout, Sg.dp, Sg.int, Sg.pb, qd]
  | .no s, h => by have a := tout_dp s h; have b := qd_one s.int; simp only [tout, Sg.dp, Sg.int, Sg.pb]; omega
  | .many w l, h => by
    have a := tout_dps l h.1
    have b := qd_one (Sg.ints l)
    cases w <;> simp only [tout, Sg.dp, Sg.int, Sg.pb, if_true, Bool.false_eq_true, if_false] <;> omega
  | .so a b, h => by
    have x := tout_dp a h.1
    have y := tout_dp b h.2
    have e1 := qd_mono (show a.int ≤ a.int + b.int by omega)
    have e2 := qd_mono (show b.int ≤ a.int + b.int by omega)
    have e3 := qd_one (a.int + b.int)
    simp only [tout, Sg.dp, Sg.int, Sg.pb]
    omega
  | .tl a b, h => by
    have x := tout_dp a h.1
    have y := tout_dp b h.2
    have z := beh_dp (tout a) (tout b) (tout_sok b h.2).2
    have e : qd a.int + qd b.int + 2 * (3 * b.int + 1) ≤ qd (a.int + b.int + 1) := by
      generalize a.int = i
      generalize b.int = j
      unfold qd
      simp only [Nat.add_mul, Nat.mul_add]
      omega
    simp only [tout, Sg.int]
    omega
  | .mod w x s, h => by
    have a := tout_dp s h.2
    have b := qd_one s.int
    cases w <;> simp only [tout, Sg.dp, Sg.int, Sg.pb, if_true, Bool.false_eq_true, if_false] <;> omega
theorem tout_dps : ∀ l : List Sg, Sg.soks l → Sg.pbs (touts l) ≤ 3 * Sg.ints l + 1 ∧ 2 * Sg.dps (touts l) ≤ qd (Sg.ints l)
  | [], _ => by simp [touts, Sg.dps, Sg.ints, Sg.pbs]
  | s :: r, h => by
    have x := tout_dp s h.1
    have y := tout_dps r h.2
    have e1 := qd_mono (show s.int ≤ s.int + Sg.ints r by omega)
    have e2 := qd_mono (show Sg.ints r ≤ s.int + Sg.ints r by omega)
    simp only [touts, Sg.dps, Sg.ints, Sg.pbs]
    omega
end
mutual
/-- how many parts with just one within -/
def Sg.un : Sg → Nat
  | .lt _ => 0
  | .no s => s.un + 1
  | .many _ l => Sg.uns l + (if l.length = 1 then 1 else 0)
  | .so a b => a.un + b.un
  | .tl a b => a.un + b.un
  | .mod _ _ s => s.un + 1
def Sg.uns : List Sg → Nat
  | [] => 0
  | s :: r => s.un + Sg.uns r
end
end Mok09

set_option autoImplicit false
namespace Mok09
open PySem PySem.Spec PyProof.Rows L2
/-! ### how many parts, told out, of sayings with at most three parts that are no letters -/
section
variable (t : Sg)
mutual
theorem beh_A : ∀ s : Sg, s.pl → (beh t s).A ≤ s.A * (t.A + 1)
  | .lt _, _ => by simp only [beh, Sg.A, Nat.one_mul]; omega
  | .no s, h => by have := beh_A s h; simp only [beh, Sg.A, Nat.add_mul, Nat.one_mul]; omega
  | .many w l, h => by have := beh_As l h; cases w <;> simp only [beh, Sg.A, if_true, Bool.false_eq_true, if_false, Nat.add_mul, Nat.one_mul, Nat.zero_mul] <;> omega
  | .so a b, h => by have := beh_A a h.1; have := beh_A b h.2; simp only [beh, Sg.A, Nat.add_mul]; omega
  | .tl a b, h => h.elim
  | .mod w x s, h => by have := beh_A s h; cases w <;> simp only [beh, Sg.A, Sg.As, if_true, Bool.false_eq_true, if_false, Nat.add_mul, Nat.one_mul] <;> omega
theorem beh_As : ∀ l : List Sg, Sg.pls l → Sg.As (behs t l) ≤ Sg.As l * (t.A + 1)
  | [], _ => by simp [behs, Sg.As]
  | s :: r, h => by have := beh_A s h.1; have := beh_As r h.2; simp only [behs, Sg.As, Nat.add_mul]; omega
end
end
def qT : Nat → Nat
  | 0 => 1
  | 1 => 4
  | 2 => 16
  | _ => 40
def aT : Nat → Nat
  | 0 => 1
  | 1 => 4
  | 2 => 8
  | _ => 20
theorem tab_sub {i j : Nat} (h : i + j ≤ 2) : qT i + qT j ≤ qT (i + j) + 1 ∧ aT i + aT j ≤ aT (i + j) + 1 := by
  have : (i = 0 ∧ j = 0) ∨ (i = 0 ∧ j = 1) ∨ (i = 0 ∧ j = 2) ∨ (i = 1 ∧ j = 0) ∨ (i = 1 ∧ j = 1) ∨ (i = 2 ∧ j = 0) := by omega
  rcases this with ⟨rfl, rfl⟩ | ⟨rfl, rfl⟩ | ⟨rfl, rfl⟩ | ⟨rfl, rfl⟩ | ⟨rfl, rfl⟩ | ⟨rfl, rfl⟩ <;> decide
theorem tab_one {i : Nat} (h : i ≤ 2) : qT i + 3 ≤ qT (i + 1) ∧ aT i + 3 ≤ aT (i + 1) := by
  have : i = 0 ∨ i = 1 ∨ i = 2 := by omega
  rcases this with rfl | rfl | rfl <;> decide
theorem tab_two {i j : Nat} (h : i + j ≤ 2) : qT i + qT j + 1 ≤ qT (i + j + 1) ∧ aT i + aT j ≤ aT (i + j + 1) ∧ qT j + aT j * (qT i + 2) ≤ qT (i + j + 1) ∧ aT j * (aT i + 1) ≤ aT (i + j + 1) := by
  have : (i = 0 ∧ j = 0) ∨ (i = 0 ∧ j = 1) ∨ (i = 0 ∧ j = 2) ∨ (i = 1 ∧ j = 0) ∨ (i = 1 ∧ j = 1) ∨ (i = 2 ∧ j = 0) := by omega
  rcases this with ⟨rfl, rfl⟩ | ⟨rfl, rfl⟩ | ⟨rfl, rfl⟩ | ⟨rfl, rfl⟩ | ⟨rfl, rfl⟩ | ⟨rfl, rfl⟩ <;> decide
mutual
theorem tout_T {t : Bool} : ∀ s : Sg, s.ok t → s.int ≤ 3 → (tout s).q ≤ qT s.int ∧ (tout s).A ≤ aT s.int
  | .lt _, _, _ => by simp [tout, Sg.q, Sg.A, Sg.int, qT, aT]
  | .no s, h, i => by
    simp only [Sg.int] at i
    have a := tout_T s h (by omega)
    have b := tab_one (i := s.int) (by omega)
    simp only [tout, Sg.q, Sg.A, Sg.int]; omega
  | .many w l, h, i => by
    simp only [Sg.int] at i
    have a := tout_Ts l h.1 (by omega)
    have b := tab_one (i := Sg.ints l) (by omega)
    have c := h.2
    simp only [tout, Sg.q, Sg.A, Sg.int]
    split <;> omega
  | .so a b, h, i => by
    simp only [Sg.int] at i
    have x := tout_T a h.1 (by omega)
    have y := tout_T b h.2 (by omega)
    have z := tab_two (i := a.int) (j := b.int) (by omega)
    simp only [tout, Sg.q, Sg.A, Sg.int]; omega
  | .tl a b, h, i => by
    simp only [Sg.int] at i
    have x := tout_T a h.2.1 (by omega)
    have y := tout_T b h.2.2 (by omega)
    have z := tab_two (i := a.int) (j := b.int) (by omega)
    have p := (tout_sok b h.2.2.sok).2
    have b1 := beh_q (tout a) (tout b) p
    have b2 := beh_A (tout a) (tout b) p
    have c1 : (tout b).A * ((tout a).q + 2) ≤ aT b.int * (qT a.int + 2) := Nat.mul_le_mul y.2 (by omega)
    have c2 : (tout b).A * ((tout a).A + 1) ≤ aT b.int * (aT a.int + 1) := Nat.mul_le_mul y.2 (by omega)
    simp only [tout, Sg.int]; omega
  | .mod w x s, h, i => by
    simp only [Sg.int] at i
    have a := tout_T s h.2 (by omega)
    have b := tab_one (i := s.int) (by omega)
    simp only [tout, Sg.q, Sg.A, Sg.int]
    split <;> omega
theorem tout_Ts {t : Bool} : ∀ l : List Sg, Sg.oks t l → Sg.ints l ≤ 2 → Sg.qs (touts l) + 1 ≤ qT (Sg.ints l) + l.length ∧ Sg.As (touts l) + 1 ≤ aT (Sg.ints l) + l.length
  | [], _, _ => by simp [touts, Sg.qs, Sg.As, Sg.ints, qT, aT]
  | s :: r, h, i => by
    simp only [Sg.ints] at i
    have x := tout_T s h.1 (by omega)
    have y := tout_Ts r h.2 (by omega)
    have z := tab_sub (i := s.int) (j := Sg.ints r) (by omega)
    simp only [touts, Sg.qs, Sg.As, Sg.ints, List.length_cons]; omega
end
end Mok09

set_option autoImplicit false
namespace Mok09
open PySem PySem.Spec PyProof.Rows L2
/-- a saying that the law draws -/
structure Dr (s : Sg) : Prop where
  ok : s.ok true
  int : s.int ≤ 3
theorem Dr.sok {s : Sg} (h : Dr s) : s.sok := h.ok.sok
theorem T3 {n : Nat} (h : n ≤ 3) : qT n ≤ 40 ∧ aT n ≤ 20 := by
  have : n = 0 ∨ n = 1 ∨ n = 2 ∨ n = 3 := by omega
  rcases this with rfl | rfl | rfl | rfl <;> decide
theorem Dr.q {s : Sg} (h : Dr s) : (tout s).q ≤ 40 ∧ (tout s).A ≤ 20 := by
  have a := tout_T s h.ok h.int
  have b := T3 h.int
  omega
theorem Dr.dp {s : Sg} (h : Dr s) : (tout s).dp ≤ 16 ∧ (tout s).pb ≤ 10 := by
  have a := tout_dp s h.sok
  have b := qd_mono h.int
  have : qd 3 = 32 := by decide
  have := h.int
  omega
/-- each telling in it is read -/
def Rd (s : Sg) : Prop := ∀ a b, Sg.tl a b ∈ allP s → (tout b).ht < 40
theorem Rd.inn {s x : Sg} (h : Rd s) (hx : x ∈ s.inn) : Rd x := fun a b hab => h a b (by
  rw [allP_inn]
  exact List.mem_cons_of_mem _ (mem_allPs.mpr ⟨x, hx, hab⟩))
end Mok09

set_option autoImplicit false
namespace Mok09
open PySem PySem.Spec PyProof.Rows L2
theorem Mf.pos {K : Int} {μ : Mem} (h : Mf K μ) : 0 < μ.length := by
  obtain ⟨xs, h, _⟩ := h
  exact (List.getElem?_eq_some_iff.mp h).1
theorem Mf.take {K : Int} {μ : Mem} (h : Mf K μ) {n : Nat} (hn : 0 < n) : Mf K (μ.take n) := by
  obtain ⟨xs, h, h2⟩ := h
  exact ⟨xs, by rw [List.getElem?_take_of_lt hn]; exact h, h2⟩
theorem Beh.take {μ μ' : Mem} (h : Beh μ μ') : Beh μ (μ'.take μ.length) := fun j o h1 h2 => by
  rw [List.getElem?_take_of_lt (List.getElem?_eq_some_iff.mp h2).1]
  exact h j o h1 h2
def LdrI (m : Nat) (f : Nat → PyData) (K : Int) (μ : Mem) (done acc : List PyData) (μ' : Mem) : Prop := ∃ ps : List Nat, acc = ps.map f ∧ ps.Pairwise (· < ·) ∧ (∀ p ∈ ps, p < done.length) ∧ ps.length ≤ done.length ∧ Mf (K + done.length) μ' ∧ Beh μ μ'
theorem shp_list {xs : List PyData} {D : Nat} (hD : D ≤ 59) (h : ∀ x ∈ xs, x.canLay0 = true ∧ x.depth ≤ D) : SeqAt.shaped (.list xs) = true := by
  obtain ⟨h1, h2⟩ := depth_all h
  exact shaped60 ⟨by simpa using h1, by simp only [PyData.depth]; omega⟩
theorem shp_tup {xs : List PyData} {D : Nat} (hD : D ≤ 59) (h : ∀ x ∈ xs, x.canLay0 = true ∧ x.depth ≤ D) : SeqAt.shaped (.tuple xs) = true := by
  obtain ⟨h1, h2⟩ := depth_all h
  exact shaped60 ⟨by simpa using h1, by simp only [PyData.depth]; omega⟩
theorem pair_lay (p : Nat × Nat) : (pairD p).canLay0 = true ∧ (pairD p).depth ≤ 1 := by simp [pairD, PyData.depth, PyData.depthAll]
@[simp] theorem shp_nats {l : List Nat} : SeqAt.shaped (.list (natsD l)) = true := shp_list (D := 0) (by decide) fun x hx => by
  obtain ⟨p, _, rfl⟩ := List.mem_map.mp hx
  simp [PyData.depth]
@[simp] theorem shp_natst {l : List Nat} : SeqAt.shaped (.tuple (natsD l)) = true := shp_tup (D := 0) (by decide) fun x hx => by
  obtain ⟨p, _, rfl⟩ := List.mem_map.mp hx
  simp [PyData.depth]
@[simp] theorem shp_pairs {l : List (Nat × Nat)} : SeqAt.shaped (.list (l.map pairD)) = true := shp_list (D := 1) (by decide) fun x hx => by
  obtain ⟨p, _, rfl⟩ := List.mem_map.mp hx
  exact pair_lay p
@[simp] theorem shp_pairst {l : List (Nat × Nat)} : SeqAt.shaped (.tuple (l.map pairD)) = true := shp_tup (D := 1) (by decide) fun x hx => by
  obtain ⟨p, _, rfl⟩ := List.mem_map.mp hx
  exact pair_lay p
end Mok09

set_option autoImplicit false
namespace Mok09
open PySem PySem.Spec PyProof.Rows L2
noncomputable def B_law_web : DS := (sSeq (sAsg (gT 3 (gCons' (gN 1) (gCons' (gN 2) (gCons' (gN 3) gNil')))) (dPn opTup (dCons (dP2 (opAdd false) (dC (.int 1)) (dCall drawF [] (dCons (dV 0) (dCons (dC (.int 4)) dNil)))) (dCons (dPn (opLst false) dNil) (dCons (dPn (opLst false) dNil) dNil)))))
  (sSeq (sFor (dI iV (dPn opTup (dCons (dC (.str "h")) (dCons (dC (.str "k")) dNil)))) (gN 4)
  (sSeq (sSet 5 (dLc false (dIs iR1 (dCons (dP2 (opMul false) (dV 1) (dV 1)) dNil)) (gN 8) (dTb (dP2 (opEq false) (dCall drawF [] (dCons (dV 0) (dCons (dC (.int 3)) dNil))) (dC (.int 0)))) (dPn opTup (dCons (dP2 opDiv (dV 8) (dV 1)) (dCons (dP2 opMod (dV 8) (dV 1)) dNil))) [8]))
  (sSet 2 (dP2 (opAdd false) (dV 2) (dP2 (opMul false) (dPn (opLst false) (dCons (dPn opTup (dCons (dV 4) (dCons (dPn opTu (dCons (dV 5) dNil)) dNil))) dNil)) (dPn opInt (dCons (dP2 (opEq true) (dV 5) (dPn (opLst false) dNil)) dNil)))))))
  (sSeq (sFor (dI iV (dPn opTup (dCons (dC (.str "a")) (dCons (dC (.str "b")) (dCons (dC (.str "p")) dNil))))) (gN 6)
  (sSeq (sSet 7 (dLc false (dIs iR1 (dCons (dV 1) dNil)) (gN 8) (dTb (dP2 (opEq false) (dCall drawF [] (dCons (dV 0) (dCons (dC (.int 2)) dNil))) (dC (.int 0)))) (dV 8) [8]))
  (sSet 3 (dP2 (opAdd false) (dV 3) (dP2 (opMul false) (dPn (opLst false) (dCons (dPn opTup (dCons (dV 6) (dCons (dPn opTu (dCons (dV 7) dNil)) dNil))) dNil)) (dPn opInt (dCons (dP2 (opEq true) (dV 7) (dPn (opLst false) dNil)) dNil)))))))
  (sRet (dPn opTup (dCons (dV 1) (dCons (dPn opTu (dCons (dV 2) dNil)) (dCons (dPn opTu (dCons (dV 3) dNil)) dNil))))))))
noncomputable def F_law_web : Fn := fnF 1 9 B_law_web
/-- a web as the laws of one to four worlds draw it -/
structure Wd (w : Web) : Prop where
  gd : w.gd
  n : w.n ≤ 4
  st : w.st.length ≤ 2
  le : w.le.length ≤ 3
  hs : ∀ p ∈ w.st, p.1 = "h" ∨ p.1 = "k"
  ls : ∀ p ∈ w.le, p.1 = "a" ∨ p.1 = "b" ∨ p.1 = "p"
def pr (n k : Nat) : Nat × Nat := (k / n, k % n)
noncomputable def webS : DS := (sSeq (sSet 5 (dLc false (dIs iR1 (dCons (dP2 (opMul false) (dV 1) (dV 1)) dNil)) (gN 8) (dTb (dP2 (opEq false) (dCall drawF [] (dCons (dV 0) (dCons (dC (.int 3)) dNil))) (dC (.int 0)))) (dPn opTup (dCons (dP2 opDiv (dV 8) (dV 1)) (dCons (dP2 opMod (dV 8) (dV 1)) dNil))) [8]))
  (sSet 2 (dP2 (opAdd false) (dV 2) (dP2 (opMul false) (dPn (opLst false) (dCons (dPn opTup (dCons (dV 4) (dCons (dPn opTu (dCons (dV 5) dNil)) dNil))) dNil)) (dPn opInt (dCons (dP2 (opEq true) (dV 5) (dPn (opLst false) dNil)) dNil))))))
noncomputable def webL : DS := (sSeq (sSet 7 (dLc false (dIs iR1 (dCons (dV 1) dNil)) (gN 8) (dTb (dP2 (opEq false) (dCall drawF [] (dCons (dV 0) (dCons (dC (.int 2)) dNil))) (dC (.int 0)))) (dV 8) [8]))
  (sSet 3 (dP2 (opAdd false) (dV 3) (dP2 (opMul false) (dPn (opLst false) (dCons (dPn opTup (dCons (dV 6) (dCons (dPn opTu (dCons (dV 7) dNil)) dNil))) dNil)) (dPn opInt (dCons (dP2 (opEq true) (dV 7) (dPn (opLst false) dNil)) dNil))))))
def oneR {α : Type} (x : Str) (l : List α) : List (Str × List α) := if l.isEmpty = true then [] else [(x, l)]
section
variable {n : Nat} {x : Str} {K : Int} {μ : Mem} {N B C : Env → Mem → Prop} {R : W → Mem → Prop} {a5 a6 a7 : Option W}
end
end Mok09

set_option autoImplicit false
namespace Mok09
open PySem PySem.Spec PyProof.Rows L2
theorem Wd.ok {w : Web} (h : Wd w) : w.ok := h.gd.ok (by have := h.n; omega)
theorem Wd.nm {w : Web} (h : Wd w) : w.nm := h.gd.nm
theorem Wd.sm {w : Web} (h : Wd w) : w.sm := h.gd.sm (by have := h.n; omega) (by have := h.st; omega) (by have := h.le; omega)
end Mok09

set_option autoImplicit false
namespace Mok09
open PySem PySem.Spec PyProof.Rows L2
/-! ### the part of the places -/
def nthN (l : List Nat) (k : Nat) : Nat := l[k]?.getD 0
def overN (p : Nat → Bool) : PyData → Bool
  | .int k => p k.toNat
  | _ => false
@[simp] theorem isNone_web {w : Web} {μ : Mem} {Pw : W → Mem → Prop} : OkO (opIs false [.d w.d, .d .none] μ) Pw = Pw (.d (.bool false)) μ := okO_isNone
@[simp] theorem isNone_n {μ : Mem} {Pw : W → Mem → Prop} : OkO (opIs false [.d .none, .d .none] μ) Pw = Pw (.d (.bool true)) μ := okO_isNone
@[simp] theorem isNone_t {xs : List PyData} {μ : Mem} {Pw : W → Mem → Prop} : OkO (opIs false [.d (.tuple xs), .d .none] μ) Pw = Pw (.d (.bool false)) μ := okO_isNone
@[simp] theorem ix0_web {w : Web} {μ : Mem} {Pw : W → Mem → Prop} : OkO (opIxA [.d w.d, .d (.int 0)] μ) Pw = Pw (.d (.int (w.n : Nat))) μ := by
  unfold Web.d
  simp
end Mok09

set_option autoImplicit false
namespace Mok09
open PySem PySem.Spec PyProof.Rows L2
mutual
theorem ok_ne {t : Bool} : ∀ {s : Sg}, s.ok t → ne s
  | .lt x, h => by rcases h with rfl | rfl | rfl <;> (show 1 ≤ _; decide)
  | .no s, h => ok_ne (s := s) h
  | .many _ l, h => oks_nes h.1
  | .so a b, h => ⟨ok_ne h.1, ok_ne h.2⟩
  | .tl a b, h => ⟨ok_ne h.2.1, ok_ne h.2.2⟩
  | .mod _ x s, h => ⟨by rcases h.1 with rfl | rfl <;> decide, ok_ne h.2⟩
theorem oks_nes {t : Bool} : ∀ {l : List Sg}, Sg.oks t l → nes l
  | [], _ => trivial
  | s :: r, h => ⟨ok_ne h.1, oks_nes h.2⟩
end
end Mok09

set_option autoImplicit false
namespace Mok09
open PySem PySem.Spec PyProof.Rows L2
/-! ### sayings without hands: what holds stays in a cut -/
mutual
def fl : Sg → Prop
  | .lt _ => True
  | .no s => fl s
  | .many _ l => fls l
  | .so a b => fl a ∧ fl b
  | .tl _ _ => False
  | .mod _ _ _ => False
def fls : List Sg → Prop
  | [] => True
  | s :: r => fl s ∧ fls r
end
end Mok09

set_option autoImplicit false
namespace Mok09
open PySem PySem.Spec PyProof.Rows L2
/-- a step that is never taken (a raise that isn't reached): nothing is promised -/
def sBad : DS := fun _ _ => .bad
@[simp] theorem oks_sBad {ρ : Env} {μ : Mem} {N B C : Env → Mem → Prop} {R : W → Mem → Prop} : Oks (sBad ρ μ) N R B C = False := rfl
/-! ### a table of rows that are lists -/
def rowLd (r : List Bool) : PyData := .list (r.map .bool)
def sndTrueL (k : Nat) : PyData → Bool
  | .tuple [_, .list xs] => (match xs[k]? with
    | some (.bool b) => b
    | _ => false)
  | _ => false
def TorIL (A : List Sg) (rows : List (List Bool)) (vs : Nat → Sg → Bool) (done : List PyData) (ρ : Env) (μ : Mem) : Prop := ∃ e3 e4 e5, ρ = [some (.d (.tuple (Sg.ds A))), some (.d (.list (rows.map rowLd))), some (.r 0), e3, e4, e5] ∧ μ = [.l ((colsD rows.length A vs).take done.length)]
theorem tor_okL {A : List Sg} {rows : List (List Bool)} {vs : Nat → Sg → Bool} (h : RowsOk A rows vs) (hA : A.length ≤ 100000) : Ok (torF [.d (.tuple (Sg.ds A)), .d (.list (rows.map rowLd))] []) fun w μ => ∃ n, w = .r n ∧ μ[n]? = some (TabO rows.length A vs) := by
  have hf := h.few
  simp [torF, torB, ds_len]
  refine ⟨inR_nat (by omega), ?_⟩
  refine for_inv (xs := intsOf 0 A.length) (s := (intsOf 0 A.length, none)) (TorIL A rows vs) rfl (fun _ _ _ _ _ => trivial) ⟨none, none, none, rfl, by simp⟩ ?_ ?_
  · rintro done x r ρ μ e ⟨e3, e4, e5, rfl, rfl⟩
    obtain ⟨hd, rfl⟩ := done_at e
    obtain ⟨a, ha⟩ : ∃ a, A[done.length]? = some a := ⟨_, List.getElem?_eq_getElem hd⟩
    simp [tyW, ok_dLc]
    refine lc_pure (s := (numb 0 (rows.map rowLd), none)) (xs := numb 0 (rows.map rowLd)) (sndTrueL done.length) fstD rfl trivial (by rw [numb_len, List.length_map]; exact le_million (by omega)) (fun x hx => ?_) ?_
    · obtain ⟨i, y, h1, rfl⟩ := numb_mem.mp hx
      rw [List.getElem?_map] at h1
      obtain ⟨row, hr, rfl⟩ := Option.map_eq_some_iff.mp h1
      have hv := h.val i done.length row a hr ha
      refine ⟨_, gT2, ?_⟩
      have : atI (row.map PyData.bool) (done.length : Int) = some (.bool (vs i a)) := atI_nat (by rw [List.getElem?_map, hv]; rfl)
      simp [wipeE, rowLd, this]
      refine ⟨?_, fun _ => rfl⟩
      simp [sndTrueL, hv]
    · have hL : NatsL rows.length (((numb 0 (rows.map rowLd)).filter (sndTrueL done.length)).map fstD) := by
        intro x hx
        obtain ⟨y, hy, rfl⟩ := List.mem_map.mp hx
        obtain ⟨i, z, h1, rfl⟩ := numb_mem.mp (List.mem_filter.mp hy).1
        have := (List.getElem?_eq_some_iff.mp h1).1
        rw [List.length_map] at this
        exact ⟨i, this, by simp [fstD]⟩
      rw [mask_eq (.inl rfl) hL (by omega)]
      simp only [ok_ok]
      have e6 : mk rows.length (inB (((numb 0 (rows.map rowLd)).filter (sndTrueL done.length)).map fstD)) = mk rows.length fun i => vs i a := mk_congr fun i hi => by
        rw [Bool.eq_iff_iff, inB_iff, List.mem_map]
        obtain ⟨row, hr⟩ : ∃ row, rows[i]? = some row := ⟨_, List.getElem?_eq_getElem hi⟩
        have hv := h.val i done.length row a hr ha
        constructor
        · rintro ⟨y, hy, hi⟩
          obtain ⟨h1, h2⟩ := List.mem_filter.mp hy
          obtain ⟨j, z, h3, rfl⟩ := numb_mem.mp h1
          simp only [fstD, PyData.int.injEq] at hi
          have : i = j := by omega
          subst this
          rw [List.getElem?_map, hr] at h3
          simp only [Option.map_some, Option.some.injEq] at h3
          subst h3
          simpa [sndTrueL, rowLd, hv] using h2
        · intro hb
          refine ⟨.tuple [.int (i : Int), rowLd row], List.mem_filter.mpr ⟨numb_mem.mpr ⟨i, rowLd row, by rw [List.getElem?_map, hr]; rfl, by simp⟩, ?_⟩, rfl⟩
          simp [sndTrueL, rowLd, hv, hb]
      rw [e6]
      rw [okO_app (xs := (colsD rows.length A vs).take done.length) (by rfl) (le_million (by rw [List.length_take]; omega))]
      refine ⟨_, _, _, rfl, ?_⟩
      simp only [List.set_cons_zero, List.length_append, List.length_singleton]
      rw [List.take_add_one]
      simp [colsD, ha]
  · rintro ρ μ ⟨e3, e4, e5, rfl, rfl⟩
    have e1 : (colsD rows.length A vs).take (intsOf 0 A.length).length = colsD rows.length A vs := List.take_of_length_le (by rw [intsOf_len]; simp [colsD])
    rw [e1]
    simp [frzW]
    refine make_tab (n := rows.length) (A := A) (vs := vs) (μ := [MO.dead]) ?_ ?_
    · omega
    · exact ⟨1, rfl, rfl⟩
theorem tor_eqL {A : List Sg} {rows : List (List Bool)} {vs : Nat → Sg → Bool} (h : RowsOk A rows vs) (hA : A.length ≤ 100000) (μ : Mem) : callF torF [.d (.tuple (Sg.ds A)), .d (.list (rows.map rowLd))] μ = .ok (.r μ.length) (μ ++ [TabO rows.length A vs]) :=
  call_new rfl ⟨fun z => (by cases z), fun _ _ z => (by cases z)⟩ (tor_okL h hA)
theorem told_okL {A : List Sg} {ts : List Bool} {c : Sg} (hA : AtA A) (hl : ts.length = A.length) (h1 : c.ht < 40) (h2 : c.sok) (h3 : c.d.depth ≤ 64) (h4 : Co A c) (μ : Mem) : callF toldByF [.d (.tuple (Sg.ds A)), .d (rowLd ts), .d c.d] μ = .ok (.d (.bool (ev (vOf A ts) c))) μ := by
  refine call_pure rfl ?_
  have hr : RowsOk A [ts] (fun _ => vOf A ts) := ⟨by simp, fun r hr => by rw [List.mem_singleton.mp hr]; exact hl, fun i k r a h5 h6 => by
    have hi : i = 0 := by
      have := (List.getElem?_eq_some_iff.mp h5).1
      simp at this
      exact this
    subst hi
    simp at h5
    subst h5
    have hk := (List.getElem?_eq_some_iff.mp h6).1
    have e : ts[k]? = some (ts[k]'(by omega)) := List.getElem?_eq_getElem _
    rw [e, vOf_at hA.nodup h6 e]⟩
  have e1 : ∀ μ, callF torF [.d (.tuple (Sg.ds A)), .d (.list [rowLd ts])] μ = .ok (.r μ.length) (μ ++ [TabO 1 A fun _ => vOf A ts]) := fun μ => tor_eqL hr hA.few μ
  have e2 : callF (whereF 40) [.r 0, .d c.d] [TabO 1 A fun _ => vOf A ts] = _ := where_eq hA.nodup hA.sok h1 h2 h3 h4 (k := 0) (n := 1) (vs := fun _ => vOf A ts) rfl
  have m : mthW "TruthTable" "where_true" (.r 0) [TabO 1 A fun _ => vOf A ts] = true := by
    simp only [mthW, List.getElem?_cons_zero, TabO, Bool.and_eq_true]
    exact ⟨by decide +kernel, rfl⟩
  simp [toldByF, toldByB, e1, e2, m, mk1]
  cases ev (vOf A ts) c <;> simp
end Mok09

set_option autoImplicit false
namespace Mok09
open PySem PySem.Spec PyProof.Rows L2
noncomputable def B_check_world : DS := (sIf (dOr (dTv (dP1 (opIsi "bool") (dV 1))) (dNot (dTb (dChain opLe opLt (dC (.int 0)) (dV 1) (dP2 opIxA (dV 0) (dC (.int 0)))))))
  sBad sNext)
noncomputable def F_check_world : Fn := fnF 2 2 B_check_world
noncomputable def B_holds_at : DS := (sSeq (sExpr (dCall F_check_world [] (dCons (dV 0) (dCons (dV 1) dNil))))
  (sRet (dCall hasF [] (dCons (dCall (holdF 60) [] (dCons (dV 0) (dCons (dV 2) dNil))) (dCons (dV 1) dNil)))))
noncomputable def F_holds_at : Fn := fnF 3 3 B_holds_at
noncomputable def B_is_saying : DS := (sRet (dCall F_is_built [] (dCons (dV 0) (dCons (dC (.bool true)) dNil))))
noncomputable def F_is_saying : Fn := fnF 1 1 B_is_saying
noncomputable def B_is_row_kind : DS := (sSeq (sIf (dNot (dTv (dP1 (opIsi "tuple") (dV 0))))
  (sRet (dC (.bool false))) sNext)
  (sRet (dPn opAll (dCons (dLc false (dI iV (dV 0)) (gN 1) dYes (dAndV (dCall F_is_pair [] (dCons (dV 1) dNil)) (dAndV (dCall F_is_saying [] (dCons (dP2 opIxA (dV 1) (dC (.int 0))) dNil)) (dP1 (opIsi "bool") (dP2 opIxA (dV 1) (dC (.int 1)))))) [1]) dNil))))
noncomputable def F_is_row_kind : Fn := fnF 1 2 B_is_row_kind
noncomputable def B_row_fault : DS := (sSeq (sIf (dNot (dTv (dCall F_is_row_kind [] (dCons (dV 2) dNil))))
  (sRet (dPn opTup (dCons (dC (.str "shape")) (dCons (dP1 opNeg (dC (.int 1))) dNil)))) sNext)
  (sSeq (sSet 3 (dCall (oatomsF 14) [] (dCons (dPn (opLst false) (dStar (dV 0) (dCons (dV 1) dNil))) dNil)))
  (sSeq (sIf (dTb (dP2 (opEq true) (dPn (orO opLen opLenD) (dCons (dV 2) dNil)) (dPn (orO opLen opLenD) (dCons (dV 3) dNil))))
  (sRet (dPn opTup (dCons (dC (.str "atoms")) (dCons (dP1 opNeg (dC (.int 1))) dNil)))) sNext)
  (sSeq (sFor (dIs iEnA (dCons (dV 3) dNil)) (gT 2 (gCons' (gN 4) (gCons' (gN 5) gNil')))
  (sIf (dTb (dP2 (opEq true) (dP2 opIxA (dP2 opIxA (dV 2) (dV 4)) (dC (.int 0))) (dV 5)))
  (sRet (dPn opTup (dCons (dC (.str "atom")) (dCons (dV 4) dNil)))) sNext))
  (sSeq (sSet 6 (dLc false (dI iV (dV 2)) (gT 2 (gCons' (gN 5) (gCons' (gN 8) gNil'))) dYes (dV 8) [5, 8]))
  (sSeq (sFor (dIs iEnA (dCons (dV 0) dNil)) (gT 2 (gCons' (gN 4) (gCons' (gN 7) gNil')))
  (sIf (dNot (dTv (dCall toldByF [] (dCons (dV 3) (dCons (dV 6) (dCons (dCall (coreF 14) [] (dCons (dV 7) dNil)) dNil))))))
  (sRet (dPn opTup (dCons (dC (.str "false")) (dCons (dV 4) dNil)))) sNext))
  (sSeq (sIf (dTv (dCall toldByF [] (dCons (dV 3) (dCons (dV 6) (dCons (dCall (coreF 14) [] (dCons (dV 1) dNil)) dNil)))))
  (sRet (dPn opTup (dCons (dC (.str "true")) (dCons (dP1 opNeg (dC (.int 1))) dNil)))) sNext)
  (sRet (dC .none)))))))))
noncomputable def F_row_fault : Fn := fnF 3 9 B_row_fault
noncomputable def B_lets_parting_row : DS := (sSeq (sSet 3 (dCall F_row_fault [] (dCons (dV 0) (dCons (dV 1) (dCons (dV 2) dNil)))))
  (sSeq (sIf (dTb (dP2 (opIs true) (dV 3) (dC .none)))
  sBad sNext)
  (sRet (dC (.bool true)))))
noncomputable def F_lets_parting_row : Fn := fnF 3 4 B_lets_parting_row
end Mok09

set_option autoImplicit false
namespace Mok09
open PySem PySem.Spec PyProof.Rows L2
theorem is_saying_eq {d : PyData} (h : Th 64 90000 d) (μ : Mem) : callF F_is_saying [.d d] μ = .ok (.d (.bool (say true d))) μ := call_pure rfl (by simp [F_is_saying, B_is_saying, built_eq h])
/-- a loop that goes on till something is found -/
theorem for_first {ys : List PyData} {g : PyData → Env → Option Env} {b : DS} {ρ : Env} {μ : Mem} {N B C : Env → Mem → Prop} {R : W → Mem → Prop} (I : Env → Prop) (p : Nat → Bool) (h0 : I ρ)
    (step : ∀ k y ρ, ys[k]? = some y → (∀ j, j < k → p j = false) → I ρ → ∃ ρ1, g y ρ = some ρ1 ∧ Oks (b ρ1 μ) (fun ρ2 μ2 => I ρ2 ∧ μ2 = μ ∧ p k = false) R N (fun ρ2 μ2 => I ρ2 ∧ μ2 = μ ∧ p k = false))
    (fin : ∀ ρ, I ρ → (∀ j, j < ys.length → p j = false) → N ρ μ) : Oks (forL (ys, none) g b ys ρ μ) N R B C := by
  refine for_invG (s := (ys, none)) (xs := ys) (fun done ρ μ1 => I ρ ∧ μ1 = μ ∧ ∀ j, j < done.length → p j = false) rfl (fun _ _ _ _ _ => trivial) ⟨h0, rfl, by simp⟩ ?_ ?_
  · rintro done x r ρ μ1 e ⟨h1, rfl, h2⟩
    have hx : ys[done.length]? = some x := by rw [← e]; simp
    obtain ⟨ρ1, h3, h4⟩ := step done.length x ρ hx h2 h1
    refine ⟨ρ1, h3, h4.mono ?_ (fun _ _ h => h) (fun _ _ h => h) ?_⟩ <;>
    · rintro ρ2 μ2 ⟨k1, k2, k3⟩
      refine ⟨k1, k2, fun j hj => ?_⟩
      rw [List.length_append, List.length_singleton] at hj
      by_cases q : j < done.length
      · exact h2 j q
      · have : j = done.length := by omega
        exact this ▸ k3
  · rintro ρ1 μ1 ⟨h1, rfl, h2⟩
    exact fin ρ1 h1 h2
def rowP : PyData → Bool
  | .tuple [a, b] => say true a && isB b
  | _ => false
def rowK : PyData → Bool
  | .tuple xs => xs.all rowP
  | _ => false
theorem rowP_ex {d : PyData} (h : rowP d = true) : ∃ a b, d = .tuple [a, .bool b] ∧ say true a = true := by
  unfold rowP at h
  split at h
  · rename_i a b
    rw [Bool.and_eq_true] at h
    cases b with
    | bool b => exact ⟨a, b, rfl, h.1⟩
    | _ => simp [isB] at h
  · cases h
theorem rowP_no {d : PyData} (h : isP d = false) : rowP d = false := by
  cases d with
  | tuple xs =>
    match xs, h with
    | [], _ => rfl
    | [_], _ => rfl
    | [_, _], h => simp [isP] at h
    | _ :: _ :: _ :: _, _ => rfl
  | _ => rfl
theorem is_row_eq {d : PyData} (h : Th 64 90000 d) (μ : Mem) : callF F_is_row_kind [.d d] μ = .ok (.d (.bool (rowK d))) μ := by
  refine call_pure rfl ?_
  cases d with
  | tuple xs =>
    have hs := h.items.1
    have hz : xs.length ≤ sizeLine := le_million (by have := hs.size; omega)
    simp [F_is_row_kind, B_is_row_kind, isi_tup h.lay, isT]
    rw [ok_dLc]
    simp [wipeE]
    refine lc_each (fun x => .bool (rowP x)) hz (fun x hx => ⟨_, gN_is, ?_⟩) ?_
    · have hx' := ths_mem hs x hx
      simp [is_pair_eq hx'.lay]
      cases hp : isP x with
      | false =>
        simp [rowP_no hp]
      | true =>
        simp
        unfold isP at hp
        split at hp
        · rename_i a b
          have ha : Th 64 90000 a := (ths_mem hx'.items.1 a (by simp)).mono (by omega) (by omega)
          have hb := (ths_mem hx'.items.1 b (by simp)).lay
          simp [is_saying_eq ha, isi_bool hb, rowP]
          cases say true a <;> simp
        · cases hp
    · rw [okO_allB]
      rfl
  | _ => simp [F_is_row_kind, B_is_row_kind, isi_tup h.lay, isT, rowK]
/-- the truths of a row -/
def truD : PyData → Bool
  | .tuple [_, .bool b] => b
  | _ => false
def trus (xs : List PyData) : List Bool := xs.map truD
def atomB (A : List Sg) (xs : List PyData) (k : Nat) : Bool := match xs[k]?, A[k]? with
  | some x, some a => !PyData.eqv (fstD x) a.d
  | _, _ => false
noncomputable def falseB (A l : List Sg) (ts : List Bool) (k : Nat) : Bool := match l[k]? with
  | some x => !ev (vOf A ts) (core x)
  | none => false
def flt (w : Str) (i : Int) : PyData := .tuple [.str w, .int i]
/-- what is wrong with a row -/
structure RowFault (A l : List Sg) (s : Sg) (d r : PyData) : Prop where
  shape : rowK d = false → r = flt "shape" (-1)
  atoms : ∀ xs, d = .tuple xs → rowK d = true → xs.length ≠ A.length → r = flt "atoms" (-1)
  atom : ∀ xs k, d = .tuple xs → rowK d = true → xs.length = A.length → k < A.length → atomB A xs k = true → (∀ j, j < k → atomB A xs j = false) → r = flt "atom" k
  fals : ∀ xs k, d = .tuple xs → rowK d = true → xs.length = A.length → (∀ j, j < A.length → atomB A xs j = false) → k < l.length → falseB A l (trus xs) k = true → (∀ j, j < k → falseB A l (trus xs) j = false) → r = flt "false" k
  tru : ∀ xs, d = .tuple xs → rowK d = true → xs.length = A.length → (∀ j, j < A.length → atomB A xs j = false) → (∀ j, j < l.length → falseB A l (trus xs) j = false) → r = if ev (vOf A (trus xs)) (core s) = true then flt "true" (-1) else .none
end Mok09

set_option autoImplicit false
namespace Mok09
open PySem PySem.Spec PyProof.Rows L2
theorem flt_d (w : Str) (i : Int) : PyData.tuple [.str w, .int i] = flt w i := rfl
theorem tup_ex {d : PyData} (h : rowK d = true) : ∃ xs, d = .tuple xs ∧ ∀ x ∈ xs, rowP x = true := by
  unfold rowK at h
  split at h
  · rename_i xs; exact ⟨xs, rfl, List.all_eq_true.mp h⟩
  · cases h
theorem truD_row {xs : List PyData} (h : ∀ x ∈ xs, rowP x = true) : xs.map sndD = (trus xs).map PyData.bool := by
  unfold trus
  rw [List.map_map]
  refine List.map_congr_left fun x hx => ?_
  obtain ⟨a, b, rfl, _⟩ := rowP_ex (h x hx)
  rfl
theorem row_told {l A : List Sg} {s : Sg} (h : Row 14 l s A) {x : Sg} (hx : x ∈ l ++ [s]) {ts : List Bool} (ht : ts.length = A.length) (μ : Mem) : callF toldByF [.d (.tuple (Sg.ds A)), .d (.list (ts.map .bool)), .d (core x).d] μ = .ok (.d (.bool (ev (vOf A ts) (core x)))) μ := by
  have c := h.os.cs x hx
  exact told_okL h.at_ ht c.cht ((core_sz x).2.2 c.sok) (by have := c.dep; omega) (h.co x hx) μ
theorem row_core {l A : List Sg} {s : Sg} (h : Row 14 l s A) {x : Sg} (hx : x ∈ l ++ [s]) (μ : Mem) : callF (coreF 14) [.d x.d] μ = .ok (.d (core x).d) μ := core_ok 14 x (h.os.cs x hx).ht (h.os.cs x hx).sok μ
theorem numb_get {xs : List PyData} {k : Nat} {z : PyData} (h : (numb 0 xs)[k]? = some z) : ∃ y, xs[k]? = some y ∧ z = .tuple [.int (k : Int), y] := by
  have hk := (List.getElem?_eq_some_iff.mp h).1
  rw [numb_len] at hk
  have e : xs[k]? = some xs[k] := List.getElem?_eq_getElem hk
  have := numb_at xs 0 k e
  rw [h] at this
  refine ⟨_, e, ?_⟩
  simpa using Option.some.inj this
theorem ds_get {A : List Sg} {k : Nat} {y : PyData} (h : (Sg.ds A)[k]? = some y) : ∃ a, A[k]? = some a ∧ y = a.d := by
  rw [ds_map, List.getElem?_map] at h
  obtain ⟨a, h1, h2⟩ := Option.map_eq_some_iff.mp h
  exact ⟨a, h1, h2.symm⟩
theorem row_fault_ex {l A : List Sg} {s : Sg} {y d : PyData} (hy : y = .list (Sg.ds l) ∨ y = .tuple (Sg.ds l)) (h : Row 14 l s A) (hd : Th 64 90000 d) : ∃ r, RowFault A l s d r ∧ ∀ μ, callF F_row_fault [.d y, .d s.d, .d d] μ = .ok (.d r) μ := by
  refine pure_ex rfl ?_
  have hls : y = .list (Sg.ds l) ∨ y = .tuple (Sg.ds l) := hy
  have oa : ∀ μ, callF (oatomsF 14) [.d (.list (Sg.ds (l ++ [s])))] μ = .ok (.d (.tuple (Sg.ds A))) μ := fun μ => by rw [← h.eq]; exact oatoms_eq (.inl rfl) h.os μ
  have hz := h.len
  have hstar : viewL (.d y) ([] : Mem) = some (Sg.ds l) := by rcases hy with rfl | rfl <;> simp
  have happ : Sg.ds l ++ [s.d] = Sg.ds (l ++ [s]) := by rw [ds_app]; rfl
  unfold F_row_fault
  rw [ok_fnF3, B_row_fault]
  simp [is_row_eq hd]
  cases hk : rowK d with
  | false =>
    simp [flt_d]
    exact ⟨fun _ => rfl, fun _ _ q => (by rw [hk] at q; cases q), fun _ _ _ q => (by rw [hk] at q; cases q), fun _ _ _ q => (by rw [hk] at q; cases q), fun _ _ q => (by rw [hk] at q; cases q)⟩
  | true =>
    obtain ⟨xs, rfl, hp⟩ := tup_ex hk
    have hxs := hd.items.1
    have hxz := hxs.size
    have hds : datas ((Sg.ds l).map W.d ++ [.d s.d]) = some (Sg.ds (l ++ [s])) := by rw [datas_snoc, happ]
    have hz1 : (Sg.ds (l ++ [s])).length ≤ sizeLine := le_million (by rw [ds_len, List.length_append, List.length_singleton]; omega)
    simp [hstar, hds, hz1, oa, ds_len]
    have hz2 : l.length + 1 ≤ sizeLine := le_million (by omega)
    refine ⟨hz2, ?_⟩
    by_cases hlen : xs.length = A.length
    · simp [hlen]
      -- the atoms, one by one
      refine for_first (fun ρ => ∃ e4 e5, ρ = [some (.d y), some (.d s.d), some (.d (.tuple xs)), some (.d (.tuple (Sg.ds A))), e4, e5, none, none, none]) (atomB A xs) ⟨_, _, rfl⟩ ?_ ?_
      · rintro k z ρ hz hj ⟨e4, e5, rfl⟩
        obtain ⟨q, hq, rfl⟩ := numb_get hz
        obtain ⟨a, ha, rfl⟩ := ds_get hq
        have hk2 := (List.getElem?_eq_some_iff.mp ha).1
        have ex : xs[k]? = some xs[k] := List.getElem?_eq_getElem (by omega)
        have hm : xs[k] ∈ xs := List.getElem_mem _
        have hb : atomB A xs k = !PyData.eqv (fstD xs[k]) a.d := by simp [atomB, ex, ha]
        have ei := atI_nat ex
        generalize xs[k] = x at *
        obtain ⟨u, b, rfl, hu⟩ := rowP_ex (hp x hm)
        refine ⟨_, gT2, ?_⟩
        have su : SeqAt.shaped u = true := (ths_mem (ths_mem hxs _ hm).items.1 u (by simp)).shp (by omega)
        have ra := oat_rp h.os ((h.mem a).mp (List.mem_of_getElem? ha))
        have sa : SeqAt.shaped a.d = true := by simp [SeqAt.shaped, ra.lay, ra.dep]
        simp [ei, su, sa]
        simp only [fstD] at hb
        cases he : PyData.eqv u a.d with
        | true =>
          simp [hb, he]
        | false =>
          simp [flt_d]
          refine ⟨fun q => (by rw [hk] at q; cases q), fun ys e _ q => ?_, fun ys j e _ q hj2 hj3 hj4 => ?_, fun ys j e _ q q2 => ?_, fun ys e _ q q2 => ?_⟩
          · cases e; exact (q hlen).elim
          · cases e
            have : j = k := by
              rcases Nat.lt_trichotomy j k with h1 | h1 | h1
              · rw [hj j h1] at hj3; cases hj3
              · exact h1
              · have := hj4 k h1; rw [hb, he] at this; cases this
            rw [this]
          · cases e; have := q2 k hk2; rw [hb, he] at this; cases this
          · cases e; have := q2 k hk2; rw [hb, he] at this; cases this
      · rintro ρ ⟨e4, e5, rfl⟩ hj
        have hj' : ∀ j, j < A.length → atomB A xs j = false := fun j hj2 => hj j (by rw [numb_len, ds_len]; exact hj2)
        have htl : (trus xs).length = A.length := by unfold trus; rw [List.length_map]; exact hlen
        simp [ok_dLc, wipeE]
        refine lc_each sndD (le_million (by omega)) (fun x hx => ?_) ?_
        · obtain ⟨u, b, rfl, hu⟩ := rowP_ex (hp x hx)
          exact ⟨_, gT2, by simp [sndD]⟩
        · rw [truD_row hp]
          have main : Oks (forL (numb 0 (Sg.ds l), none) (gT 2 (gCons' (gN 4) (gCons' (gN 7) gNil'))) (sIf (dNot (dTv (dCall toldByF [] (dCons (dV 3) (dCons (dV 6) (dCons (dCall (coreF 14) [] (dCons (dV 7) dNil)) dNil)))))) (sRet (dPn opTup (dCons (dC (.str "false")) (dCons (dV 4) dNil)))) sNext) (numb 0 (Sg.ds l))
              [some (.d y), some (.d s.d), some (.d (.tuple xs)), some (.d (.tuple (Sg.ds A))), e4, e5, some (.d (.list ((trus xs).map .bool))), none, none] [])
              (fun ρ μ => Oks ((sSeq (sIf (dTv (dCall toldByF [] (dCons (dV 3) (dCons (dV 6) (dCons (dCall (coreF 14) [] (dCons (dV 1) dNil)) dNil)))))
                (sRet (dPn opTup (dCons (dC (.str "true")) (dCons (dP1 opNeg (dC (.int 1))) dNil)))) sNext) (sRet (dC .none))) ρ μ) (fun _ _ => ∃ y_1, W.d PyData.none = W.d y_1 ∧ RowFault A l s (.tuple xs) y_1) (fun w _ => ∃ y_1, w = W.d y_1 ∧ RowFault A l s (.tuple xs) y_1) (fun _ _ => False) (fun _ _ => False)) (fun w _ => ∃ y_1, w = W.d y_1 ∧ RowFault A l s (.tuple xs) y_1) (fun _ _ => False) (fun _ _ => False) := by
            refine for_first (fun ρ => ∃ e4 e7, ρ = [some (.d y), some (.d s.d), some (.d (.tuple xs)), some (.d (.tuple (Sg.ds A))), e4, e5, some (.d (.list ((trus xs).map .bool))), e7, none]) (falseB A l (trus xs)) ⟨_, _, rfl⟩ ?_ ?_
            · rintro k z ρ hz hjj ⟨e4, e7, rfl⟩
              obtain ⟨q, hq, rfl⟩ := numb_get hz
              obtain ⟨x, hx, rfl⟩ := ds_get hq
              have hk2 := (List.getElem?_eq_some_iff.mp hx).1
              have hm : x ∈ l ++ [s] := List.mem_append_left _ (List.mem_of_getElem? hx)
              have hb : falseB A l (trus xs) k = !ev (vOf A (trus xs)) (core x) := by simp [falseB, hx]
              refine ⟨_, gT2, ?_⟩
              simp [row_core h hm, row_told h hm htl]
              cases he : ev (vOf A (trus xs)) (core x) with
              | true => simp [hb, he]
              | false =>
                simp [flt_d]
                refine ⟨fun q => (by rw [hk] at q; cases q), fun ys e _ q => ?_, fun ys j e _ q hj2 hj3 hj4 => ?_, fun ys j e _ q q2 q3 q4 q5 => ?_, fun ys e _ q q2 q3 => ?_⟩
                · cases e; exact (q hlen).elim
                · cases e; rw [hj' j hj2] at hj3; cases hj3
                · cases e
                  have : j = k := by
                    rcases Nat.lt_trichotomy j k with h1 | h1 | h1
                    · rw [hjj j h1] at q4; cases q4
                    · exact h1
                    · have := q5 k h1; rw [hb, he] at this; cases this
                  rw [this]
                · cases e; have := q3 k hk2; rw [hb, he] at this; cases this
            · rintro ρ ⟨e4, e7, rfl⟩ hjj
              have hjj' : ∀ j, j < l.length → falseB A l (trus xs) j = false := fun j hj2 => hjj j (by rw [numb_len, ds_len]; exact hj2)
              have hm : s ∈ l ++ [s] := by simp
              simp [row_core h hm, row_told h hm htl]
              have fin : RowFault A l s (.tuple xs) (if ev (vOf A (trus xs)) (core s) = true then flt "true" (-1) else .none) := by
                refine ⟨fun q => (by rw [hk] at q; cases q), fun ys e _ q => ?_, fun ys j e _ q hj2 hj3 hj4 => ?_, fun ys j e _ q q2 q3 q4 q5 => ?_, fun ys e _ q q2 q3 => ?_⟩
                · cases e; exact (q hlen).elim
                · cases e; rw [hj' j hj2] at hj3; cases hj3
                · cases e; rw [hjj' j q3] at q4; cases q4
                · cases e; rfl
              cases he : ev (vOf A (trus xs)) (core s) with
              | true => simp [flt_d]; rw [he] at fin; exact fin
              | false => simp; rw [he] at fin; exact fin
          rcases hy with rfl | rfl
          · simpa using main
          · simpa using main
    · have hne : ¬ ((xs.length : Int) = (A.length : Int)) := by omega
      simp [hne, flt_d]
      refine ⟨fun q => (by rw [hk] at q; cases q), fun _ _ _ _ => rfl, fun ys k e _ q => ?_, fun ys k e _ q => ?_, fun ys e _ q => ?_⟩ <;>
      · cases e; exact (hlen q).elim
end Mok09

set_option autoImplicit false
namespace Mok09
open PySem PySem.Spec PyProof.Rows L2
mutual
theorem say_sgT : ∀ s : Sg, s.sok → ne s → say true s.d = true
  | .lt x, h, n => by
    rw [say_eq]
    simp (config := { decide := true }) [Sg.d, TW, TW2, word_sw h n]
  | .no s, h, n => by
    rw [say_eq]
    simp (config := { decide := true }) [Sg.d, TW, TW2, say_sgT s h n]
  | .many w l, h, n => by
    rw [say_eq]
    have := say_sgsT l h.1 n
    cases w <;> simp (config := { decide := true }) [Sg.d, TW, TW2, wMany] <;> exact this
  | .so a b, h, n => by
    rw [say_eq]
    simp (config := { decide := true }) [Sg.d, TW, TW3, say_sgT a h.1 n.1, say_sgT b h.2 n.2]
  | .tl a b, h, n => by
    rw [say_eq]
    simp (config := { decide := true }) [Sg.d, TW, TW3, say_sgT a h.1 n.1, say_sgT b h.2 n.2]
  | .mod w x s, h, n => by
    rw [say_eq]
    cases w <;> simp (config := { decide := true }) [Sg.d, TW, TW3, wMod, word_sw h.1 n.1, say_sgT s h.2 n.2]
theorem say_sgsT : ∀ l : List Sg, Sg.soks l → nes l → ∀ y ∈ Sg.ds l, say true y = true
  | [], _, _ => by simp [Sg.ds]
  | s :: r, h, n => by
    intro y hy
    rcases List.mem_cons.mp hy with rfl | hy
    · exact say_sgT s h.1 n.1
    · exact say_sgsT r h.2 n.2 y hy
end
mutual
theorem core_ne : ∀ {s : Sg}, ne s → ne (core s)
  | .lt _, h => h
  | .no s, h => core_ne (s := s) h
  | .many _ l, h => cores_ne (l := l) h
  | .so a b, h => ⟨core_ne h.1, core_ne h.2⟩
  | .tl a b, h => ⟨core_ne h.1, core_ne h.2⟩
  | .mod w x s, h => by cases w <;> exact ⟨h.1, core_ne h.2⟩
theorem cores_ne : ∀ {l : List Sg}, nes l → nes (cores l)
  | [], _ => trivial
  | s :: r, h => ⟨core_ne h.1, cores_ne h.2⟩
end
mutual
theorem allP_ne : ∀ {s x : Sg}, ne s → x ∈ allP s → ne x
  | .lt _, x, n, h => by rw [List.mem_singleton.mp h]; exact n
  | .no s, x, n, h => by
    rcases List.mem_cons.mp h with rfl | h
    · exact n
    · exact allP_ne (s := s) n h
  | .many w l, x, n, h => by
    rcases List.mem_cons.mp h with rfl | h
    · exact n
    · exact allPs_ne (l := l) n h
  | .so a b, x, n, h => by
    rcases List.mem_cons.mp h with rfl | h
    · exact n
    · rcases List.mem_append.mp h with h | h
      · exact allP_ne n.1 h
      · exact allP_ne n.2 h
  | .tl a b, x, n, h => by
    rcases List.mem_cons.mp h with rfl | h
    · exact n
    · rcases List.mem_append.mp h with h | h
      · exact allP_ne n.1 h
      · exact allP_ne n.2 h
  | .mod _ _ s, x, n, h => by
    rcases List.mem_cons.mp h with rfl | h
    · exact n
    · exact allP_ne n.2 h
theorem allPs_ne : ∀ {l : List Sg} {x : Sg}, nes l → x ∈ allPs l → ne x
  | [], x, _, h => by cases h
  | s :: r, x, n, h => by
    rcases List.mem_append.mp h with h | h
    · exact allP_ne n.1 h
    · exact allPs_ne n.2 h
end
theorem atoms_say {n : Nat} {l : List Sg} (h : Os n l) (hn : ∀ s ∈ l, ne s) {a : Sg} (ha : a ∈ outss (cores l)) : say true a.d = true := by
  obtain ⟨s, hs, hx⟩ := mem_outss.mp ha
  rw [cores_map] at hs
  obtain ⟨u, hu, rfl⟩ := List.mem_map.mp hs
  have h1 := (outs_sub hx).1
  have h2 := (core_sz u).2.2 (h.cs u hu).sok
  exact say_sgT a ((allP_sub h1).1 h2) (allP_ne (core_ne (hn u hu)) h1)
theorem zip_at {xs ys : List PyData} {k : Nat} {z : PyData} (h : (zipD xs ys)[k]? = some z) : ∃ x y, xs[k]? = some x ∧ ys[k]? = some y ∧ z = .tuple [x, y] := by
  unfold zipD at h
  rw [List.getElem?_zipWith] at h
  cases h1 : xs[k]? with
  | none => rw [h1] at h; simp at h
  | some x =>
    cases h2 : ys[k]? with
    | none => rw [h1, h2] at h; simp at h
    | some y => rw [h1, h2] at h; simp at h; exact ⟨x, y, rfl, rfl, h.symm⟩
theorem trus_row : ∀ {A : List Sg} {ts : List Bool}, ts.length = A.length → trus (zipD (Sg.ds A) (ts.map .bool)) = ts
  | [], [], _ => rfl
  | a :: A, t :: ts, h => by
    have := trus_row (A := A) (ts := ts) (by simpa using h)
    unfold trus zipD at *
    simp only [Sg.ds, List.map_cons, List.zipWith_cons_cons, truD, this]
  | [], _ :: _, h => by simp at h
  | _ :: _, [], h => by simp at h
theorem row_len {A : List Sg} {ts : List Bool} (h : ts.length = A.length) : (zipD (Sg.ds A) (ts.map .bool)).length = A.length := by
  rw [zipD_len, ds_len, List.length_map, h]
  exact Nat.min_self _
theorem row_K {A : List Sg} {ts : List Bool} (hs : ∀ a ∈ A, say true a.d = true) : rowK (rowW A ts) = true := by
  unfold rowW rowK
  rw [List.all_eq_true]
  intro x hx
  obtain ⟨u, hu, v, hv, rfl⟩ := zip_mem hx
  obtain ⟨a, ha, rfl⟩ := mem_ds.mp hu
  obtain ⟨b, _, rfl⟩ := List.mem_map.mp hv
  simp [rowP, hs a ha, isB]
theorem row_atom {A : List Sg} {ts : List Bool} (hl : ts.length = A.length) (hs : ∀ a ∈ A, a.d.canLay0 = true) (j : Nat) : atomB A (zipD (Sg.ds A) (ts.map .bool)) j = false := by
  unfold atomB
  split
  · rename_i x a h1 h2
    obtain ⟨u, v, hu, hv, rfl⟩ := zip_at h1
    obtain ⟨b, hb, rfl⟩ := ds_get hu
    rw [h2] at hb
    cases hb
    simp [fstD, (same_refl a.d (hs a (List.mem_of_getElem? h2))).2]
  · rfl
end Mok09

set_option autoImplicit false
namespace Mok09
open PySem PySem.Spec PyProof.Rows L2
/-! ### what holds at a world, by cores and truths -/
/-- the truths of atoms at a world -/
def truthsAt (w : Web) (i : Nat) (A : List Sg) : List Bool := A.map fun a => hold w a i
/-- how many draws a saying takes at most -/
def dcost (L : Int) : Int := 2 * (1 + 3 * (fL L : Int))
def LsyI (L : Int) (t : Bool) (K : Int) (μ : Mem) (done acc : List PyData) (μ' : Mem) : Prop := ∃ l : List Sg, acc = Sg.ds l ∧ l.length = done.length ∧ (∀ s ∈ l, SayS L t s) ∧ Mf (K + dcost L * done.length) μ' ∧ Beh μ μ'
end Mok09

set_option autoImplicit false
namespace Mok09
open PySem PySem.Spec PyProof.Rows L2
/-- of each saying of a row its picture -/
theorem lc_sg {l : List Sg} {f : Sg → PyData} {te : DE} {i : Nat} {ρ : Env} {μ : Mem} {Pa : List PyData → Mem → Prop} (hz : l.length ≤ sizeLine) (h : ∀ x ∈ l, Ok (te (ρ.set i (some (.d x.d))) μ) fun w μ' => w = .d (f x) ∧ μ' = μ) (q : Pa (l.map f) μ) :
    Ok (lcL (Sg.ds l, none) (gN i) (lcOne dYes te) ρ (Sg.ds l) [] μ) Pa := by
  refine lc_map (s := (Sg.ds l, none)) (xs := Sg.ds l) (ys := l.map f) rfl trivial (by rw [ds_len, List.length_map]) (by rw [ds_len]; exact hz) (fun j x y h1 h2 => ?_) q
  obtain ⟨s, hs, rfl⟩ := ds_get h1
  rw [List.getElem?_map, hs] at h2
  cases h2
  obtain ⟨w, μ', e, rfl, rfl⟩ := (h s (List.mem_of_getElem? hs)).ex
  exact e
@[simp] theorem sh_bool {b : Bool} : SeqAt.shaped (.bool b) = true := by simp [SeqAt.shaped, PyData.depth]
theorem rp_bool (b : Bool) : Rp (.bool b) := ⟨rfl, by simp [PyData.depth], rfl, le_million (by simp [wt])⟩
theorem shown_bool {a b : Bool} (h : a = b) : PyData.eqv (.str (PyData.bool a).shown) (.str (PyData.bool b).shown) = true := by subst h; simp
theorem strOk_shown (b : Bool) : PyData.strOk (PyData.bool b).shown = true := by cases b <;> decide +kernel
end Mok09

set_option autoImplicit false
namespace Mok09
open PySem PySem.Spec PyProof.Rows L2
def otherW (z : Str) : Option PyData := if z = "and" then some (.str "or") else if z = "or" then some (.str "and") else if z = "must" then some (.str "may") else if z = "may" then some (.str "must") else none
noncomputable def B_letters_put (self : Fn) : DS := (sSeq (sIf (dTb (dP2 (opEq false) (dP2 opIxA (dV 0) (dC (.int 0))) (dC (.str "letter"))))
  (sSeq (sFor (dI iV (dV 1)) (gT 2 (gCons' (gN 2) (gCons' (gN 3) gNil')))
  (sIf (dTb (dP2 (opEq false) (dV 2) (dP2 opIxA (dV 0) (dC (.int 1)))))
  (sRet (dV 3)) sNext))
  (sRet (dV 0))) sNext)
  (sRet (dCall withF [] (dCons (dV 0) (dCons (dPn opTu (dCons (dLc false (dI iV (dCall innerF [] (dCons (dV 0) dNil))) (gN 4) dYes (dCall self [] (dCons (dV 4) (dCons (dV 1) dNil))) [4]) dNil)) dNil)))))
noncomputable def F_letters_put : Nat → Fn
  | 0 => fun _ _ => .bad
  | n + 1 => fnF 2 5 (B_letters_put (F_letters_put n))
noncomputable def B_in_few_words (self : Fn) : DS := (sSeq (sSet 1 (dPn opTu (dCons (dLc false (dI iV (dCall innerF [] (dCons (dV 0) dNil))) (gN 3) dYes (dCall self [] (dCons (dV 3) dNil)) [3]) dNil)))
  (sSeq (sSet 2 (dP2 opIxA (dV 0) (dC (.int 0))))
  (sSeq (sIf (dTb (dP2 (opEq false) (dV 2) (dC (.str "or"))))
  (sRet (dPn opTup (dCons (dC (.str "not")) (dCons (dPn opTup (dCons (dC (.str "and")) (dCons (dPn opTu (dCons (dLc false (dI iV (dV 1)) (gN 3) dYes (dPn opTup (dCons (dC (.str "not")) (dCons (dV 3) dNil))) [3]) dNil)) dNil))) dNil)))) sNext)
  (sSeq (sIf (dTb (dP2 (opEq false) (dV 2) (dC (.str "so"))))
  (sRet (dPn opTup (dCons (dC (.str "not")) (dCons (dPn opTup (dCons (dC (.str "and")) (dCons (dPn opTup (dCons (dP2 opIxA (dV 1) (dC (.int 0))) (dCons (dPn opTup (dCons (dC (.str "not")) (dCons (dP2 opIxA (dV 1) (dC (.int 1))) dNil))) dNil))) dNil))) dNil)))) sNext)
  (sSeq (sIf (dTb (dP2 (opEq false) (dV 2) (dC (.str "may"))))
  (sRet (dPn opTup (dCons (dC (.str "not")) (dCons (dPn opTup (dCons (dC (.str "must")) (dCons (dP2 opIxA (dV 0) (dC (.int 1))) (dCons (dPn opTup (dCons (dC (.str "not")) (dCons (dP2 opIxA (dV 1) (dC (.int 0))) dNil))) dNil)))) dNil)))) sNext)
  (sRet (dCall withF [] (dCons (dV 0) (dCons (dV 1) dNil)))))))))
noncomputable def F_in_few_words : Nat → Fn
  | 0 => fun _ _ => .bad
  | n + 1 => fnF 1 4 (B_in_few_words (F_in_few_words n))
noncomputable def B_pushed (self : Fn) : DS := (sSeq (sSet 2 (dP2 opIxA (dV 0) (dC (.int 0))))
  (sSeq (sIf (dTb (dP2 (opEq false) (dV 2) (dC (.str "letter"))))
  (sRet (dIf (dTv (dV 1)) (dV 0) (dPn opTup (dCons (dC (.str "not")) (dCons (dV 0) dNil))))) sNext)
  (sSeq (sIf (dTb (dP2 (opEq false) (dV 2) (dC (.str "not"))))
  (sRet (dCall self [] (dCons (dP2 opIxA (dV 0) (dC (.int 1))) (dCons (dNotV (dV 1)) dNil)))) sNext)
  (sSeq (sIf (dTb (dP2 (opEq false) (dV 2) (dC (.str "so"))))
  (sRet (dPn opTup (dCons (dIf (dTv (dV 1)) (dC (.str "or")) (dC (.str "and"))) (dCons (dPn opTup (dCons (dCall self [] (dCons (dP2 opIxA (dV 0) (dC (.int 1))) (dCons (dNotV (dV 1)) dNil))) (dCons (dCall self [] (dCons (dP2 opIxA (dV 0) (dC (.int 2))) (dCons (dV 1) dNil))) dNil))) dNil)))) sNext)
  (sSeq (sSet 3 (dCall withF [] (dCons (dV 0) (dCons (dPn opTu (dCons (dLc false (dI iV (dCall innerF [] (dCons (dV 0) dNil))) (gN 4) dYes (dCall self [] (dCons (dV 4) (dCons (dV 1) dNil))) [4]) dNil)) dNil))))
  (sRet (dIf (dTv (dV 1)) (dV 3) (dPn opTup (dCons (dKD otherW (dV 2)) (dStar (dSl false (dV 3) (dPart (dC (.int 1))) dNo) dNil))))))))))
noncomputable def F_pushed : Nat → Fn
  | 0 => fun _ _ => .bad
  | n + 1 => fnF 2 5 (B_pushed (F_pushed n))
noncomputable def B_pushed_in : DS := (sRet (dCall (F_pushed 30) [] (dCons (dV 0) (dCons (dC (.bool true)) dNil))))
noncomputable def F_pushed_in : Fn := fnF 1 1 B_pushed_in
end Mok09

set_option autoImplicit false
namespace Mok09
open PySem PySem.Spec PyProof.Rows L2
mutual
def pu (k : Bool) : Sg → Sg
  | .lt x => if k = true then .lt x else .no (.lt x)
  | .no s => pu (!k) s
  | .many w l => .many (w != !k) (pus k l)
  | .so a b => .many k [pu (!k) a, pu k b]
  | .tl a b => .tl a b
  | .mod w h s => .mod (w != !k) h (pu k s)
def pus (k : Bool) : List Sg → List Sg
  | [] => []
  | s :: r => pu k s :: pus k r
end
mutual
def few : Sg → Sg
  | .lt x => .lt x
  | .no s => .no (few s)
  | .many w l => if w = true then .no (.many false (fewn l)) else .many false (fews l)
  | .so a b => .no (.many false [few a, .no (few b)])
  | .tl a b => .tl a b
  | .mod w h s => if w = true then .no (.mod false h (.no (few s))) else .mod false h (few s)
def fews : List Sg → List Sg
  | [] => []
  | s :: r => few s :: fews r
def fewn : List Sg → List Sg
  | [] => []
  | s :: r => .no (few s) :: fewn r
end
end Mok09

set_option autoImplicit false
namespace Mok09
open PySem PySem.Spec PyProof.Rows L2
/-! ### instances whose fields hold lists, dicts of their own -/
def setG (f : Str) (z : FV) : List (Str × FV) → List (Str × FV)
  | [] => [(f, z)]
  | (g, x) :: r => if g = f then (g, z) :: r else (g, x) :: setG f z r
section
variable {K : PySem.W.Frag} {m : Ms} {H : Hp} {f : Str} {us : List (Str × V)} {gs : List (Str × FV)} {bs : List Addr}
/-- may hold data: isn't there yet, or holds data -/
def isDat : Option FV → Bool
  | none => true
  | some (.d _) => true
  | _ => false
end
end Mok09

set_option autoImplicit false
namespace Mok09
open PySem PySem.Spec PyProof.Rows L2
/-! ### exceptions: raise, try .. except X -/
def ctK (K : PySem.W.Frag) : Ct := fun x => match PySem.W.nsIn K mainGlobals x with
  | some (some (.ref a)) => some a
  | _ => none
theorem ctK_of {K : PySem.W.Frag} {x : Str} {C : Addr} (h : PySem.W.nsIn K mainGlobals x = some (some (.ref C))) : ctK K x = some C := by simp [ctK, h]
theorem of_ctK {K : PySem.W.Frag} {x : Str} {C : Addr} (h : ctK K x = some C) : PySem.W.nsIn K mainGlobals x = some (some (.ref C)) := by
  unfold ctK at h
  split at h
  · rename_i a e
    cases h
    exact e
  · cases h
/-- what __init__ of one, of two fields keeps -/
def spX1 (K : PySem.W.Frag) (f : Str) : Sp := fun vs H Q _ => ∃ (a C : Addr) (u : V), vs = [.ref a, u] ∧ OexC K C ∧ PySem.W.findIn K (.ref C) f = some none ∧ H a = some (exo a C none) ∧
  ∀ dx, H dx = none → dx ≠ a → Q .non (upd (upd H dx (exd dx [(f, u)])) a (exo a C (some dx)))
def spX2 (K : PySem.W.Frag) (f g : Str) : Sp := fun vs H Q _ => ∃ (a C : Addr) (u v : V), vs = [.ref a, u, v] ∧ OexC K C ∧ PySem.W.findIn K (.ref C) f = some none ∧ PySem.W.findIn K (.ref C) g = some none ∧ H a = some (exo a C none) ∧
  ∀ dx, H dx = none → dx ≠ a → Q .non (upd (upd (upd H dx (exd dx [(f, u)])) a (exo a C (some dx))) dx (exd dx [(g, v), (f, u)]))
theorem x2_run {K : PySem.W.Frag} {f g : Str} {vs : List V} {H : Hp} {Q : VK} {E : XK} {N : List Str} (h : spX2 K f g vs H Q E) : (tSeq (tOst K f (tVar 0) (tVar 1)) (tOst K g (tVar 0) (tVar 2))) { nx := fun _ H' => Q .non H', rt := Q } (start N vs) H := by
  obtain ⟨a, C, u, v, rfl, T, n1, n2, ea, q⟩ := h
  refine ⟨u, rfl, .ref a, rfl, a, C, rfl, T, n1, .inl ⟨ea, fun dx hd ne => ?_⟩⟩
  refine ⟨v, rfl, .ref a, rfl, a, C, rfl, T, n2, .inr ⟨dx, _, upd_same, by rw [upd_ne ne]; exact upd_same, by simp, q dx hd ne⟩⟩
theorem x2_len {K : PySem.W.Frag} {f g : Str} {vs : List V} {H : Hp} {Q : VK} {E : XK} {ps : List Str} (hp : ps.length = 3) (h : spX2 K f g vs H Q E) : vs.length = ps.length := by
  obtain ⟨a, C, u, v, rfl, _⟩ := h
  rw [hp]
  rfl
/-- a class of exceptions over ValueError, its __init__ a def of the module -/
def XcAt (K : PySem.W.Frag) (mg : Str → Option Value) (x qual : Str) (st : Stmt) (ps fs : List Str) : Prop := ∃ (C f : Addr) (fd : FuncData), PySem.W.nsIn K mainGlobals x = some (some (.ref C)) ∧ mg x = some (.ref C) ∧ OexC K C ∧
  PySem.W.findIn K (.ref C) "__init__" = some (some (.ref f)) ∧ PySem.W.typeIn K (.ref f) = some (.type "function") ∧ C8.Fun K "__init__" qual st f fd ∧ Binds K fd ps [] ∧ XfC K C ∧ ∀ g ∈ fs, PySem.W.findIn K (.ref C) g = some none
/-- the promise of the class's call -/
structure CalX (P : Program) (w : World) (K : PySem.W.Frag) (mg : Str → Option Value) (base : Heap) (k : Nat) (x : Str) (fs : List Str) (sp : Sp) : Prop where
  ex : ∃ (C f : Addr) (fd : FuncData) (ps : List Str), PySem.W.nsIn K mainGlobals x = some (some (.ref C)) ∧ mg x = some (.ref C) ∧ OexC K C ∧
    PySem.W.findIn K (.ref C) "__init__" = some (some (.ref f)) ∧ PySem.W.typeIn K (.ref f) = some (.type "function") ∧ FnOk P w K mg base CX0 k f fd ps sp ∧ Binds K fd ps [] ∧ ∀ g ∈ fs, PySem.W.findIn K (.ref C) g = some none
section
variable {P : Program} {w : World} {K : PySem.W.Frag} {mg : Str → Option Value} {base : Heap} {x qual : Str} {st : Stmt} {ps fs : List Str} {sp : Sp}
theorem calX_of {k : Nat} (D : XcAt K mg x qual st ps fs) (hf : ∀ (f : Addr) (fd : FuncData), C8.Fun K "__init__" qual st f fd → FnOk P w K mg base CX0 k f fd ps sp) : CalX P w K mg base k x fs sp := by
  obtain ⟨C, f, fd, h1, h2, h3, h4, h5, h6, h7, h8, h9⟩ := D
  exact ⟨C, f, fd, ps, h1, h2, h3, h4, h5, hf f fd h6, h7, h9⟩
end
def sRaise (x : Str) (fs : List Str) (da : DA) : DS := fun ρ μ => match da ρ μ with
  | .ok ws μ1 => match datas ws with
    | some xs => if xs.length = fs.length then .exc ⟨x, (fs.zip xs).reverse⟩ ρ μ1 else .bad
    | none => .bad
  | .exc x μ1 => .exc x ρ μ1
  | .bad => .bad
theorem datas_cons {w : W} {ws : List W} {xs : List PyData} (h : datas (w :: ws) = some xs) : ∃ y ys, w = .d y ∧ datas ws = some ys ∧ xs = y :: ys := by
  cases w with
  | d y =>
    simp only [datas, Option.map_eq_some_iff] at h
    obtain ⟨ys, h1, rfl⟩ := h
    exact ⟨y, ys, rfl, h1, rfl⟩
  | r n => simp [datas] at h
  | s n => simp [datas] at h
theorem rvs_datas {K : PySem.W.Frag} {m : Ms} {H : Hp} {ws : List W} {vs : List V} {xs : List PyData} (r : RVs K m H ws vs) (h : datas ws = some xs) : DvAll K (Live m) H vs xs := by
  induction r generalizing xs with
  | nil =>
    simp only [datas, Option.some.injEq] at h
    subst h
    exact .nil
  | cons a b ih =>
    obtain ⟨y, ys, rfl, h1, rfl⟩ := datas_cons h
    exact .cons a (ih h1)
theorem gd_raise {K : PySem.W.Frag} {ct : Ct} {Z : WX} {D : Ends} {m : Ms} {σ : L2.St} {H : Hp} {ρ : Env} {x : Str} {fs : List Str} {r : Res (List W)} {Pp : List W → Mem → Ms → Hp → Prop} (he : EnvR K m H ρ σ)
    (g : Gs K ct Z D m H (match r with
      | .ok ws μ1 => match datas ws with
        | some xs => if xs.length = fs.length then .exc ⟨x, (fs.zip xs).reverse⟩ ρ μ1 else .bad
        | none => .bad
      | .exc x μ1 => .exc x ρ μ1
      | .bad => .bad))
    (k : ∀ ws xs μ1 m1 H1, Ext m H m1 H1 → RH K m1 H1 μ1 → datas ws = some xs → xs.length = fs.length → (∀ m' σ' H' cls d, Ext m H m' H' → RH K m' H' μ1 → EnvR K m' H' ρ σ' → XcR K ct m' H' ⟨x, (fs.zip xs).reverse⟩ cls d → Z cls d σ' H') → Pp ws μ1 m1 H1) : Gd K ct Z m σ H r Pp := by
  cases r with
  | bad => exact g
  | exc x μ1 => exact fun m' H' cls d e h xr => g m' σ H' cls d e h (he.ext e) xr
  | ok ws μ1 =>
    dsimp only at g
    cases hd : datas ws with
    | none => rw [hd] at g; exact g.elim
    | some xs =>
      rw [hd] at g
      dsimp only at g
      by_cases hl : xs.length = fs.length
      · rw [if_pos hl] at g
        exact fun m1 H1 e1 h1 => k ws xs μ1 m1 H1 e1 h1 hd hl g
      · rw [if_neg hl] at g
        exact g.elim
section
variable {X : Cx} {Z : WX} {k : Nat} {x : Str} {p pos pos' : Pos}
theorem msRaise2 {f g : Str} {a b : Expr} {da : DA} (c : CalX X.prog X.w X.K X.mg X.base k x [f, g] (spX2 X.K f g)) (hr : Room (k + 1) X.A) (tk : Takes X Z) (ha : MA X (ctK X.K) Z [a, b] da) (hg : Gl X x := by rfl) (hc : X.calm = true := by rfl)
    (hdb : (x == ("__debug__" : Str)) = false := by decide) (he : starEach [a, b] X.env = (false, eval a X.env) :: starEach [b] X.env := by rfl) (hpl : (backTo pos (starEach [b] X.env)).any (·.1) = false := by rfl) :
    MS X (ctK X.K) Z (.Raise (some (.Call (.Name x p) [a, b] [] pos)) none pos') (sRaise x [f, g] da) := by
  obtain ⟨C, fa, fd, ps, c1, c2, T, c3, c4, FO, hb, hn⟩ := c.ex
  refine ⟨ps_imp (ps_raise hc tk (pmk_oex T c3 c4 FO hr hb .nil pass0 hg c2 ha.pa hdb he hpl)) fun D σ H h => ?_⟩
  obtain ⟨m, ρ, μ, hρ, hh, gg⟩ := h
  refine ⟨m, ρ, μ, hρ, hh, gd_raise hρ gg fun ws xs μ1 m1 H1 e1 h1 hd hl q vs r1 => ?_⟩
  have dv := rvs_datas r1 hd
  match xs, hl, vs, dv with
  | [y, z], _, [u, v], .cons dy (.cons dz .nil) =>
    refine ⟨by simp, fun ad hna => ⟨ad, C, u, v, rfl, T, hn _ (by simp), hn _ (by simp), upd_same, fun dx hdx ne => ?_⟩⟩
    rw [upd_ne ne] at hdx
    refine ⟨rfl, dx, [(g, v), (f, u)], by rw [upd_ne (Ne.symm ne)]; exact upd_same, upd_same, hdx, ?_⟩
    have eH : upd (del (upd (upd (upd (upd H1 ad (exo ad C none)) dx (exd dx [(f, u)])) ad (exo ad C (some dx))) dx (exd dx [(g, v), (f, u)])) ad) dx (.xd [(g, v), (f, u)]) = upd H1 dx (.xd [(g, v), (f, u)]) := by
      funext b
      by_cases hb : b = dx
      · rw [hb, upd_same, upd_same]
      · rw [upd_ne hb, upd_ne hb]
        by_cases hb2 : b = ad
        · rw [hb2, del_same, hna]
        · rw [del_ne hb2, upd_ne hb, upd_ne hb2, upd_ne hb, upd_ne hb2]
    rw [eH]
    have e2 : Ext m1 H1 m1 (upd H1 dx (.xd [(g, v), (f, u)])) := .laid hdx _
    exact q m1 σ _ _ _ (e1.trans e2) (h1.laid hdx _) ((hρ.ext e1).ext e2) ⟨⟨C, ctK_of c1, rfl⟩, dx, _, rfl, upd_same, .cons ⟨rfl, Dv.stay dz e2.ks⟩ (.cons ⟨rfl, Dv.stay dy e2.ks⟩ .nil)⟩
end
/-! ### try -/
/-- what the clause's class says of the classes that may come -/
def HitAt (K : PySem.W.Frag) (c : Value) (hit : Str → Option Bool) : Prop := ∀ x b C, hit x = some b → PySem.W.nsIn K mainGlobals x = some (some (.ref C)) → PySem.W.exmOne K (.ref C) c = some b
def noXs : SR → SR
  | .exc _ _ _ => .bad
  | r => r
def sTry (body : DS) (hit : Str → Option Bool) (suite : DS) : DS := fun ρ μ => match body ρ μ with
  | .exc x ρ1 μ1 => match hit x.cls with
    | some true => noXs (suite ρ1 μ1)
    | some false => .exc x ρ1 μ1
    | none => .bad
  | r => r
theorem gs_noXs {K : PySem.W.Frag} {ct : Ct} {Z Z' : WX} {D : Ends} {m : Ms} {H : Hp} {r : SR} (g : Gs K ct Z D m H (noXs r)) : Gs K ct Z' D m H r := by
  cases r <;> first | exact g | exact g.elim
section
variable {X : Cx} {Z : WX} {x : Str} {c : Value} {body suite : List Stmt} {b₀ : Stmt} {np pos pos' : Pos}
theorem msTry {hit : Str → Option Bool} {db ds : DS} (tk : Takes X Z) (hc : Names X x c) (hh : HitAt X.K c hit)
    (hb : ∀ (W : WX) (pn : List (Addr × Obj)) (xe : Value → Shared → Prop), Takes (X.tr pn xe) W → PassesOwn (model X.prog X.w) X.A X.env xe → MSs (X.tr pn xe) (ctK X.K) W body db)
    (hsu : ∀ (a : Addr) (oe : Obj) (pn : List (Addr × Obj)), MSs (X.suite a ((a, oe) :: pn)) (ctK X.K) ZF (b₀ :: suite) ds) (hs : X.stack = X.env :: X.outer := by rfl) (hf : X.env.frame = some X.env.locals := by rfl) :
    MS X (ctK X.K) Z (.Try body [.ExceptHandler (some (.Name x np)) none (b₀ :: suite) pos'] [] [] pos) (sTry db hit ds) := by
  refine ⟨ps_imp (ps_try_only (ts := fun _ _ _ => tS X.K (ctK X.K) ZF ds) (tb := fun W => tS X.K (ctK X.K) W db) hs hf hc tk (fun W pn xe t p => (hb W pn xe t p).pss) fun a oe cls d pn _ _ => (hsu a oe pn).pss) fun D σ H h => ?_⟩
  obtain ⟨m, ρ, μ, he, hr, g⟩ := h
  refine ⟨m, ρ, μ, he, hr, ?_⟩
  unfold sTry at g
  cases q : db ρ μ with
  | exc y ρ1 μ1 =>
    rw [q] at g
    dsimp only at g
    intro m1 σ1 H1 cls d e1 h1 r1 xr
    obtain ⟨C, hC, rfl⟩ := xr.cls
    cases hy : hit y.cls with
    | none => rw [hy] at g; exact g.elim
    | some b =>
      rw [hy] at g
      refine ⟨b, hh _ b C hy (of_ctK hC), fun hb a _ => ?_, fun hb => ?_⟩
      · subst hb
        exact ⟨m1, ρ1, μ1, r1, h1, (gs_noXs g).ext e1⟩
      · subst hb
        exact g m1 σ1 H1 _ d e1 h1 r1 xr
  | nx => rw [q] at g; exact g
  | rt => rw [q] at g; exact g
  | bk => rw [q] at g; exact g
  | ct => rw [q] at g; exact g
  | bad => rw [q] at g; exact g
end
end Mok09

set_option autoImplicit false
namespace Mok09
open PySem PySem.Spec PyProof.Rows L2
/-! ### what is asked of the classes of exceptions, as tests -/
def oexB (K : PySem.W.Frag) (C : Addr) : Bool := match K.lookup C with
  | some ⟨.type "type", _, .cls cd, sl⟩ => (match cd.mro, sl.toList with
    | .ref C' :: bm, [_, _, _, _, some (.builtin n), _] => C' == C && n == "ValueError.__new__" && !cd.hasDel && cd.hasDict && PySem.HandSPX.refsVE bm
    | _, _ => false)
  | _ => false
theorem oexB_ok {K : PySem.W.Frag} {C : Addr} (q : oexB K C = true) (sa : PySem.W.findIn K (.ref C) "__setattr__" = some (some (.builtin "object.__setattr__"))) (exC : PySem.W.subIn K (.ref C) (.type "BaseException") = some true)
    (tyC : PySem.W.typeIn K (.ref C) = some (.type "type")) (kC : PySem.W.keepIn K (.ref C) = true) : OexC K C := by
  refine ⟨?_, sa, exC, tyC, kC⟩
  unfold oexB at q
  split at q
  · rename_i dd cd sl ho
    split at q
    · rename_i C' bm k0 k1 k2 k3 n k5 hm hs
      simp only [Bool.and_eq_true, beq_iff_eq, Bool.not_eq_true'] at q
      obtain ⟨⟨⟨⟨rfl, rfl⟩, hdel⟩, hdct⟩, ht⟩ := q
      obtain ⟨nm, bs, mro, ns, qn, hd, sn, sub, ab, col, del⟩ := cd
      dsimp only at hm hdel hdct
      subst hm hdel hdct
      have hsl : sl = #[k0, k1, k2, k3, some (.builtin "ValueError.__new__"), k5] := by
        obtain ⟨l⟩ := sl
        simp only at hs
        rw [hs]
      subst hsl
      exact ⟨nm, qn, ns, bs, bm, sn, sub, ab, col, dd, k0, k1, k2, k3, k5, ho, ht⟩
    · cases q
  · cases q
section
variable {K : PySem.W.Frag} {mg : Str → Option Value} {x qual : Str} {st : Stmt} {ps fs : List Str}
theorem xc_mk {h : Heap} {C f : Addr} {oc kV doc pm cdv ctv : Value} {od an : Option Addr} {osl : Array (Option Value)} (KX : K.In h) (G : h.Ns mainGlobals mg) (a : PySem.W.nsIn K mainGlobals x = some (some (.ref C))) (q : oexB K C = true)
    (sa : PySem.W.findIn K (.ref C) "__setattr__" = some (some (.builtin "object.__setattr__"))) (exC : PySem.W.subIn K (.ref C) (.type "BaseException") = some true) (tyC : PySem.W.typeIn K (.ref C) = some (.type "type")) (kC : PySem.W.keepIn K (.ref C) = true)
    (b : PySem.W.findIn K (.ref C) "__init__" = some (some (.ref f))) (ti : PySem.W.typeIn K (.ref f) = some (.type "function"))
    (l : K.lookup f = some ⟨oc, od, .func (PySem.W.fnOf "__init__" qual (C8.fnArgs st) (C8.fnBody st) (C8.fnScope st) .none kV doc pm an cdv ctv), osl⟩) (c : PySem.W.codeIn K cdv qual = true)
    (ga : PySem.W.findIn K (.ref C) "__getattribute__" = some (some (.builtin "BaseException.__getattribute__"))) (gg : PySem.W.findIn K (.ref C) "__getattr__" = some none) (hd : PySem.W.hasDictIn K C = true)
    (n : ∀ g ∈ fs, PySem.W.findIn K (.ref C) g = some none)
    (hb : ∀ (kV doc pm : Value) (an : Option Addr) (cdv ct : Value) (us : List Value), us.length = ps.length → bindArgs (PySem.W.fnOf "__init__" qual (C8.fnArgs st) (C8.fnBody st) (C8.fnScope st) .none kV doc pm an cdv ct) ⟨us, []⟩ = pure (ps.zip us)) : XcAt K mg x qual st ps fs :=
  ⟨C, f, _, a, PySem.W.mg_of KX G a, oexB_ok q sa exC tyC kC, b, ti, ⟨oc, od, .none, kV, doc, pm, an, cdv, ctv, osl, rfl, l, c⟩, .all (hb kV doc pm an cdv ctv), ⟨ga, gg, exC, hd⟩, n⟩
end
/-- a class of the module under its name -/
def ClaAt (K : PySem.W.Frag) (mg : Str → Option Value) (y : Str) : Prop := ∃ D : Addr, PySem.W.nsIn K mainGlobals y = some (some (.ref D)) ∧ mg y = some (.ref D)
theorem cla_mk {K : PySem.W.Frag} {mg : Str → Option Value} {h : Heap} {y : Str} {D : Addr} (KX : K.In h) (G : h.Ns mainGlobals mg) (a : PySem.W.nsIn K mainGlobals y = some (some (.ref D))) : ClaAt K mg y := ⟨D, a, PySem.W.mg_of KX G a⟩
/-- whether «except y» takes an x -/
def ExmAt (K : PySem.W.Frag) (x y : Str) (b : Bool) : Prop := ∀ C D : Addr, PySem.W.nsIn K mainGlobals x = some (some (.ref C)) → PySem.W.nsIn K mainGlobals y = some (some (.ref D)) → PySem.W.exmOne K (.ref C) (.ref D) = some b
theorem exm_mk {K : PySem.W.Frag} {x y : Str} {b : Bool} {C D : Addr} (hx : PySem.W.nsIn K mainGlobals x = some (some (.ref C))) (hy : PySem.W.nsIn K mainGlobals y = some (some (.ref D))) (h : PySem.W.exmOne K (.ref C) (.ref D) = some b) : ExmAt K x y b := fun C' D' h1 h2 => by
  rw [hx] at h1
  rw [hy] at h2
  cases h1
  cases h2
  exact h
def hitL (l : List (Str × Bool)) (x : Str) : Option Bool := l.lookup x
def HitC (K : PySem.W.Frag) (y : Str) (l : List (Str × Bool)) : Prop := ∀ D : Addr, PySem.W.nsIn K mainGlobals y = some (some (.ref D)) → HitAt K (.ref D) (hitL l)
theorem hit_nil {K : PySem.W.Frag} {y : Str} : HitC K y [] := fun D _ x b C h => by cases h
theorem hit_cons {K : PySem.W.Frag} {x y : Str} {b : Bool} {l : List (Str × Bool)} (h : ExmAt K x y b) (t : HitC K y l) : HitC K y ((x, b) :: l) := fun D hD z c C hz hC => by
  unfold hitL at hz
  rw [List.lookup_cons] at hz
  split at hz
  · rename_i e
    cases hz
    rw [beq_iff_eq] at e
    subst e
    exact h C D hC hD
  · exact t D hD z c C hz hC
section
variable {X : Cx} {Z : WX} {y : Str} {body suite : List Stmt} {b₀ : Stmt} {np pos pos' : Pos}
theorem msTry1 {l : List (Str × Bool)} {db ds : DS} (tk : Takes X Z) (hc : ClaAt X.K X.mg y) (hh : HitC X.K y l)
    (hb : ∀ (W : WX) (pn : List (Addr × Obj)) (xe : Value → Shared → Prop), Takes (X.tr pn xe) W → PassesOwn (model X.prog X.w) X.A X.env xe → MSs (X.tr pn xe) (ctK X.K) W body db)
    (hsu : ∀ (a : Addr) (oe : Obj) (pn : List (Addr × Obj)), MSs (X.suite a ((a, oe) :: pn)) (ctK X.K) ZF (b₀ :: suite) ds) (hg : Gl X y := by rfl) (hdb : (y == ("__debug__" : Str)) = false := by decide) (hs : X.stack = X.env :: X.outer := by rfl) (hf : X.env.frame = some X.env.locals := by rfl) :
    MS X (ctK X.K) Z (.Try body [.ExceptHandler (some (.Name y np)) none (b₀ :: suite) pos'] [] [] pos) (sTry db (hitL l) ds) := by
  obtain ⟨D, h1, h2⟩ := hc
  exact msTry tk ⟨hg, hdb, .inl h2⟩ (hh D h1) hb hsu hs hf
end
/-! ### what they come to -/
section
variable {ρ ρ1 : Env} {μ μ1 : Mem} {x : Xc}
theorem sTry_exc {body suite : DS} {hit : Str → Option Bool} (h : body ρ μ = .exc x ρ1 μ1) (hh : hit x.cls = some true) : sTry body hit suite ρ μ = noXs (suite ρ1 μ1) := by
  unfold sTry
  rw [h]
  dsimp only
  rw [hh]
theorem sTry_nx {body suite : DS} {hit : Str → Option Bool} (h : body ρ μ = .nx ρ1 μ1) : sTry body hit suite ρ μ = .nx ρ1 μ1 := by
  unfold sTry
  rw [h]
theorem oks_noXs {r : SR} {N B C : Env → Mem → Prop} {R : W → Mem → Prop} : Oks (noXs r) N R B C = Oks r N R B C := by
  cases r <;> rfl
end
theorem walkX {l : PySem.W.OpenLaw} {q : Program} {loose : List Str} {XP : (Str → Option Value) → Heap → Prop} {YP : World → Heap → Prop} {d : DefRec} {K : Params → PySem.W.Frag} {k : Nat} {F : Fn} {nm p : Str} (hn : l.most = some 63) (hdf : d.params.defaults = [])
    (hY : ∀ (w : World) (h : Heap), YP w h → (K w.params).In h) (hk : k ≤ 230) (hnm : d.name = nm)
    (C : ∀ (w : World) (mg : Str → Option Value) (h base : Heap), (K w.params).In h → h.Ns mainGlobals mg → CalP l.prog w (K w.params) mg base (ctK (K w.params)) k nm [p] F)
    (hF : ∀ ns : List Int, ns.length ≤ 63 → ∃ μ, F [.s ns] [] = .ok (.d (.bool true)) μ) :
    PySem.W.WalkO q loose XP YP l.row.toRowW d [] (fun f vs => PySem.call f vs) := by
  refine Att.attach_call hn hdf fun w s₀ s₁ mg mb fa o pm cd doc a vs ns G Y ho hd hcd hmg hobj hints hlen hg => ?_
  have KX := hY w _ Y
  refine call_here KX G.T.g G.T.b G.T.builtins G.T.nolimit hg hobj hints (Nat.le_trans hlen (by decide)) fun base H kb nb e0 hS => ?_
  obtain ⟨f, fd, G1, h2, h3⟩ := C w mg _ base KX G.T.g
  rw [hnm] at hmg
  have e := hmg.symm.trans h2
  cases e
  obtain ⟨μ, hr⟩ := hF ns hlen
  have hb := h3 s₁ [.ref a] KX rfl
  refine G1.run callerA [] s₁ H ⟨[.ref a], []⟩ [.ref a] [.ref a] _ _ ⟨[], []⟩ [] [.s ns] ⟨rfl, by show 1 + claimMargin + 3 * k + 5 < recursionLimit; simp only [claimMargin, recursionLimit]; omega, by show 4 + 16 * k + 200 < cLine; simp only [cLine]; omega⟩ rfl e0 hb (.cons rfl .nil) (.cons ⟨a, rfl, ?_⟩ .nil) ⟨List.nodup_nil, rfl, fun b hb => (by cases hb), fun n p o h1 _ => (by simp at h1)⟩ ?_
  · exact hS
  · rw [hr]
    intro m' H' e h' v r
    cases r
    rfl
end Mok09

set_option autoImplicit false
namespace Mok09
open PySem PySem.Spec PyProof.Rows L2
/-! ### letters put -/
abbrev Puts := List (Str × Sg)
def putD1 (p : Str × Sg) : PyData := .tuple [.str p.1, p.2.d]
def putsD (ps : Puts) : PyData := .tuple (ps.map putD1)
mutual
def put (ps : Puts) : Sg → Sg
  | .lt x => (ps.lookup x).getD (.lt x)
  | .no s => .no (put ps s)
  | .many w l => .many w (putl ps l)
  | .so a b => .so (put ps a) (put ps b)
  | .tl a b => .tl (put ps a) (put ps b)
  | .mod w h s => .mod w h (put ps s)
def putl (ps : Puts) : List Sg → List Sg
  | [] => []
  | s :: r => put ps s :: putl ps r
end
theorem putl_map (ps : Puts) : ∀ l, putl ps l = l.map (put ps)
  | [] => rfl
  | s :: r => by rw [putl, putl_map ps r]; rfl
theorem put_loop {x : Str} (hx : PyData.strOk x = true) {b : DS} {all : List PyData} {s : Sg} {pd : PyData} {R : W → Mem → Prop} {N B C : Env → Mem → Prop} {μ : Mem} (hs : s = .lt x)
    (hb : b = sIf (dTb (dP2 (opEq false) (dV 2) (dP2 opIxA (dV 0) (dC (.int 1))))) (sRet (dV 3)) sNext) :
    ∀ (ps : Puts) (u v : Option W), (∀ p ∈ ps, PyData.strOk p.1 = true) → (∀ o, ps.lookup x = some o → R (.d o.d) μ) → (ps.lookup x = none → ∀ u v, N [some (.d s.d), some (.d pd), u, v, none] μ) →
      Oks (forL (all, none) (gT 2 (gCons' (gN 2) (gCons' (gN 3) gNil'))) b (ps.map putD1) [some (.d s.d), some (.d pd), u, v, none] μ) N R B C := by
  subst hs hb
  intro ps
  induction ps with
  | nil =>
    intro u v _ _ h
    rw [List.map_nil, forL_none]
    exact h rfl u v
  | cons p ps ih =>
    intro u v hk h1 h2
    rw [List.map_cons, forL_cons]
    have hp := hk p (by simp)
    simp [putD1, gT, gCons', gN, gNil', Sg.d, hp, hx]
    by_cases e : p.1 = x
    · simp [e]
      exact h1 p.2 (by obtain ⟨a, c⟩ := p; subst e; simp [List.lookup])
    · simp [e]
      have el : (p :: ps).lookup x = ps.lookup x := by
        obtain ⟨a, c⟩ := p
        have : (x == a) = false := beq_eq_false_iff_ne.mpr fun z => e z.symm
        simp [List.lookup, this]
      rw [el] at h1 h2
      exact ih _ _ (fun q hq => hk q (List.mem_cons_of_mem _ hq)) h1 h2
theorem w_ne {s : Sg} (h : ∀ x, s ≠ .lt x) : ¬ s.w = Str.ofString "letter" := by
  cases s with
  | lt x => exact (h x rfl).elim
  | many w l => simp only [Sg.w]; clear h; revert w; decide
  | mod w x s => simp only [Sg.w]; clear h; revert w; decide
  | _ => simp only [Sg.w]; decide
theorem put_ok (ps : Puts) (hk : ∀ p ∈ ps, PyData.strOk p.1 = true) : ∀ (n : Nat) (s : Sg), s.ht < n → s.sok → Ok (F_letters_put n [.d s.d, .d (putsD ps)] []) fun w _ => w = .d (put ps s).d := by
  intro n
  induction n with
  | zero => intro s h; omega
  | succ n ih =>
    intro s hn hs
    have each : ∀ x ∈ s.inn, callF (F_letters_put n) [.d x.d, .d (putsD ps)] [] = .ok (.d (put ps x).d) [] := fun x hx => call_pure rfl (ih x (by have := inn_ht hx; omega) (inn_sok hx hs))
    have wi := with_eq s (s.inn.map (put ps)) (by simp)
    have hz := inn_len hs
    cases s with
    | lt x =>
      simp (config := { decide := true }) [F_letters_put, B_letters_put, Sg.w, putsD]
      refine put_loop (Sw.ok hs) rfl rfl ps none none hk (fun o ho => by simp [put, ho]) (fun hn u v => by simp [put, hn])
    | _ =>
      simp [F_letters_put, B_letters_put, inner_eq, ok_dLc]
      rw [if_neg (w_ne (fun x h => by cases h))]
      refine each_inner (f := put ps) hz (fun x hx => ?_) ?_
      · simp [wipeE, dCall, dCons, dNil, dV, each x hx]
      refine ⟨by simpa [ds_map] using hz, ?_⟩
      simp only [wi]
      simp [Sg.wi, put, putl_map, Sg.inn]
end Mok09

set_option autoImplicit false
namespace Mok09
open PySem PySem.Spec PyProof.Rows L2
/-! ### xs[::-1] of a list -/
def opRevL : Op
  | [.d (.list xs)], μ => mkL false xs.reverse μ
  | _, _ => none
theorem mRevL {X : Cx} {ct : Ct} {Z : WX} {e : Expr} {k : Nat} {p1 p2 p3 pos : Pos} {da : DE} (ha : ME X ct Z e da) : ME X ct Z (.Subscript e (.Slice none none (some (.UnaryOp .USub (.Constant (.int 1) k p1) p2)) p3) pos) (dP1 opRevL da) := by
  refine ⟨pe_imp (pe_revL ha.pe) fun σ H Q h => ?_⟩
  obtain ⟨m, ρ, μ, hρ, hh, g⟩ := h
  refine ⟨m, ρ, μ, hρ, hh, (Gd.bnd g).mono fun w μ1 m1 H1 e1 h1 g1 v r1 => ?_⟩
  cases w with
  | r _ => exact g1.elim
  | s _ => exact g1.elim
  | d d =>
    cases r1 with
    | @lst a vs xs hs hd =>
      have g2 : Gd X.K ct Z m1 σ H1 (ofO (mkL false xs.reverse μ1)) (PV X.K Q) := g1
      refine ⟨a, vs, rfl, hs.sq, fun p hp => (lst_new (own := false) h1 hd.rev ?_ hp).2⟩
      unfold GdO
      cases q : mkL false xs.reverse μ1 with
      | none => rw [q] at g2; exact g2
      | some p => rw [q] at g2; exact fun m' H' v e' h' r' => g2 m' H' e' h' v r'
    | _ => exact g1.elim
theorem okO_revl {xs : List PyData} {μ : Mem} {Pw : W → Mem → Prop} : OkO (opRevL [.d (.list xs)] μ) Pw = (xs.length ≤ sizeLine ∧ Pw (.d (.list xs.reverse)) μ) := by
  by_cases h : xs.length ≤ sizeLine <;> simp [opRevL, mkL, sz, h]
end Mok09

set_option autoImplicit false
namespace Mok09
open PySem PySem.Spec PyProof.Rows L2
def topS (i : Nat) : Stmt := PySem.Challenge.pw_mustmays_k09_whole_any_parting_row.main.body.getD i (.Pass ⟨0, 0, 0, 0⟩)
structure Facts (w : World) (K : PySem.W.Frag) (mg : Str → Option Value) : Prop where
  d1 : DefAt K mg "parts_of_saying" (topS 1) ["saying"]
  d2 : DefAt K mg "inner_sayings" (topS 2) ["saying"]
  d3 : DefAt K mg "with_inner" (topS 3) ["saying", "inner"]
  d4 : DefAt K mg "every_part" (topS 4) ["saying"]
  d5 : DefAt K mg "rising" (topS 5) ["sayings"]
  i7 : IniAt K mg "TruthTable" "TruthTable.__init__" (inClass (topS 7) 0) ["self", "atoms", "columns", "many"]
  m7_1 : MthAt K "TruthTable" "where_true" "TruthTable.where_true" (inClass (topS 7) 1) ["self", "core"]
  m7_2 : MthAt K "TruthTable" "where_false" "TruthTable.where_false" (inClass (topS 7) 2) ["self", "core"]
  m7_3 : MthAt K "TruthTable" "truths_in" "TruthTable.truths_in" (inClass (topS 7) 3) ["self", "at"]
  d8 : DefAt K mg "whole_table" (topS 8) ["atoms"]
  d9 : DefAt K mg "table_of_rows" (topS 9) ["atoms", "rows"]
  d10 : DefAt K mg "joined_mask" (topS 10) ["word", "masks", "full"]
  d11 : DefAt K mg "has_bit" (topS 11) ["mask", "at"]
  d12 : DefAt K mg "first_bit" (topS 12) ["mask"]
  d13 : DefAt K mg "mask_of" (topS 13) ["places"]
  d14 : DefAt K mg "repeated" (topS 14) ["mask", "width", "many"]
  d16 : DefAt K mg "core_of" (topS 16) ["saying"]
  d17 : DefAt K mg "atoms_of" (topS 17) ["saying"]
  d18 : DefAt K mg "sort_tells" (topS 18) ["saying", "sort"]
  d19 : DefAt K mg "told_by" (topS 19) ["atoms", "truths", "core"]
  d25 : DefAt K mg "is_word" (topS 25) ["thing"]
  d26 : DefAt K mg "is_saying" (topS 26) ["thing"]
  d27 : DefAt K mg "is_built" (topS 27) ["thing", "with_told"]
  d28 : DefAt K mg "things_within" (topS 28) ["thing", "with_told"]
  d29 : DefAt K mg "things_within_pair" (topS 29) ["word", "thing"]
  d31 : DefAt K mg "outer_atoms" (topS 31) ["sayings"]
  d32 : DefAt K mg "outer_parts" (topS 32) ["core"]
  d33 : DefAt K mg "parting_row" (topS 33) ["sayings", "saying"]
  d34 : DefAt K mg "parting_mask" (topS 34) ["table", "cores", "core"]
  d36 : DefAt K mg "is_pair" (topS 36) ["thing"]
  d38 : DefAt K mg "lets_parting_row" (topS 38) ["sayings", "saying", "thing"]
  d39 : DefAt K mg "row_fault" (topS 39) ["sayings", "saying", "thing"]
  d40 : DefAt K mg "is_row_kind" (topS 40) ["thing"]
  d42 : DefAt K mg "letters_put" (topS 42) ["saying", "puts"]
  d44 : DefAt K mg "_law_feed" (topS 44) ["_law_script"]
  d45 : DefAt K mg "_law_draw" (topS 45) ["_law_feed_here", "_law_many"]
  d46 : DefAt K mg "_law_saying" (topS 46) ["_law_feed_here", "_law_left", "_law_told"]
  d47 : DefAt K mg "_law_let" (topS 47) ["_law_some", "_law_s", "_law_row"]
  d48 : DefAt K mg "_law_flat" (topS 48) ["_law_s", "_law_names"]
  d49 : DefAt K mg "_law_is_true" (topS 49) ["_law_s", "_law_row"]
  d50 : DefAt K mg "_law_truths" (topS 50) ["_law_many"]
  d51 : DefAt K mg "_law_rows_right" (topS 51) ["_law_some", "_law_s"]
  d52 : DefAt K mg "_law_parts" (topS 52) ["_law_some", "_law_s"]
  d53 : DefAt K mg "_law_ways_right" (topS 53) ["_law_some", "_law_s", "_law_more"]
  d54 : DefAt K mg "law" (topS 54) ["_law_script"]
  c7 : ClassAt K mg "TruthTable" ["atoms", "columns", "many", "full"]
  z_all : mg "all" = none
  z_bool : mg "bool" = none
  z_dict : mg "dict" = none
  z_enumerate : mg "enumerate" = none
  z_int : mg "int" = none
  z_isinstance : mg "isinstance" = none
  z_len : mg "len" = none
  z_range : mg "range" = none
  z_repr : mg "repr" = none
  z_sorted : mg "sorted" = none
  z_str : mg "str" = none
  z_tuple : mg "tuple" = none
  z_zip : mg "zip" = none
  g_MOST_SIGNS : GlobAt K mg "MOST_SIGNS" (.int 8)
  x22 : XcAt K mg "NoPaper" "NoPaper.__init__" (inClass (topS 22) 0) ["self", "word", "at"] ["word", "at"]
  k_NoPaper : ClaAt K mg "NoPaper"
  e_NoPaper_NoPaper : ExmAt K "NoPaper" "NoPaper" true
section
variable {P : Program} {w : World} {K : PySem.W.Frag} {mg : Str → Option Value} {base : Heap} 
abbrev st_NoPaper_x : Stmt := inClass (topS 22) 0
theorem sc_NoPaper_x : FnScope ["self", "word", "at"] ["self", "word", "at"] (C8.fnScope st_NoPaper_x) := ⟨rfl, rfl, rfl, by decide +kernel, rfl, by decide +kernel, by decide +kernel⟩
theorem x_NoPaper (T : Facts w K mg) : CalX P w K mg base 1 "NoPaper" ["word", "at"] (spX2 K "word" "at") := calX_of T.x22 fun f fd Fu => C8.fn0 Fu sc_NoPaper_x (fun vs H Q E h => x2_len rfl h) (fun cdv A outer s H vs Q E hr h => ⟨_, pss_cons (ps_ost (pv 0) (pv 1)) (pss_one (ps_ost (pv 0) (pv 2))), x2_run h⟩)

abbrev st_rising : Stmt := topS 5
theorem sc_rising : FnScope ["sayings", "told", "saying"] ["sayings"] (C8.fnScope st_rising) := ⟨rfl, rfl, rfl, by decide +kernel, rfl, by decide +kernel, by decide +kernel⟩
theorem c_rising (T : Facts w K mg) : CalG P w K mg base (ctK K) 1 "rising" risingF [] := calG_of (k := 0) 1 3 T.d5 sc_rising rfl rfl fun f cdv A outer s H E hr hg => by
  have nd := sc_rising.nd
  have hu := hu_room hr
  exact (msCons (msSet (i := 1) nd (mLst (own := true) mNil))
  (msCons (msFor def_owns rfl (miV (mCallB (sorted_op hu (own := false)) (mCons (mV 0) mNil) T.z_sorted)) (mgN 2 nd)
  (msOne (msIf (MW.mt (mOr (mNot (mTv (mV 1))) (mOr1 (mTcmp (op2_ne (hu4 hu)) (mIxA hu (mV 1) (mUn op1_neg mI)) (mV 2)))))
  (msOne (msExpr (mMt PySem.F.plainAttrs_list PySem.F.slot_list_append PySem.F.type_list_append append_op (mV 1) (mCons (mV 2) mNil)))) msNil)))
  (msOne (msRet (mCallT tu_op (mCons (mV 1) mNil) T.z_tuple)))))

abbrev st_inner_sayings : Stmt := topS 2
theorem sc_inner_sayings : FnScope ["saying", "word"] ["saying"] (C8.fnScope st_inner_sayings) := ⟨rfl, rfl, rfl, by decide +kernel, rfl, by decide +kernel, by decide +kernel⟩
theorem c_inner_sayings (T : Facts w K mg) : CalG P w K mg base (ctK K) 1 "inner_sayings" innerF [] := calG_of (k := 0) 1 2 T.d2 sc_inner_sayings rfl rfl fun f cdv A outer s H E hr hg => by
  have nd := sc_inner_sayings.nd
  have hu := hu_room hr
  exact (msCons (msSet (i := 1) nd (mIxA hu (mV 0) mI))
  (msCons (msIf (mTcmp (op2_eq (hu4 hu)) (mV 1) mS)
  (msOne (msRet (mTup mNil))) msNil)
  (msCons (msIf (mTcmp (op2_inA hu) (mV 1) (mTup (mCons mS (mCons mS mNil))))
  (msOne (msRet (mIxA hu (mV 0) mI))) msNil)
  (msCons (msIf (mTcmp (op2_inA hu) (mV 1) (mTup (mCons mS (mCons mS mNil))))
  (msOne (msRet (mSl (own := false) (mV 0) (moPart mI) moNo))) msNil)
  (msOne (msRet (mSl (own := false) (mV 0) (moPart mI) moNo)))))))

abbrev st_every_part : Stmt := topS 4
theorem sc_every_part : FnScope ["saying", "found", "waiting", "part"] ["saying"] (C8.fnScope st_every_part) := ⟨rfl, rfl, rfl, by decide +kernel, rfl, by decide +kernel, by decide +kernel⟩
theorem c_every_part (T : Facts w K mg) : CalG P w K mg base (ctK K) 2 "every_part" everyF [] := calG_of (k := 1) 1 4 T.d4 sc_every_part rfl rfl fun f cdv A outer s H E hr hg => by
  have nd := sc_every_part.nd
  have hu := hu_room hr
  exact (msCons (msSet (i := 1) nd (mLst (own := true) mNil))
  (msCons (msSet (i := 2) nd (mLst (own := true) (mCons (mV 0) mNil)))
  (msCons (msWhile 100000 def_owns (mTv (mV 2))
  (msCons (msSet (i := 3) nd (mMt0 PySem.F.plainAttrs_list PySem.F.slot_list_pop PySem.F.type_list_pop pop_op (mV 2)))
  (msCons (msExpr (mMt PySem.F.plainAttrs_list PySem.F.slot_list_append PySem.F.type_list_append append_op (mV 1) (mCons (mV 3) mNil)))
  (msOne (msExpr (mMt PySem.F.plainAttrs_list PySem.F.slot_list_extend PySem.F.type_list_extend extend_op (mV 2) (mCons (mCall (c_inner_sayings T) (hr.mono (by omega)) hg def_takes (mCons (mV 3) mNil)) mNil)))))))
  (msLet 1 (msOne (msRet (mV 1)))))))

abbrev st_parts_of_saying : Stmt := topS 1
theorem sc_parts_of_saying : FnScope ["saying"] ["saying"] (C8.fnScope st_parts_of_saying) := ⟨rfl, rfl, rfl, by decide +kernel, rfl, by decide +kernel, by decide +kernel⟩
theorem c_parts_of_saying (T : Facts w K mg) : CalG P w K mg base (ctK K) 3 "parts_of_saying" partsF [] := calG_of (k := 2) 1 1 T.d1 sc_parts_of_saying rfl rfl fun f cdv A outer s H E hr hg => by
  have nd := sc_parts_of_saying.nd
  have hu := hu_room hr
  exact (msOne (msRet (mCall (c_rising T) (hr.mono (by omega)) hg def_takes (mCons (mCall (c_every_part T) (hr.mono (by omega)) hg def_takes (mCons (mV 0) mNil)) mNil))))

abbrev st_with_inner : Stmt := topS 3
theorem sc_with_inner : FnScope ["saying", "inner", "word"] ["saying", "inner"] (C8.fnScope st_with_inner) := ⟨rfl, rfl, rfl, by decide +kernel, rfl, by decide +kernel, by decide +kernel⟩
theorem c_with_inner (T : Facts w K mg) : CalG P w K mg base (ctK K) 1 "with_inner" withF [] := calG_of (k := 0) 2 3 T.d3 sc_with_inner rfl rfl fun f cdv A outer s H E hr hg => by
  have nd := sc_with_inner.nd
  have hu := hu_room hr
  exact (msCons (msSet (i := 2) nd (mIxA hu (mV 0) mI))
  (msCons (msIf (mTcmp (op2_eq (hu4 hu)) (mV 2) mS)
  (msOne (msRet (mV 0))) msNil)
  (msCons (msIf (mTcmp (op2_inA hu) (mV 2) (mTup (mCons mS (mCons mS mNil))))
  (msOne (msRet (mTup (mCons (mV 2) (mCons (mV 1) mNil))))) msNil)
  (msCons (msIf (mTcmp (op2_inA hu) (mV 2) (mTup (mCons mS (mCons mS mNil))))
  (msOne (msRet (mTup (mCons (mV 2) (mCons (mIxA hu (mV 0) mI) (mStar (mV 1) mNil)))))) msNil)
  (msOne (msRet (mTup (mCons (mV 2) (mStar (mV 1) mNil)))))))))

abbrev st_TruthTable___init__ : Stmt := inClass (topS 7) 0
theorem sc_TruthTable___init__ : FnScope ["self", "atoms", "columns", "many"] ["self", "atoms", "columns", "many"] (C8.fnScope st_TruthTable___init__) := ⟨rfl, rfl, rfl, by decide +kernel, rfl, by decide +kernel, by decide +kernel⟩
theorem c_TruthTable___init__ (T : Facts w K mg) : CalI P w K mg base (ctK K) 1 "TruthTable" tinitF := calI_of (k := 0) 4 4 T.i7 sc_TruthTable___init__ rfl rfl fun f cdv A outer s H E hr hg => by
  have nd := sc_TruthTable___init__.nd
  have hu := hu_room hr
  exact (msCons (msAt T.c7 (mV 1) (mV 0))
  (msCons (msAt T.c7 (mV 2) (mV 0))
  (msCons (msAt T.c7 (mV 3) (mV 0))
  (msOne (msAt T.c7 (mBin op2_sub (mBin op2_shl mI (mV 3)) mI) (mV 0))))))

abbrev st_joined_mask : Stmt := topS 10
theorem sc_joined_mask : FnScope ["word", "masks", "full", "joined", "mask"] ["word", "masks", "full"] (C8.fnScope st_joined_mask) := ⟨rfl, rfl, rfl, by decide +kernel, rfl, by decide +kernel, by decide +kernel⟩
theorem c_joined_mask (T : Facts w K mg) : CalG P w K mg base (ctK K) 1 "joined_mask" joinF [] := calG_of (k := 0) 3 5 T.d10 sc_joined_mask rfl rfl fun f cdv A outer s H E hr hg => by
  have nd := sc_joined_mask.nd
  have hu := hu_room hr
  exact (msCons (msIf (mTcmp (op2_eq (hu4 hu)) (mV 0) mS)
  (msOne (msRet (mBin op2_xor (mV 2) (mIxA hu (mV 1) mI)))) msNil)
  (msCons (msIf (mTcmp (op2_eq (hu4 hu)) (mV 0) mS)
  (msOne (msRet (mBin op2_or (mBin op2_xor (mV 2) (mIxA hu (mV 1) mI)) (mIxA hu (mV 1) mI)))) msNil)
  (msCons (msIf (mTcmp (op2_eq (hu4 hu)) (mV 0) mS)
  (msCons (msSet (i := 3) nd (mV 2))
  (msCons (msFor def_owns rfl (miV (mV 1)) (mgN 4 nd)
  (msOne (msAug (i := 3) nd (mV 4) opi_and)))
  (msOne (msRet (mV 3))))) msNil)
  (msCons (msSet (i := 3) nd mI)
  (msCons (msFor def_owns rfl (miV (mV 1)) (mgN 4 nd)
  (msOne (msAug (i := 3) nd (mV 4) opi_or)))
  (msOne (msRet (mV 3))))))))

abbrev st_TruthTable_where_true : Stmt := inClass (topS 7) 1
theorem sc_TruthTable_where_true : FnScope ["self", "core", "masks", "part"] ["self", "core"] (C8.fnScope st_TruthTable_where_true) := ⟨rfl, rfl, rfl, by decide +kernel, rfl, by decide +kernel, by decide +kernel⟩
theorem c_TruthTable_where_true (T : Facts w K mg) : ∀ n : Nat, CalM P w K mg base (ctK K) (1 + n) "TruthTable" "where_true" (whereF n)
  | 0 => calM_bad T.m7_1
  | n + 1 => by
    have cs := c_TruthTable_where_true T n
    exact calM_of (k := 1 + n) 2 4 T.m7_1 sc_TruthTable_where_true rfl rfl fun f cdv A outer s H E hr hg => by
      have nd := sc_TruthTable_where_true.nd
      have hu := hu_room hr
      exact (msCons (msIf (mTcmp (op2_inA hu) (mIxA hu (mV 1) mI) (mTup (mCons mS (mCons mS mNil))))
      (msOne (msRet (mIxA hu (mAt T.c7 (mV 0)) (mMt PySem.F.plainAttrs_tuple PySem.F.slot_tuple_index PySem.F.type_tuple_index (index_opT hu) (mAt T.c7 (mV 0)) (mCons (mV 1) mNil))))) msNil)
      (msCons (msSetLc (i := 2) (ow := false) (own := [("part", 3)]) rfl nd (hi := (miV (mCall (c_inner_sayings T) (hr.mono (by omega)) hg def_takes (mCons (mV 1) mNil)))) (ok := (blkOk_by (N := ["self", "core", "masks", "part"]) (sc := C8.fnScope st_TruthTable_where_true) (own := [("part", 3)]) (by decide +kernel))) (hsub := by decide) (hg := fun _ _ _ _ _ => (mgN 3 nd)) (ht := fun _ _ _ _ _ => mpNil) (he := fun _ _ _ _ _ => (mMeth cs (hr.mono (by omega)) hg takesF (mV 0) (mCons (mV 3) mNil))))
      (msOne (msRet (mCall (c_joined_mask T) (hr.mono (by omega)) hg def_takes (mCons (mIxA hu (mV 1) mI) (mCons (mV 2) (mCons (mAt T.c7 (mV 0)) mNil))))))))

abbrev st_TruthTable_where_false : Stmt := inClass (topS 7) 2
theorem sc_TruthTable_where_false : FnScope ["self", "core"] ["self", "core"] (C8.fnScope st_TruthTable_where_false) := ⟨rfl, rfl, rfl, by decide +kernel, rfl, by decide +kernel, by decide +kernel⟩
theorem c_TruthTable_where_false (T : Facts w K mg) : CalM P w K mg base (ctK K) 62 "TruthTable" "where_false" whfF := calM_of (k := 61) 2 2 T.m7_2 sc_TruthTable_where_false rfl rfl fun f cdv A outer s H E hr hg => by
  have nd := sc_TruthTable_where_false.nd
  have hu := hu_room hr
  exact (msOne (msRet (mBin op2_xor (mAt T.c7 (mV 0)) (mMeth (c_TruthTable_where_true T 60) (hr.mono (by omega)) hg def_takes (mV 0) (mCons (mV 1) mNil)))))

abbrev st_has_bit : Stmt := topS 11
theorem sc_has_bit : FnScope ["mask", "at"] ["mask", "at"] (C8.fnScope st_has_bit) := ⟨rfl, rfl, rfl, by decide +kernel, rfl, by decide +kernel, by decide +kernel⟩
theorem c_has_bit (T : Facts w K mg) : CalG P w K mg base (ctK K) 1 "has_bit" hasF [] := calG_of (k := 0) 2 2 T.d11 sc_has_bit rfl rfl fun f cdv A outer s H E hr hg => by
  have nd := sc_has_bit.nd
  have hu := hu_room hr
  exact (msOne (msRet (mCallT bool_op (mCons (mBin op2_and (mBin op2_shr (mV 0) (mV 1)) mI) mNil) T.z_bool)))

abbrev st_TruthTable_truths_in : Stmt := inClass (topS 7) 3
theorem sc_TruthTable_truths_in : FnScope ["self", "at", "column"] ["self", "at"] (C8.fnScope st_TruthTable_truths_in) := ⟨rfl, rfl, rfl, by decide +kernel, rfl, by decide +kernel, by decide +kernel⟩
theorem c_TruthTable_truths_in (T : Facts w K mg) : CalM P w K mg base (ctK K) 2 "TruthTable" "truths_in" truthsF := calM_of (k := 1) 2 3 T.m7_3 sc_TruthTable_truths_in rfl rfl fun f cdv A outer s H E hr hg => by
  have nd := sc_TruthTable_truths_in.nd
  have hu := hu_room hr
  exact (msOne (msRet (mCallT tu_op (mCons (mLc (ow := false) (own := [("column", 2)]) rfl nd (miV (mAt T.c7 (mV 0))) (blkOk_by (N := ["self", "at", "column"]) (sc := C8.fnScope st_TruthTable_truths_in) (own := [("column", 2)]) (by decide +kernel)) (by decide) (fun _ _ _ _ _ => (mgN 2 nd)) (fun _ _ _ _ _ => mpNil) (fun _ _ _ _ _ => (mCall (c_has_bit T) (hr.mono (by omega)) hg takesF (mCons (mV 2) (mCons (mV 1) mNil))))) mNil) T.z_tuple)))

abbrev st_repeated : Stmt := topS 14
theorem sc_repeated : FnScope ["mask", "width", "many"] ["mask", "width", "many"] (C8.fnScope st_repeated) := ⟨rfl, rfl, rfl, by decide +kernel, rfl, by decide +kernel, by decide +kernel⟩
theorem c_repeated (T : Facts w K mg) : CalG P w K mg base (ctK K) 1 "repeated" repF [] := calG_of (k := 0) 3 3 T.d14 sc_repeated rfl rfl fun f cdv A outer s H E hr hg => by
  have nd := sc_repeated.nd
  have hu := hu_room hr
  exact (msCons (msWhile 100000 def_owns (mTcmp (op2_lt hu) (mV 1) (mV 2))
  (msCons (msAug (i := 0) nd (mBin op2_shl (mV 0) (mV 1)) opi_or)
  (msOne (msAug (i := 1) nd mI opi_mul))))
  (msOne (msRet (mV 0))))

abbrev st_whole_table : Stmt := topS 8
theorem sc_whole_table : FnScope ["atoms", "many", "columns", "run", "_"] ["atoms"] (C8.fnScope st_whole_table) := ⟨rfl, rfl, rfl, by decide +kernel, rfl, by decide +kernel, by decide +kernel⟩
theorem c_whole_table (T : Facts w K mg) : CalG P w K mg base (ctK K) 3 "whole_table" wholeF [] := calG_of (k := 2) 1 5 T.d8 sc_whole_table rfl rfl fun f cdv A outer s H E hr hg => by
  have nd := sc_whole_table.nd
  have hu := hu_room hr
  exact (msCons (msSet (i := 1) nd (mBin op2_shl mI (mCallB len_opA (mCons (mV 0) mNil) T.z_len)))
  (msCons (msSet (i := 2) nd (mLst (own := true) mNil))
  (msCons (msSet (i := 3) nd (mV 1))
  (msCons (msFor def_owns rfl (miV (mV 0)) (mgN 4 nd)
  (msCons (msSet (i := 3) nd (mBin op2_div (mV 3) mI))
  (msOne (msExpr (mMt PySem.F.plainAttrs_list PySem.F.slot_list_append PySem.F.type_list_append append_op (mV 2) (mCons (mCall (c_repeated T) (hr.mono (by omega)) hg def_takes (mCons (mBin op2_shl (mBin op2_sub (mBin op2_shl mI (mV 3)) mI) (mV 3)) (mCons (mBin (op2_mul (own := false)) mI (mV 3)) (mCons (mV 1) mNil)))) mNil))))))
  (msLet 2 (msOne (msRet (mMake (c_TruthTable___init__ T) (hr.mono (by omega)) hg (mCons (mV 0) (mCons (mV 2) (mCons (mV 1) mNil)))))))))))

abbrev st_mask_of : Stmt := topS 13
theorem sc_mask_of : FnScope ["places", "mask", "at"] ["places"] (C8.fnScope st_mask_of) := ⟨rfl, rfl, rfl, by decide +kernel, rfl, by decide +kernel, by decide +kernel⟩
theorem c_mask_of (T : Facts w K mg) : CalG P w K mg base (ctK K) 1 "mask_of" maskF [] := calG_of (k := 0) 1 3 T.d13 sc_mask_of rfl rfl fun f cdv A outer s H E hr hg => by
  have nd := sc_mask_of.nd
  have hu := hu_room hr
  exact (msCons (msSet (i := 1) nd mI)
  (msCons (msFor def_owns rfl (miV (mV 0)) (mgN 2 nd)
  (msOne (msAug (i := 1) nd (mBin op2_shl mI (mV 2)) opi_or)))
  (msOne (msRet (mV 1)))))

abbrev st_table_of_rows : Stmt := topS 9
theorem sc_table_of_rows : FnScope ["atoms", "rows", "columns", "k", "at", "row"] ["atoms", "rows"] (C8.fnScope st_table_of_rows) := ⟨rfl, rfl, rfl, by decide +kernel, rfl, by decide +kernel, by decide +kernel⟩
theorem c_table_of_rows (T : Facts w K mg) : CalG P w K mg base (ctK K) 3 "table_of_rows" torF [] := calG_of (k := 2) 2 6 T.d9 sc_table_of_rows rfl rfl fun f cdv A outer s H E hr hg => by
  have nd := sc_table_of_rows.nd
  have hu := hu_room hr
  exact (msCons (msSet (i := 2) nd (mLst (own := true) mNil))
  (msCons (msFor def_owns rfl (miR1 (mCons (mCallB len_opA (mCons (mV 0) mNil) T.z_len) mNil) T.z_range) (mgN 3 nd)
  (msOne (msExpr (mMt PySem.F.plainAttrs_list PySem.F.slot_list_append PySem.F.type_list_append append_op (mV 2) (mCons (mCall (c_mask_of T) (hr.mono (by omega)) hg def_takes (mCons (mLc (ow := false) (own := [("at", 4), ("row", 5)]) rfl nd (miEn (mCons (mV 1) mNil) T.z_enumerate) (blkOk_by (N := ["atoms", "rows", "columns", "k", "at", "row"]) (sc := C8.fnScope st_table_of_rows) (own := [("at", 4), ("row", 5)]) (by decide +kernel)) (by decide) (fun _ _ _ _ _ => (mgT rfl (mgsCons (mgN 4 nd) (mgsCons (mgN 5 nd) mgsNil)))) (fun _ _ _ _ _ => (mpOne (mTv (mIxA hu (mV 5) (mV 3))))) (fun _ _ _ _ _ => (mV 4))) mNil)) mNil)))))
  (msLet 2 (msOne (msRet (mMake (c_TruthTable___init__ T) (hr.mono (by omega)) hg (mCons (mV 0) (mCons (mV 2) (mCons (mCallB len_opA (mCons (mV 1) mNil) T.z_len) mNil)))))))))

abbrev st_first_bit : Stmt := topS 12
theorem sc_first_bit : FnScope ["mask"] ["mask"] (C8.fnScope st_first_bit) := ⟨rfl, rfl, rfl, by decide +kernel, rfl, by decide +kernel, by decide +kernel⟩
theorem c_first_bit (T : Facts w K mg) : CalG P w K mg base (ctK K) 1 "first_bit" firstF [] := calG_of (k := 0) 1 1 T.d12 sc_first_bit rfl rfl fun f cdv A outer s H E hr hg => by
  have nd := sc_first_bit.nd
  have hu := hu_room hr
  exact (msOne (msRet (mBin op2_sub (mBits (mBin op2_and (mV 0) (mUn op1_neg (mV 0)))) mI)))

abbrev st_core_of : Stmt := topS 16
theorem sc_core_of : FnScope ["saying", "inner", "part"] ["saying"] (C8.fnScope st_core_of) := ⟨rfl, rfl, rfl, by decide +kernel, rfl, by decide +kernel, by decide +kernel⟩
theorem c_core_of (T : Facts w K mg) : ∀ n : Nat, CalG P w K mg base (ctK K) (1 + n) "core_of" (coreF n) []
  | 0 => calG_bad T.d16
  | n + 1 => by
    have cs := c_core_of T n
    exact calG_of (k := 1 + n) 1 3 T.d16 sc_core_of rfl rfl fun f cdv A outer s H E hr hg => by
      have nd := sc_core_of.nd
      have hu := hu_room hr
      exact (msCons (msSet (i := 1) nd (mCallT tu_op (mCons (mLc (ow := false) (own := [("part", 2)]) rfl nd (miV (mCall (c_inner_sayings T) (hr.mono (by omega)) hg def_takes (mCons (mV 0) mNil))) (blkOk_by (N := ["saying", "inner", "part"]) (sc := C8.fnScope st_core_of) (own := [("part", 2)]) (by decide +kernel)) (by decide) (fun _ _ _ _ _ => (mgN 2 nd)) (fun _ _ _ _ _ => mpNil) (fun _ _ _ _ _ => (mCall cs (hr.mono (by omega)) hg takesF (mCons (mV 2) mNil)))) mNil) T.z_tuple))
      (msCons (msIf (mTcmp (op2_eq (hu4 hu)) (mIxA hu (mV 0) mI) mS)
      (msOne (msRet (mTup (mCons mS (mCons (mTup (mCons mS (mCons (mIxA hu (mV 0) mI) (mCons (mTup (mCons mS (mCons (mIxA hu (mV 1) mI) mNil))) mNil)))) mNil))))) msNil)
      (msOne (msRet (mCall (c_with_inner T) (hr.mono (by omega)) hg def_takes (mCons (mV 0) (mCons (mV 1) mNil)))))))

abbrev st_atoms_of : Stmt := topS 17
theorem sc_atoms_of : FnScope ["saying", "part"] ["saying"] (C8.fnScope st_atoms_of) := ⟨rfl, rfl, rfl, by decide +kernel, rfl, by decide +kernel, by decide +kernel⟩
theorem c_atoms_of (T : Facts w K mg) : CalG P w K mg base (ctK K) 16 "atoms_of" (atomsF 14) [] := calG_of (k := 15) 1 2 T.d17 sc_atoms_of rfl rfl fun f cdv A outer s H E hr hg => by
  have nd := sc_atoms_of.nd
  have hu := hu_room hr
  exact (msOne (msRet (mCallT tu_op (mCons (mLc (ow := false) (own := [("part", 1)]) rfl nd (miV (mCall (c_parts_of_saying T) (hr.mono (by omega)) hg def_takes (mCons (mCall (c_core_of T 14) (hr.mono (by omega)) hg def_takes (mCons (mV 0) mNil)) mNil))) (blkOk_by (N := ["saying", "part"]) (sc := C8.fnScope st_atoms_of) (own := [("part", 1)]) (by decide +kernel)) (by decide) (fun _ _ _ _ _ => (mgN 1 nd)) (fun _ _ _ _ _ => (mpOne (mTcmp (op2_inA hu) (mIxA hu (mV 1) mI) (mTup (mCons mS (mCons mS mNil)))))) (fun _ _ _ _ _ => (mV 1))) mNil) T.z_tuple)))

abbrev st_told_by : Stmt := topS 19
theorem sc_told_by : FnScope ["atoms", "truths", "core"] ["atoms", "truths", "core"] (C8.fnScope st_told_by) := ⟨rfl, rfl, rfl, by decide +kernel, rfl, by decide +kernel, by decide +kernel⟩
theorem c_told_by (T : Facts w K mg) : CalG P w K mg base (ctK K) 62 "told_by" toldByF [] := calG_of (k := 61) 3 3 T.d19 sc_told_by rfl rfl fun f cdv A outer s H E hr hg => by
  have nd := sc_told_by.nd
  have hu := hu_room hr
  exact (msOne (msRet (mCmp (op2_eq (hu4 hu)) (mMeth (c_TruthTable_where_true T 40) (hr.mono (by omega)) hg def_takes (mCall (c_table_of_rows T) (hr.mono (by omega)) hg def_takes (mCons (mV 0) (mCons (mLst (own := false) (mCons (mV 1) mNil)) mNil))) (mCons (mV 2) mNil)) mI)))

abbrev st_sort_tells : Stmt := topS 18
theorem sc_sort_tells : FnScope ["saying", "sort"] ["saying", "sort"] (C8.fnScope st_sort_tells) := ⟨rfl, rfl, rfl, by decide +kernel, rfl, by decide +kernel, by decide +kernel⟩
theorem c_sort_tells (T : Facts w K mg) : CalG P w K mg base (ctK K) 63 "sort_tells" (sortTellsF 14) [] := calG_of (k := 62) 2 2 T.d18 sc_sort_tells rfl rfl fun f cdv A outer s H E hr hg => by
  have nd := sc_sort_tells.nd
  have hu := hu_room hr
  exact (msOne (msRet (mCall (c_told_by T) (hr.mono (by omega)) hg def_takes (mCons (mCall (c_atoms_of T) (hr.mono (by omega)) hg def_takes (mCons (mV 0) mNil)) (mCons (mV 1) (mCons (mCall (c_core_of T 14) (hr.mono (by omega)) hg def_takes (mCons (mV 0) mNil)) mNil))))))

abbrev st_is_word : Stmt := topS 25
theorem sc_is_word : FnScope ["thing", "sign"] ["thing"] (C8.fnScope st_is_word) := ⟨rfl, rfl, rfl, by decide +kernel, rfl, by decide +kernel, by decide +kernel⟩
theorem c_is_word (T : Facts w K mg) : CalG P w K mg base (ctK K) 1 "is_word" F_is_word [] := calG_of (k := 0) 1 2 T.d25 sc_is_word rfl rfl fun f cdv A outer s H E hr hg => by
  have nd := sc_is_word.nd
  have hu := hu_room hr
  exact (msCons (msIf (MW.mt (mOr (mNot (mTv (mIsi (mV 0) T.z_isinstance T.z_str))) (mOr1 (mNot (mTchain op2_leT op2_leT mI (mCallB len_opA (mCons (mV 0) mNil) T.z_len) (mG T.g_MOST_SIGNS))))))
  (msOne (msRet mB)) msNil)
  (msOne (msRet (mCallB (all_op rfl) (mCons (mLc (ow := false) (own := [("sign", 1)]) rfl nd (miVs (mV 0)) (blkOk_by (N := ["thing", "sign"]) (sc := C8.fnScope st_is_word) (own := [("sign", 1)]) (by decide +kernel)) (by decide) (fun _ _ _ _ _ => (mgN 1 nd)) (fun _ _ _ _ _ => mpNil) (fun _ _ _ _ _ => (mChain op2_leT op2_leT mS (mV 1) mS))) mNil) T.z_all))))

abbrev st_things_within_pair : Stmt := topS 29
theorem sc_things_within_pair : FnScope ["word", "thing"] ["word", "thing"] (C8.fnScope st_things_within_pair) := ⟨rfl, rfl, rfl, by decide +kernel, rfl, by decide +kernel, by decide +kernel⟩
theorem c_things_within_pair (T : Facts w K mg) : CalG P w K mg base (ctK K) 2 "things_within_pair" F_things_within_pair [] := calG_of (k := 1) 2 2 T.d29 sc_things_within_pair rfl rfl fun f cdv A outer s H E hr hg => by
  have nd := sc_things_within_pair.nd
  have hu := hu_room hr
  exact (msCons (msIf (MW.mt (mAnd (mTcmp (op2_eq (hu4 hu)) (mV 0) mS) (mAnd1 (mTv (mCall (c_is_word T) (hr.mono (by omega)) hg def_takes (mCons (mV 1) mNil))))))
  (msOne (msRet (mTup mNil))) msNil)
  (msCons (msIf (mTcmp (op2_eq (hu4 hu)) (mV 0) mS)
  (msOne (msRet (mTup (mCons (mV 1) mNil)))) msNil)
  (msCons (msIf (MW.mt (mAnd (mTcmp (op2_inA hu) (mV 0) (mTup (mCons mS (mCons mS mNil)))) (mAnd1 (mTv (mIsi (mV 1) T.z_isinstance T.z_tuple)))))
  (msOne (msRet (mV 1))) msNil)
  (msOne (msRet mN)))))

abbrev st_things_within : Stmt := topS 28
theorem sc_things_within : FnScope ["thing", "with_told", "word"] ["thing", "with_told"] (C8.fnScope st_things_within) := ⟨rfl, rfl, rfl, by decide +kernel, rfl, by decide +kernel, by decide +kernel⟩
theorem c_things_within (T : Facts w K mg) : CalG P w K mg base (ctK K) 3 "things_within" F_things_within [] := calG_of (k := 2) 2 3 T.d28 sc_things_within rfl rfl fun f cdv A outer s H E hr hg => by
  have nd := sc_things_within.nd
  have hu := hu_room hr
  exact (msCons (msIf (MW.mt (mOr (mNot (mTv (mIsi (mV 0) T.z_isinstance T.z_tuple))) (mOr1 (mTcmp (op2_notinA hu) (mCallB len_opA (mCons (mV 0) mNil) T.z_len) (mTup (mCons mI (mCons mI mNil)))))))
  (msOne (msRet mN)) msNil)
  (msCons (msSet (i := 2) nd (mIxA hu (mV 0) mI))
  (msCons (msIf (mTcmp (op2_eq (hu4 hu)) (mCallB len_opA (mCons (mV 0) mNil) T.z_len) mI)
  (msOne (msRet (mCall (c_things_within_pair T) (hr.mono (by omega)) hg def_takes (mCons (mV 2) (mCons (mIxA hu (mV 0) mI) mNil))))) msNil)
  (msCons (msIf (MW.mt (mOr (mTcmp (op2_eq (hu4 hu)) (mV 2) mS) (mOr1 (MW.mt (mAnd (mTcmp (op2_eq (hu4 hu)) (mV 2) mS) (mAnd1 (mTv (mV 1))))))))
  (msOne (msRet (mSl (own := false) (mV 0) (moPart mI) moNo))) msNil)
  (msCons (msIf (MW.mt (mAnd (mTcmp (op2_inA hu) (mV 2) (mTup (mCons mS (mCons mS mNil)))) (mAnd1 (mTv (mCall (c_is_word T) (hr.mono (by omega)) hg def_takes (mCons (mIxA hu (mV 0) mI) mNil))))))
  (msOne (msRet (mSl (own := false) (mV 0) (moPart mI) moNo))) msNil)
  (msOne (msRet mN)))))))

abbrev st_is_built : Stmt := topS 27
theorem sc_is_built : FnScope ["thing", "with_told", "waiting", "within"] ["thing", "with_told"] (C8.fnScope st_is_built) := ⟨rfl, rfl, rfl, by decide +kernel, rfl, by decide +kernel, by decide +kernel⟩
theorem c_is_built (T : Facts w K mg) : CalG P w K mg base (ctK K) 4 "is_built" F_is_built [] := calG_of (k := 3) 2 4 T.d27 sc_is_built rfl rfl fun f cdv A outer s H E hr hg => by
  have nd := sc_is_built.nd
  have hu := hu_room hr
  exact (msCons (msSet (i := 2) nd (mLst (own := true) (mCons (mV 0) mNil)))
  (msCons (msWhile 100000 def_owns (mTv (mV 2))
  (msCons (msSet (i := 3) nd (mCall (c_things_within T) (hr.mono (by omega)) hg def_takes (mCons (mMt0 PySem.F.plainAttrs_list PySem.F.slot_list_pop PySem.F.type_list_pop pop_op (mV 2)) (mCons (mV 1) mNil))))
  (msCons (msIf (mTcmp op2_is (mV 3) mN)
  (msOne (msRet mB)) msNil)
  (msOne (msExpr (mMt PySem.F.plainAttrs_list PySem.F.slot_list_extend PySem.F.type_list_extend extend_op (mV 2) (mCons (mV 3) mNil)))))))
  (msOne (msRet mB))))

abbrev st_is_saying : Stmt := topS 26
theorem sc_is_saying : FnScope ["thing"] ["thing"] (C8.fnScope st_is_saying) := ⟨rfl, rfl, rfl, by decide +kernel, rfl, by decide +kernel, by decide +kernel⟩
theorem c_is_saying (T : Facts w K mg) : CalG P w K mg base (ctK K) 5 "is_saying" F_is_saying [] := calG_of (k := 4) 1 1 T.d26 sc_is_saying rfl rfl fun f cdv A outer s H E hr hg => by
  have nd := sc_is_saying.nd
  have hu := hu_room hr
  exact (msOne (msRet (mCall (c_is_built T) (hr.mono (by omega)) hg def_takes (mCons (mV 0) (mCons mB mNil)))))

abbrev st_outer_parts : Stmt := topS 32
theorem sc_outer_parts : FnScope ["core", "found", "waiting", "part"] ["core"] (C8.fnScope st_outer_parts) := ⟨rfl, rfl, rfl, by decide +kernel, rfl, by decide +kernel, by decide +kernel⟩
theorem c_outer_parts (T : Facts w K mg) : CalG P w K mg base (ctK K) 2 "outer_parts" opartsF [] := calG_of (k := 1) 1 4 T.d32 sc_outer_parts rfl rfl fun f cdv A outer s H E hr hg => by
  have nd := sc_outer_parts.nd
  have hu := hu_room hr
  exact (msCons (msSet (i := 1) nd (mLst (own := true) mNil))
  (msCons (msSet (i := 2) nd (mLst (own := true) (mCons (mV 0) mNil)))
  (msCons (msWhile 100000 def_owns (mTv (mV 2))
  (msCons (msSet (i := 3) nd (mMt0 PySem.F.plainAttrs_list PySem.F.slot_list_pop PySem.F.type_list_pop pop_op (mV 2)))
  (msOne (msIf (mTcmp (op2_inA hu) (mIxA hu (mV 3) mI) (mTup (mCons mS (mCons mS mNil))))
  (msOne (msExpr (mMt PySem.F.plainAttrs_list PySem.F.slot_list_append PySem.F.type_list_append append_op (mV 1) (mCons (mV 3) mNil)))) (msOne (msExpr (mMt PySem.F.plainAttrs_list PySem.F.slot_list_extend PySem.F.type_list_extend extend_op (mV 2) (mCons (mCall (c_inner_sayings T) (hr.mono (by omega)) hg def_takes (mCons (mV 3) mNil)) mNil))))))))
  (msLet 1 (msOne (msRet (mV 1)))))))

abbrev st_outer_atoms : Stmt := topS 31
theorem sc_outer_atoms : FnScope ["sayings", "found", "saying"] ["sayings"] (C8.fnScope st_outer_atoms) := ⟨rfl, rfl, rfl, by decide +kernel, rfl, by decide +kernel, by decide +kernel⟩
theorem c_outer_atoms (T : Facts w K mg) : CalG P w K mg base (ctK K) 16 "outer_atoms" (oatomsF 14) [] := calG_of (k := 15) 1 3 T.d31 sc_outer_atoms rfl rfl fun f cdv A outer s H E hr hg => by
  have nd := sc_outer_atoms.nd
  have hu := hu_room hr
  exact (msCons (msSet (i := 1) nd (mLst (own := true) mNil))
  (msCons (msFor def_owns rfl (miV (mV 0)) (mgN 2 nd)
  (msOne (msExpr (mMt PySem.F.plainAttrs_list PySem.F.slot_list_extend PySem.F.type_list_extend extend_op (mV 1) (mCons (mCall (c_outer_parts T) (hr.mono (by omega)) hg def_takes (mCons (mCall (c_core_of T 14) (hr.mono (by omega)) hg def_takes (mCons (mV 2) mNil)) mNil)) mNil)))))
  (msLet 1 (msOne (msRet (mCall (c_rising T) (hr.mono (by omega)) hg def_takes (mCons (mV 1) mNil)))))))

abbrev st_parting_mask : Stmt := topS 34
theorem sc_parting_mask : FnScope ["table", "cores", "core", "parting", "one"] ["table", "cores", "core"] (C8.fnScope st_parting_mask) := ⟨rfl, rfl, rfl, by decide +kernel, rfl, by decide +kernel, by decide +kernel⟩
theorem c_parting_mask (T : Facts w K mg) : CalG P w K mg base (ctK K) 63 "parting_mask" pmaskF [] := calG_of (k := 62) 3 5 T.d34 sc_parting_mask rfl rfl fun f cdv A outer s H E hr hg => by
  have nd := sc_parting_mask.nd
  have hu := hu_room hr
  exact (msCons (msSet (i := 3) nd (mMeth (c_TruthTable_where_false T) (hr.mono (by omega)) hg def_takes (mV 0) (mCons (mV 2) mNil)))
  (msCons (msFor def_owns rfl (miV (mV 1)) (mgN 4 nd)
  (msCons (msIf (mTcmp (op2_eq (hu4 hu)) (mV 3) mI)
  (msOne msBreak) msNil)
  (msOne (msAug (i := 3) nd (mMeth (c_TruthTable_where_true T 60) (hr.mono (by omega)) hg def_takes (mV 0) (mCons (mV 4) mNil)) opi_and))))
  (msOne (msRet (mV 3)))))

abbrev st_parting_row : Stmt := topS 33
theorem sc_parting_row : FnScope ["sayings", "saying", "atoms", "table", "parting", "one"] ["sayings", "saying"] (C8.fnScope st_parting_row) := ⟨rfl, rfl, rfl, by decide +kernel, rfl, by decide +kernel, by decide +kernel⟩
theorem c_parting_row (T : Facts w K mg) : CalG P w K mg base (ctK K) 64 "parting_row" (prowF 14) [] := calG_of (k := 63) 2 6 T.d33 sc_parting_row rfl rfl fun f cdv A outer s H E hr hg => by
  have nd := sc_parting_row.nd
  have hu := hu_room hr
  exact (msCons (msSet (i := 2) nd (mCall (c_outer_atoms T) (hr.mono (by omega)) hg def_takes (mCons (mLst (own := false) (mStar (mV 0) (mCons (mV 1) mNil))) mNil)))
  (msCons (msSet (i := 3) nd (mCall (c_whole_table T) (hr.mono (by omega)) hg def_takes (mCons (mV 2) mNil)))
  (msCons (msSet (i := 4) nd (mCall (c_parting_mask T) (hr.mono (by omega)) hg def_takes (mCons (mV 3) (mCons (mLc (ow := false) (own := [("one", 5)]) rfl nd (miV (mV 0)) (blkOk_by (N := ["sayings", "saying", "atoms", "table", "parting", "one"]) (sc := C8.fnScope st_parting_row) (own := [("one", 5)]) (by decide +kernel)) (by decide) (fun _ _ _ _ _ => (mgN 5 nd)) (fun _ _ _ _ _ => mpNil) (fun _ _ _ _ _ => (mCall (c_core_of T 14) (hr.mono (by omega)) hg takesF (mCons (mV 5) mNil)))) (mCons (mCall (c_core_of T 14) (hr.mono (by omega)) hg def_takes (mCons (mV 1) mNil)) mNil)))))
  (msCons (msIf (mTcmp (op2_eq (hu4 hu)) (mV 4) mI)
  (msOne (msRet mN)) msNil)
  (msOne (msRet (mTz rfl (mCons (mV 2) (mCons (mMeth (c_TruthTable_truths_in T) (hr.mono (by omega)) hg def_takes (mV 3) (mCons (mCall (c_first_bit T) (hr.mono (by omega)) hg def_takes (mCons (mV 4) mNil)) mNil)) mNil)) T.z_tuple T.z_zip)))))))

abbrev st_is_pair : Stmt := topS 36
theorem sc_is_pair : FnScope ["thing"] ["thing"] (C8.fnScope st_is_pair) := ⟨rfl, rfl, rfl, by decide +kernel, rfl, by decide +kernel, by decide +kernel⟩
theorem c_is_pair (T : Facts w K mg) : CalG P w K mg base (ctK K) 1 "is_pair" F_is_pair [] := calG_of (k := 0) 1 1 T.d36 sc_is_pair rfl rfl fun f cdv A outer s H E hr hg => by
  have nd := sc_is_pair.nd
  have hu := hu_room hr
  exact (msOne (msRet (mAndV (mIsi (mV 0) T.z_isinstance T.z_tuple) (mAndV1 (mCmp (op2_eq (hu4 hu)) (mCallB len_opA (mCons (mV 0) mNil) T.z_len) mI)))))

abbrev st_is_row_kind : Stmt := topS 40
theorem sc_is_row_kind : FnScope ["thing", "pair"] ["thing"] (C8.fnScope st_is_row_kind) := ⟨rfl, rfl, rfl, by decide +kernel, rfl, by decide +kernel, by decide +kernel⟩
theorem c_is_row_kind (T : Facts w K mg) : CalG P w K mg base (ctK K) 6 "is_row_kind" F_is_row_kind [] := calG_of (k := 5) 1 2 T.d40 sc_is_row_kind rfl rfl fun f cdv A outer s H E hr hg => by
  have nd := sc_is_row_kind.nd
  have hu := hu_room hr
  exact (msCons (msIf (mNot (mTv (mIsi (mV 0) T.z_isinstance T.z_tuple)))
  (msOne (msRet mB)) msNil)
  (msOne (msRet (mCallB (all_op rfl) (mCons (mLc (ow := false) (own := [("pair", 1)]) rfl nd (miV (mV 0)) (blkOk_by (N := ["thing", "pair"]) (sc := C8.fnScope st_is_row_kind) (own := [("pair", 1)]) (by decide +kernel)) (by decide) (fun _ _ _ _ _ => (mgN 1 nd)) (fun _ _ _ _ _ => mpNil) (fun _ _ _ _ _ => (mAndV (mCall (c_is_pair T) (hr.mono (by omega)) hg takesF (mCons (mV 1) mNil)) (mAndV (mCall (c_is_saying T) (hr.mono (by omega)) hg takesF (mCons (mIxA hu (mV 1) mI) mNil)) (mAndV1 (mIsi (mIxA hu (mV 1) mI) T.z_isinstance T.z_bool)))))) mNil) T.z_all))))

abbrev st_row_fault : Stmt := topS 39
theorem sc_row_fault : FnScope ["sayings", "saying", "thing", "atoms", "k", "atom", "truths", "one", "truth"] ["sayings", "saying", "thing"] (C8.fnScope st_row_fault) := ⟨rfl, rfl, rfl, by decide +kernel, rfl, by decide +kernel, by decide +kernel⟩
theorem c_row_fault (T : Facts w K mg) : CalG P w K mg base (ctK K) 63 "row_fault" F_row_fault [] := calG_of (k := 62) 3 9 T.d39 sc_row_fault rfl rfl fun f cdv A outer s H E hr hg => by
  have nd := sc_row_fault.nd
  have hu := hu_room hr
  exact (msCons (msIf (mNot (mTv (mCall (c_is_row_kind T) (hr.mono (by omega)) hg def_takes (mCons (mV 2) mNil))))
  (msOne (msRet (mTup (mCons mS (mCons (mUn op1_neg mI) mNil))))) msNil)
  (msCons (msSet (i := 3) nd (mCall (c_outer_atoms T) (hr.mono (by omega)) hg def_takes (mCons (mLst (own := false) (mStar (mV 0) (mCons (mV 1) mNil))) mNil)))
  (msCons (msIf (mTcmp (op2_ne (hu4 hu)) (mCallB len_opA (mCons (mV 2) mNil) T.z_len) (mCallB len_opA (mCons (mV 3) mNil) T.z_len))
  (msOne (msRet (mTup (mCons mS (mCons (mUn op1_neg mI) mNil))))) msNil)
  (msCons (msFor def_owns rfl (miEnA (mCons (mV 3) mNil) T.z_enumerate) (mgT rfl (mgsCons (mgN 4 nd) (mgsCons (mgN 5 nd) mgsNil)))
  (msOne (msIf (mTcmp (op2_ne (hu4 hu)) (mIxA hu (mIxA hu (mV 2) (mV 4)) mI) (mV 5))
  (msOne (msRet (mTup (mCons mS (mCons (mV 4) mNil))))) msNil)))
  (msCons (msSetLc (i := 6) (ow := false) (own := [("atom", 5), ("truth", 8)]) rfl nd (hi := (miV (mV 2))) (ok := (blkOk_by (N := ["sayings", "saying", "thing", "atoms", "k", "atom", "truths", "one", "truth"]) (sc := C8.fnScope st_row_fault) (own := [("atom", 5), ("truth", 8)]) (by decide +kernel))) (hsub := by decide) (hg := fun _ _ _ _ _ => (mgT rfl (mgsCons (mgN 5 nd) (mgsCons (mgN 8 nd) mgsNil)))) (ht := fun _ _ _ _ _ => mpNil) (he := fun _ _ _ _ _ => (mV 8)))
  (msCons (msFor def_owns rfl (miEnA (mCons (mV 0) mNil) T.z_enumerate) (mgT rfl (mgsCons (mgN 4 nd) (mgsCons (mgN 7 nd) mgsNil)))
  (msOne (msIf (mNot (mTv (mCall (c_told_by T) (hr.mono (by omega)) hg def_takes (mCons (mV 3) (mCons (mV 6) (mCons (mCall (c_core_of T 14) (hr.mono (by omega)) hg def_takes (mCons (mV 7) mNil)) mNil))))))
  (msOne (msRet (mTup (mCons mS (mCons (mV 4) mNil))))) msNil)))
  (msCons (msIf (mTv (mCall (c_told_by T) (hr.mono (by omega)) hg def_takes (mCons (mV 3) (mCons (mV 6) (mCons (mCall (c_core_of T 14) (hr.mono (by omega)) hg def_takes (mCons (mV 1) mNil)) mNil)))))
  (msOne (msRet (mTup (mCons mS (mCons (mUn op1_neg mI) mNil))))) msNil)
  (msOne (msRet mN)))))))))

abbrev st_lets_parting_rowX : Stmt := topS 38
theorem sc_lets_parting_rowX : FnScope ["sayings", "saying", "thing", "fault"] ["sayings", "saying", "thing"] (C8.fnScope st_lets_parting_rowX) := ⟨rfl, rfl, rfl, by decide +kernel, rfl, by decide +kernel, by decide +kernel⟩
noncomputable def B_lets_parting_rowX : DS := (sSeq (sSet 3 (dCall F_row_fault [] (dCons (dV 0) (dCons (dV 1) (dCons (dV 2) dNil)))))
  (sSeq (sIf (dTb (dP2 (opIs true) (dV 3) (dC .none)))
  (sRaise "NoPaper" ["word", "at"] (dCons (dP2 opIxA (dV 3) (dC (.int 0))) (dCons (dP2 opIxA (dV 3) (dC (.int 1))) dNil))) sNext)
  (sRet (dC (.bool true)))))
noncomputable def F_lets_parting_rowX : Fn := fnF 3 4 B_lets_parting_rowX
theorem c_lets_parting_rowX (T : Facts w K mg) : CalG P w K mg base (ctK K) 64 "lets_parting_row" F_lets_parting_rowX [] := calG_of (k := 63) 3 4 T.d38 sc_lets_parting_rowX rfl rfl fun f cdv A outer s H E hr hg => by
  have nd := sc_lets_parting_rowX.nd
  have hu := hu_room hr
  exact (msCons (msSet (i := 3) nd (mCall (c_row_fault T) (hr.mono (by omega)) hg def_takes (mCons (mV 0) (mCons (mV 1) (mCons (mV 2) mNil)))))
  (msCons (msIf (mTcmp op2_isnot (mV 3) mN)
  (msOne (msRaise2 (x_NoPaper T) (hr.mono (by omega)) def_takes (mCons (mIxA hu (mV 3) mI) (mCons (mIxA hu (mV 3) mI) mNil)))) msNil)
  (msOne (msRet mB))))

abbrev st_letters_put : Stmt := topS 42
theorem sc_letters_put : FnScope ["saying", "puts", "word", "other", "part"] ["saying", "puts"] (C8.fnScope st_letters_put) := ⟨rfl, rfl, rfl, by decide +kernel, rfl, by decide +kernel, by decide +kernel⟩
theorem c_letters_put (T : Facts w K mg) : ∀ n : Nat, CalG P w K mg base (ctK K) (1 + n) "letters_put" (F_letters_put n) []
  | 0 => calG_bad T.d42
  | n + 1 => by
    have cs := c_letters_put T n
    exact calG_of (k := 1 + n) 2 5 T.d42 sc_letters_put rfl rfl fun f cdv A outer s H E hr hg => by
      have nd := sc_letters_put.nd
      have hu := hu_room hr
      exact (msCons (msIf (mTcmp (op2_eq (hu4 hu)) (mIxA hu (mV 0) mI) mS)
      (msCons (msFor def_owns rfl (miV (mV 1)) (mgT rfl (mgsCons (mgN 2 nd) (mgsCons (mgN 3 nd) mgsNil)))
      (msOne (msIf (mTcmp (op2_eq (hu4 hu)) (mV 2) (mIxA hu (mV 0) mI))
      (msOne (msRet (mV 3))) msNil)))
      (msOne (msRet (mV 0)))) msNil)
      (msOne (msRet (mCall (c_with_inner T) (hr.mono (by omega)) hg def_takes (mCons (mV 0) (mCons (mCallT tu_op (mCons (mLc (ow := false) (own := [("part", 4)]) rfl nd (miV (mCall (c_inner_sayings T) (hr.mono (by omega)) hg def_takes (mCons (mV 0) mNil))) (blkOk_by (N := ["saying", "puts", "word", "other", "part"]) (sc := C8.fnScope st_letters_put) (own := [("part", 4)]) (by decide +kernel)) (by decide) (fun _ _ _ _ _ => (mgN 4 nd)) (fun _ _ _ _ _ => mpNil) (fun _ _ _ _ _ => (mCall cs (hr.mono (by omega)) hg takesF (mCons (mV 4) (mCons (mV 1) mNil))))) mNil) T.z_tuple) mNil))))))

abbrev st_law_feed : Stmt := topS 44
theorem sc_law_feed : FnScope ["_law_script"] ["_law_script"] (C8.fnScope st_law_feed) := ⟨rfl, rfl, rfl, by decide +kernel, rfl, by decide +kernel, by decide +kernel⟩
theorem c_law_feed (T : Facts w K mg) : CalG P w K mg base (ctK K) 1 "_law_feed" feedF [] := calG_of (k := 0) 1 1 T.d44 sc_law_feed rfl rfl fun f cdv A outer s H E hr hg => by
  have nd := sc_law_feed.nd
  have hu := hu_room hr
  exact (msOne (msRet (mLst (own := true) (mCons (mSl (own := false) (mV 0) moNo (moPart mI)) (mCons mI (mCons mI (mCons mI mNil)))))))

abbrev st_law_draw : Stmt := topS 45
theorem sc_law_draw : FnScope ["_law_feed_here", "_law_many", "_law_found", "_law_cell", "_law_mixed"] ["_law_feed_here", "_law_many"] (C8.fnScope st_law_draw) := ⟨rfl, rfl, rfl, by decide +kernel, rfl, by decide +kernel, by decide +kernel⟩
theorem c_law_draw (T : Facts w K mg) : CalG P w K mg base (ctK K) 1 "_law_draw" drawF [] := calG_of (k := 0) 2 5 T.d45 sc_law_draw rfl rfl fun f cdv A outer s H E hr hg => by
  have nd := sc_law_draw.nd
  have hu := hu_room hr
  exact (msCons (msSt hu (mBin (op2_add (own := false)) (mIxA hu (mV 0) mI) mI) (mV 0) mI)
  (msCons (msIf (mTcmp op2_gt (mIxA hu (mV 0) mI) mI)
  (msCons (msSet (i := 2) nd (mBin op2_mod (mIxA hu (mV 0) mI) (mV 1)))
  (msCons (msSt hu (mBin op2_div (mIxA hu (mV 0) mI) (mV 1)) (mV 0) mI)
  (msOne (msRet (mV 2))))) msNil)
  (msCons (msSet (i := 3) nd mI)
  (msCons (msIf (mTcmp (op2_ne (hu4 hu)) (mIxA hu (mV 0) mI) (mLst (own := false) mNil))
  (msOne (msSet (i := 3) nd (mIxA hu (mIxA hu (mV 0) mI) (mBin op2_mod (mIxA hu (mV 0) mI) (mCallB len_opA (mCons (mIxA hu (mV 0) mI) mNil) T.z_len))))) msNil)
  (msCons (msSt hu (mBin (op2_add (own := false)) (mIxA hu (mV 0) mI) mI) (mV 0) mI)
  (msCons (msIf (MW.mt (mAnd (mTcmp op2_ge (mV 3) (mBin op2_pow mI mI)) (mAnd1 (mTcmp op2_le (mIxA hu (mV 0) mI) (mCallB len_opA (mCons (mIxA hu (mV 0) mI) mNil) T.z_len)))))
  (msCons (msSt hu (mBin op2_div (mV 3) (mV 1)) (mV 0) mI)
  (msOne (msRet (mBin op2_mod (mV 3) (mV 1))))) msNil)
  (msCons (msSet (i := 4) nd (mBin op2_mod (mBin op2_pow (mBin (op2_add (own := false)) (mBin (op2_add (own := false)) (mBin op2_mod (mV 3) mI) (mBin (op2_mul (own := false)) mI (mIxA hu (mV 0) mI))) mI) mI) mI))
  (msOne (msRet (mBin op2_mod (mBin op2_div (mBin op2_mod (mBin op2_pow (mBin (op2_add (own := false)) (mV 4) (mBin (op2_mul (own := false)) mI (mIxA hu (mV 0) mI))) mI) mI) mI) (mV 1)))))))))))

abbrev st_law_saying : Stmt := topS 46
theorem sc_law_saying : FnScope ["_law_feed_here", "_law_left", "_law_told", "_law_way", "_law_many", "_law_some", "_law_hand", "_law_k"] ["_law_feed_here", "_law_left", "_law_told"] (C8.fnScope st_law_saying) := ⟨rfl, rfl, rfl, by decide +kernel, rfl, by decide +kernel, by decide +kernel⟩
theorem c_law_saying (T : Facts w K mg) : ∀ n : Nat, CalG P w K mg base (ctK K) (1 + n) "_law_saying" (sayF n) []
  | 0 => calG_bad T.d46
  | n + 1 => by
    have cs := c_law_saying T n
    exact calG_of (k := 1 + n) 3 8 T.d46 sc_law_saying rfl rfl fun f cdv A outer s H E hr hg => by
      have nd := sc_law_saying.nd
      have hu := hu_room hr
      exact (msCons (msSt hu (mBin op2_sub (mIxA hu (mV 1) mI) mI) (mV 1) mI)
      (msCons (msSet (i := 3) nd (mCall (c_law_draw T) (hr.mono (by omega)) hg def_takes (mCons (mV 0) (mCons mI mNil))))
      (msCons (msIf (MW.mt (mOr (mTcmp (op2_lt hu) (mV 3) mI) (mOr1 (mTcmp (op2_lt hu) (mIxA hu (mV 1) mI) mI))))
      (msOne (msRet (mTup (mCons mS (mCons (mIxA hu (mLst (own := false) (mCons mS (mCons mS (mCons mS mNil)))) (mCall (c_law_draw T) (hr.mono (by omega)) hg def_takes (mCons (mV 0) (mCons mI mNil)))) mNil))))) msNil)
      (msCons (msIf (mTcmp (op2_inA hu) (mV 3) (mTup (mCons mI (mCons mI mNil))))
      (msOne (msRet (mTup (mCons mS (mCons (mCall cs (hr.mono (by omega)) hg def_takes (mCons (mV 0) (mCons (mV 1) (mCons (mV 2) mNil)))) mNil))))) msNil)
      (msCons (msIf (mTcmp (op2_lt hu) (mV 3) mI)
      (msCons (msSet (i := 4) nd (mIxA hu (mLst (own := false) (mCons mI (mCons mI (mCons mI (mCons mI (mCons mI mNil)))))) (mCall (c_law_draw T) (hr.mono (by omega)) hg def_takes (mCons (mV 0) (mCons mI mNil)))))
      (msCons (msSetLc (i := 5) (ow := false) (own := [("_law_k", 7)]) rfl nd (hi := (miR1 (mCons (mV 4) mNil) T.z_range)) (ok := (blkOk_by (N := ["_law_feed_here", "_law_left", "_law_told", "_law_way", "_law_many", "_law_some", "_law_hand", "_law_k"]) (sc := C8.fnScope st_law_saying) (own := [("_law_k", 7)]) (by decide +kernel))) (hsub := by decide) (hg := fun _ _ _ _ _ => (mgN 7 nd)) (ht := fun _ _ _ _ _ => (mpOne (mTcmp op2_gt (mIxA hu (mV 1) mI) mI))) (he := fun _ _ _ _ _ => (mCall cs (hr.mono (by omega)) hg takesF (mCons (mV 0) (mCons (mV 1) (mCons (mV 2) mNil))))))
      (msOne (msRet (mTup (mCons (mIxA hu (mLst (own := false) (mCons mS (mCons mS mNil))) (mBin op2_mod (mV 3) mI)) (mCons (mCallT tu_op (mCons (mV 5) mNil) T.z_tuple) mNil))))))) msNil)
      (msCons (msIf (MW.mt (mOr (mTcmp (op2_inA hu) (mV 3) (mTup (mCons mI (mCons mI mNil)))) (mOr1 (MW.mt (mAnd (mTcmp (op2_eq (hu4 hu)) (mV 3) mI) (mAnd1 (mNot (mTv (mV 2)))))))))
      (msOne (msRet (mTup (mCons mS (mCons (mCall cs (hr.mono (by omega)) hg def_takes (mCons (mV 0) (mCons (mV 1) (mCons (mV 2) mNil)))) (mCons (mCall cs (hr.mono (by omega)) hg def_takes (mCons (mV 0) (mCons (mV 1) (mCons (mV 2) mNil)))) mNil)))))) msNil)
      (msCons (msIf (mTcmp (op2_eq (hu4 hu)) (mV 3) mI)
      (msOne (msRet (mTup (mCons mS (mCons (mCall cs (hr.mono (by omega)) hg def_takes (mCons (mV 0) (mCons (mV 1) (mCons (mV 2) mNil)))) (mCons (mCall cs (hr.mono (by omega)) hg def_takes (mCons (mV 0) (mCons (mV 1) (mCons (mV 2) mNil)))) mNil)))))) msNil)
      (msCons (msSet (i := 6) nd (mIxA hu (mLst (own := false) (mCons mS (mCons mS mNil))) (mCall (c_law_draw T) (hr.mono (by omega)) hg def_takes (mCons (mV 0) (mCons mI mNil)))))
      (msOne (msRet (mTup (mCons (mIxA hu (mLst (own := false) (mCons mS (mCons mS mNil))) (mBin op2_mod (mV 3) mI)) (mCons (mV 6) (mCons (mCall cs (hr.mono (by omega)) hg def_takes (mCons (mV 0) (mCons (mV 1) (mCons (mV 2) mNil)))) mNil))))))))))))))

abbrev st_law_let : Stmt := topS 47
theorem sc_law_let : FnScope ["_law_some", "_law_s", "_law_row", "_law_found"] ["_law_some", "_law_s", "_law_row"] (C8.fnScope st_law_let) := ⟨rfl, rfl, rfl, by decide +kernel, rfl, by decide +kernel, by decide +kernel⟩
noncomputable def B_law_let : DS := (sSeq (sSet 3 (dC (.bool false)))
  (sSeq (sTry (sSet 3 (dCall F_lets_parting_rowX [] (dCons (dV 0) (dCons (dV 1) (dCons (dV 2) dNil))))) (hitL [("NoPaper", true)])
  (sSet 3 (dC (.bool false))))
  (sRet (dV 3))))
noncomputable def F_law_let : Fn := fnF 3 4 B_law_let
theorem c_law_let (T : Facts w K mg) : CalG P w K mg base (ctK K) 65 "_law_let" F_law_let [] := calG_of (k := 64) 3 4 T.d47 sc_law_let rfl rfl fun f cdv A outer s H E hr hg => by
  have nd := sc_law_let.nd
  have hu := hu_room hr
  exact (msCons (msSet (i := 3) nd mB)
  (msCons (msTry1 def_takes T.k_NoPaper (hit_cons T.e_NoPaper_NoPaper hit_nil) (fun _ _ _ tk_ ow_ => (msOne (msSet (i := 3) nd (mCall (c_lets_parting_rowX T) (hr.mono (by omega)) hg tk_ (mCons (mV 0) (mCons (mV 1) (mCons (mV 2) mNil))))))) (fun _ _ _ => (msOne (msSet (i := 3) nd mB))))
  (msOne (msRet (mV 3)))))

abbrev st_law_flat : Stmt := topS 48
theorem sc_law_flat : FnScope ["_law_s", "_law_names", "_law_one"] ["_law_s", "_law_names"] (C8.fnScope st_law_flat) := ⟨rfl, rfl, rfl, by decide +kernel, rfl, by decide +kernel, by decide +kernel⟩
noncomputable def B_law_flat (self : Fn) : DS := (sSeq (sIf (dTb (dP2 (opInA false) (dPn opRepr (dCons (dV 0) dNil)) (dV 1)))
  (sRet (dPn opTup (dCons (dC (.str "letter")) (dCons (dP2 opIxA (dV 1) (dPn opRepr (dCons (dV 0) dNil))) dNil)))) sNext)
  (sSeq (sIf (dTb (dP2 (opInA false) (dP2 opIxA (dV 0) (dC (.int 0))) (dPn opTup (dCons (dC (.str "and")) (dCons (dC (.str "or")) dNil)))))
  (sRet (dPn opTup (dCons (dP2 opIxA (dV 0) (dC (.int 0))) (dCons (dPn opTu (dCons (dLc false (dI iV (dP2 opIxA (dV 0) (dC (.int 1)))) (gN 2) dYes (dCall self [] (dCons (dV 2) (dCons (dV 1) dNil))) [2]) dNil)) dNil)))) sNext)
  (sRet (dP2 (opAdd false) (dPn opTup (dCons (dP2 opIxA (dV 0) (dC (.int 0))) dNil)) (dPn opTu (dCons (dLc false (dI iV (dSl false (dV 0) (dPart (dC (.int 1))) dNo)) (gN 2) dYes (dCall self [] (dCons (dV 2) (dCons (dV 1) dNil))) [2]) dNil))))))
noncomputable def F_law_flat : Nat → Fn
  | 0 => fun _ _ => .bad
  | n + 1 => fnF 2 3 (B_law_flat (F_law_flat n))
theorem c_law_flat (T : Facts w K mg) : ∀ n : Nat, CalG P w K mg base (ctK K) (0 + n) "_law_flat" (F_law_flat n) []
  | 0 => calG_bad T.d48
  | n + 1 => by
    have cs := c_law_flat T n
    exact calG_of (k := 0 + n) 2 3 T.d48 sc_law_flat rfl rfl fun f cdv A outer s H E hr hg => by
      have nd := sc_law_flat.nd
      have hu := hu_room hr
      exact (msCons (msIf (mTcmp (op2_inA hu) (mCallB (repr_op hg hu) (mCons (mV 0) mNil) T.z_repr) (mV 1))
      (msOne (msRet (mTup (mCons mS (mCons (mIxA hu (mV 1) (mCallB (repr_op hg hu) (mCons (mV 0) mNil) T.z_repr)) mNil))))) msNil)
      (msCons (msIf (mTcmp (op2_inA hu) (mIxA hu (mV 0) mI) (mTup (mCons mS (mCons mS mNil))))
      (msOne (msRet (mTup (mCons (mIxA hu (mV 0) mI) (mCons (mCallT tu_op (mCons (mLc (ow := false) (own := [("_law_one", 2)]) rfl nd (miV (mIxA hu (mV 0) mI)) (blkOk_by (N := ["_law_s", "_law_names", "_law_one"]) (sc := C8.fnScope st_law_flat) (own := [("_law_one", 2)]) (by decide +kernel)) (by decide) (fun _ _ _ _ _ => (mgN 2 nd)) (fun _ _ _ _ _ => mpNil) (fun _ _ _ _ _ => (mCall cs (hr.mono (by omega)) hg takesF (mCons (mV 2) (mCons (mV 1) mNil))))) mNil) T.z_tuple) mNil))))) msNil)
      (msOne (msRet (mBin (op2_add (own := false)) (mTup (mCons (mIxA hu (mV 0) mI) mNil)) (mCallT tu_op (mCons (mLc (ow := false) (own := [("_law_one", 2)]) rfl nd (miV (mSl (own := false) (mV 0) (moPart mI) moNo)) (blkOk_by (N := ["_law_s", "_law_names", "_law_one"]) (sc := C8.fnScope st_law_flat) (own := [("_law_one", 2)]) (by decide +kernel)) (by decide) (fun _ _ _ _ _ => (mgN 2 nd)) (fun _ _ _ _ _ => mpNil) (fun _ _ _ _ _ => (mCall cs (hr.mono (by omega)) hg takesF (mCons (mV 2) (mCons (mV 1) mNil))))) mNil) T.z_tuple))))))

abbrev st_law_is_true : Stmt := topS 49
theorem sc_law_is_true : FnScope ["_law_s", "_law_row", "_law_names", "_law_truths_here", "_law_flat_here", "_law_k", "_law_atom", "_law_truth"] ["_law_s", "_law_row"] (C8.fnScope st_law_is_true) := ⟨rfl, rfl, rfl, by decide +kernel, rfl, by decide +kernel, by decide +kernel⟩
noncomputable def B_law_is_true : DS := (sSeq (sSet 2 (dPn (opDict false) (dCons (dLc false (dIs iR1 (dCons (dPn (orO opLen opLenD) (dCons (dV 1) dNil)) dNil)) (gN 5) dYes (dPn opTup (dCons (dPn opRepr (dCons (dP2 opIxA (dP2 opIxA (dV 1) (dV 5)) (dC (.int 0))) dNil)) (dCons (dP2 (opAdd false) (dC (.str "x")) (dP2 opIxA (dC (.str "abcdefghijklmnop")) (dV 5))) dNil))) [5]) dNil)))
  (sSeq (sSet 3 (dPn (opDict false) (dCons (dLc false (dI iV (dV 1)) (gT 2 (gCons' (gN 6) (gCons' (gN 7) gNil'))) dYes (dPn opTup (dCons (dP2 opIxA (dV 2) (dPn opRepr (dCons (dV 6) dNil))) (dCons (dV 7) dNil))) [6, 7]) dNil)))
  (sSeq (sSet 4 (dCall (F_law_flat 40) [] (dCons (dCall (coreF 14) [] (dCons (dV 0) dNil)) (dCons (dV 2) dNil))))
  (sRet (dCall (sortTellsF 14) [] (dCons (dV 4) (dCons (dPn opTu (dCons (dLc false (dI iV (dCall (atomsF 14) [] (dCons (dV 4) dNil))) (gN 6) dYes (dP2 opIxA (dV 3) (dP2 opIxA (dV 6) (dC (.int 1)))) [6]) dNil)) dNil)))))))
noncomputable def F_law_is_true : Fn := fnF 2 8 B_law_is_true
theorem c_law_is_true (T : Facts w K mg) : CalG P w K mg base (ctK K) 64 "_law_is_true" F_law_is_true [] := calG_of (k := 63) 2 8 T.d49 sc_law_is_true rfl rfl fun f cdv A outer s H E hr hg => by
  have nd := sc_law_is_true.nd
  have hu := hu_room hr
  exact (msCons (msSet (i := 2) nd (mCallT (dict_op rfl (own := false)) (mCons (mLc (ow := false) (own := [("_law_k", 5)]) rfl nd (miR1 (mCons (mCallB len_opA (mCons (mV 1) mNil) T.z_len) mNil) T.z_range) (blkOk_by (N := ["_law_s", "_law_row", "_law_names", "_law_truths_here", "_law_flat_here", "_law_k", "_law_atom", "_law_truth"]) (sc := C8.fnScope st_law_is_true) (own := [("_law_k", 5)]) (by decide +kernel)) (by decide) (fun _ _ _ _ _ => (mgN 5 nd)) (fun _ _ _ _ _ => mpNil) (fun _ _ _ _ _ => (mTup (mCons (mCallB (repr_op hg hu) (mCons (mIxA hu (mIxA hu (mV 1) (mV 5)) mI) mNil) T.z_repr) (mCons (mBin (op2_add (own := false)) mS (mIxA hu mS (mV 5))) mNil))))) mNil) T.z_dict))
  (msCons (msSet (i := 3) nd (mCallT (dict_op rfl (own := false)) (mCons (mLc (ow := false) (own := [("_law_atom", 6), ("_law_truth", 7)]) rfl nd (miV (mV 1)) (blkOk_by (N := ["_law_s", "_law_row", "_law_names", "_law_truths_here", "_law_flat_here", "_law_k", "_law_atom", "_law_truth"]) (sc := C8.fnScope st_law_is_true) (own := [("_law_atom", 6), ("_law_truth", 7)]) (by decide +kernel)) (by decide) (fun _ _ _ _ _ => (mgT rfl (mgsCons (mgN 6 nd) (mgsCons (mgN 7 nd) mgsNil)))) (fun _ _ _ _ _ => mpNil) (fun _ _ _ _ _ => (mTup (mCons (mIxA hu (mV 2) (mCallB (repr_op hg hu) (mCons (mV 6) mNil) T.z_repr)) (mCons (mV 7) mNil))))) mNil) T.z_dict))
  (msCons (msSet (i := 4) nd (mCall (c_law_flat T 40) (hr.mono (by omega)) hg def_takes (mCons (mCall (c_core_of T 14) (hr.mono (by omega)) hg def_takes (mCons (mV 0) mNil)) (mCons (mV 2) mNil))))
  (msOne (msRet (mCall (c_sort_tells T) (hr.mono (by omega)) hg def_takes (mCons (mV 4) (mCons (mCallT tu_op (mCons (mLc (ow := false) (own := [("_law_atom", 6)]) rfl nd (miV (mCall (c_atoms_of T) (hr.mono (by omega)) hg def_takes (mCons (mV 4) mNil))) (blkOk_by (N := ["_law_s", "_law_row", "_law_names", "_law_truths_here", "_law_flat_here", "_law_k", "_law_atom", "_law_truth"]) (sc := C8.fnScope st_law_is_true) (own := [("_law_atom", 6)]) (by decide +kernel)) (by decide) (fun _ _ _ _ _ => (mgN 6 nd)) (fun _ _ _ _ _ => mpNil) (fun _ _ _ _ _ => (mIxA hu (mV 3) (mIxA hu (mV 6) mI)))) mNil) T.z_tuple) mNil))))))))

abbrev st_law_truths : Stmt := topS 50
theorem sc_law_truths : FnScope ["_law_many", "_law_found", "_law_k", "_law_row"] ["_law_many"] (C8.fnScope st_law_truths) := ⟨rfl, rfl, rfl, by decide +kernel, rfl, by decide +kernel, by decide +kernel⟩
theorem c_law_truths (T : Facts w K mg) : CalG P w K mg base (ctK K) 1 "_law_truths" ltruthsF [] := calG_of (k := 0) 1 4 T.d50 sc_law_truths rfl rfl fun f cdv A outer s H E hr hg => by
  have nd := sc_law_truths.nd
  have hu := hu_room hr
  exact (msCons (msSet (i := 1) nd (mLst (own := false) (mCons (mTup mNil) mNil)))
  (msCons (msFor def_owns rfl (miR1 (mCons (mV 0) mNil) T.z_range) (mgN 2 nd)
  (msOne (msSet (i := 1) nd (mBin (op2_add (own := false)) (mLc (ow := false) (own := [("_law_row", 3)]) rfl nd (miV (mV 1)) (blkOk_by (N := ["_law_many", "_law_found", "_law_k", "_law_row"]) (sc := C8.fnScope st_law_truths) (own := [("_law_row", 3)]) (by decide +kernel)) (by decide) (fun _ _ _ _ _ => (mgN 3 nd)) (fun _ _ _ _ _ => mpNil) (fun _ _ _ _ _ => (mBin (op2_add (own := false)) (mV 3) (mTup (mCons mB mNil))))) (mLc (ow := false) (own := [("_law_row", 3)]) rfl nd (miV (mV 1)) (blkOk_by (N := ["_law_many", "_law_found", "_law_k", "_law_row"]) (sc := C8.fnScope st_law_truths) (own := [("_law_row", 3)]) (by decide +kernel)) (by decide) (fun _ _ _ _ _ => (mgN 3 nd)) (fun _ _ _ _ _ => mpNil) (fun _ _ _ _ _ => (mBin (op2_add (own := false)) (mV 3) (mTup (mCons mB mNil)))))))))
  (msOne (msRet (mV 1)))))

abbrev st_law_rows_right : Stmt := topS 51
theorem sc_law_rows_right : FnScope ["_law_some", "_law_s", "_law_atoms", "_law_found", "_law_truths_here", "_law_row", "_law_due", "_law_told", "_law_k", "_law_one"] ["_law_some", "_law_s"] (C8.fnScope st_law_rows_right) := ⟨rfl, rfl, rfl, by decide +kernel, rfl, by decide +kernel, by decide +kernel⟩
noncomputable def B_law_rows_right_285 : DS := (sSeq (sSet 7 (dCall (prowF 14) [] (dCons (dV 0) (dCons (dV 1) dNil))))
  (sRet (dIf (dTb (dP2 (opEq true) (dV 3) (dPn (opLst false) dNil))) (dP2 (opInA false) (dV 7) (dV 3)) (dP2 (opIs false) (dV 7) (dC .none)))))
noncomputable def B_law_rows_right_284 : DS := (sSet 3 (dP2 (opAdd false) (dV 3) (dP2 (opMul false) (dPn (opLst false) (dCons (dV 5) dNil)) (dPn opInt (dCons (dV 6) dNil)))))
noncomputable def B_law_rows_right_282 : DS := (sSeq (sIf (dTb (dP2 (opEq true) (dPn opRepr (dCons (dCall F_law_let [] (dCons (dV 0) (dCons (dV 1) (dCons (dV 5) dNil)))) dNil)) (dPn opRepr (dCons (dV 6) dNil))))
  (sRet (dC (.bool false))) sNext)
  B_law_rows_right_284)
noncomputable def B_law_rows_right_281 : DS := (sSeq (sSet 6 (dAndV (dP2 (opInA true) (dC (.bool false)) (dLc false (dI iV (dV 0)) (gN 9) dYes (dCall F_law_is_true [] (dCons (dV 9) (dCons (dV 5) dNil))) [9])) (dNotV (dCall F_law_is_true [] (dCons (dV 1) (dCons (dV 5) dNil))))))
  B_law_rows_right_282)
noncomputable def B_law_rows_right_280 : DS := (sSeq (sSet 5 (dPn opTu (dCons (dLc false (dIs iR1 (dCons (dPn (orO opLen opLenD) (dCons (dV 2) dNil)) dNil)) (gN 8) dYes (dPn opTup (dCons (dP2 opIxA (dV 2) (dV 8)) (dCons (dP2 opIxA (dV 4) (dV 8)) dNil))) [8]) dNil)))
  B_law_rows_right_281)
noncomputable def B_law_rows_right_279 : DS := (sSeq (sFor (dI iV (dCall ltruthsF [] (dCons (dPn (orO opLen opLenD) (dCons (dV 2) dNil)) dNil))) (gN 4)
  B_law_rows_right_280)
  B_law_rows_right_285)
noncomputable def B_law_rows_right_278 : DS := (sSeq (sAsg (gT 2 (gCons' (gN 2) (gCons' (gN 3) gNil'))) (dPn opTup (dCons (dCall (oatomsF 14) [] (dCons (dP2 (opAdd false) (dV 0) (dPn (opLst false) (dCons (dV 1) dNil))) dNil)) (dCons (dPn (opLst false) dNil) dNil))))
  B_law_rows_right_279)
noncomputable def B_law_rows_right : DS := B_law_rows_right_278
noncomputable def F_law_rows_right : Fn := fnF 2 10 B_law_rows_right
theorem c_law_rows_right (T : Facts w K mg) : CalG P w K mg base (ctK K) 66 "_law_rows_right" F_law_rows_right [] := calG_of (k := 65) 2 10 T.d51 sc_law_rows_right rfl rfl fun f cdv A outer s H E hr hg => by
  have nd := sc_law_rows_right.nd
  have hu := hu_room hr
  unfold B_law_rows_right
  unfold B_law_rows_right_278
  refine msCons (msAsg (mTup (mCons (mCall (c_outer_atoms T) (hr.mono (by omega)) hg def_takes (mCons (mBin (op2_add (own := false)) (mV 0) (mLst (own := false) (mCons (mV 1) mNil))) mNil)) (mCons (mLst (own := false) mNil) mNil))) (mgT rfl (mgsCons (mgN 2 nd) (mgsCons (mgN 3 nd) mgsNil)))) ?_
  unfold B_law_rows_right_279
  refine msCons (msFor def_owns rfl (miV (mCall (c_law_truths T) (hr.mono (by omega)) hg def_takes (mCons (mCallB len_opA (mCons (mV 2) mNil) T.z_len) mNil))) (mgN 4 nd)
  (msCons (msSet (i := 5) nd (mCallT tu_op (mCons (mLc (ow := false) (own := [("_law_k", 8)]) rfl nd (miR1 (mCons (mCallB len_opA (mCons (mV 2) mNil) T.z_len) mNil) T.z_range) (blkOk_by (N := ["_law_some", "_law_s", "_law_atoms", "_law_found", "_law_truths_here", "_law_row", "_law_due", "_law_told", "_law_k", "_law_one"]) (sc := C8.fnScope st_law_rows_right) (own := [("_law_k", 8)]) (by decide +kernel)) (by decide) (fun _ _ _ _ _ => (mgN 8 nd)) (fun _ _ _ _ _ => mpNil) (fun _ _ _ _ _ => (mTup (mCons (mIxA hu (mV 2) (mV 8)) (mCons (mIxA hu (mV 4) (mV 8)) mNil))))) mNil) T.z_tuple))
  (msCons (msSet (i := 6) nd (mAndV (mCmp (op2_notinA hu) mB (mLc (ow := false) (own := [("_law_one", 9)]) rfl nd (miV (mV 0)) (blkOk_by (N := ["_law_some", "_law_s", "_law_atoms", "_law_found", "_law_truths_here", "_law_row", "_law_due", "_law_told", "_law_k", "_law_one"]) (sc := C8.fnScope st_law_rows_right) (own := [("_law_one", 9)]) (by decide +kernel)) (by decide) (fun _ _ _ _ _ => (mgN 9 nd)) (fun _ _ _ _ _ => mpNil) (fun _ _ _ _ _ => (mCall (c_law_is_true T) (hr.mono (by omega)) hg takesF (mCons (mV 9) (mCons (mV 5) mNil)))))) (mAndV1 (mNotV (mCall (c_law_is_true T) (hr.mono (by omega)) hg def_takes (mCons (mV 1) (mCons (mV 5) mNil)))))))
  (msCons (msIf (mTcmp (op2_ne (hu4 hu)) (mCallB (repr_op hg hu) (mCons (mCall (c_law_let T) (hr.mono (by omega)) hg def_takes (mCons (mV 0) (mCons (mV 1) (mCons (mV 5) mNil)))) mNil) T.z_repr) (mCallB (repr_op hg hu) (mCons (mV 6) mNil) T.z_repr))
  (msOne (msRet mB)) msNil)
  (msOne (msSet (i := 3) nd (mBin (op2_add (own := false)) (mV 3) (mBin (op2_mul (own := false)) (mLst (own := false) (mCons (mV 5) mNil)) (mCallT int_op (mCons (mV 6) mNil) T.z_int))))))))) ?_
  unfold B_law_rows_right_285
  refine msCons (msSet (i := 7) nd (mCall (c_parting_row T) (hr.mono (by omega)) hg def_takes (mCons (mV 0) (mCons (mV 1) mNil)))) ?_
  exact msOne (msRet (mIf (mTcmp (op2_ne (hu4 hu)) (mV 3) (mLst (own := false) mNil)) (mCmp (op2_inA hu) (mV 7) (mV 3)) (mCmp op2_is (mV 7) mN)))

abbrev st_law_parts : Stmt := topS 52
theorem sc_law_parts : FnScope ["_law_some", "_law_s"] ["_law_some", "_law_s"] (C8.fnScope st_law_parts) := ⟨rfl, rfl, rfl, by decide +kernel, rfl, by decide +kernel, by decide +kernel⟩
noncomputable def B_law_parts : DS := (sRet (dP2 (opIs true) (dCall (prowF 14) [] (dCons (dV 0) (dCons (dV 1) dNil))) (dC .none)))
noncomputable def F_law_parts : Fn := fnF 2 2 B_law_parts
theorem c_law_parts (T : Facts w K mg) : CalG P w K mg base (ctK K) 65 "_law_parts" F_law_parts [] := calG_of (k := 64) 2 2 T.d52 sc_law_parts rfl rfl fun f cdv A outer s H E hr hg => by
  have nd := sc_law_parts.nd
  have hu := hu_room hr
  exact (msOne (msRet (mCmp op2_isnot (mCall (c_parting_row T) (hr.mono (by omega)) hg def_takes (mCons (mV 0) (mCons (mV 1) mNil))) mN)))

abbrev st_law_ways_right : Stmt := topS 53
theorem sc_law_ways_right : FnScope ["_law_some", "_law_s", "_law_more", "_law_due", "_law_both", "_law_ways", "_law_one"] ["_law_some", "_law_s", "_law_more"] (C8.fnScope st_law_ways_right) := ⟨rfl, rfl, rfl, by decide +kernel, rfl, by decide +kernel, by decide +kernel⟩
noncomputable def B_law_ways_right_295 : DS := (sSeq (sIf (dOr (dTb (dP2 (opEq true) (dLc false (dI iV (dV 0)) (gN 6) (dTv (dCall F_law_parts [] (dCons (dV 0) (dCons (dV 6) dNil)))) (dV 6) [6]) (dPn (opLst false) dNil))) (dTv (dCall F_law_parts [] (dCons (dP2 (opAdd false) (dV 0) (dPn (opLst false) (dCons (dV 1) dNil))) (dCons (dV 1) dNil)))))
  (sRet (dC (.bool false))) sNext)
  (sRet (dAndV (dP2 (opEq false) (dCall (F_letters_put 30) [] (dCons (dV 4) (dCons (dPn opTup dNil) dNil))) (dV 4)) (dP2 (opEq false) (dCall F_law_parts [] (dCons (dV 0) (dCons (dPn opTup (dCons (dC (.str "and")) (dCons (dPn opTup (dCons (dV 1) (dCons (dV 2) dNil))) dNil))) dNil))) (dOrV (dV 3) (dCall F_law_parts [] (dCons (dV 0) (dCons (dV 2) dNil))))))))
noncomputable def B_law_ways_right_293 : DS := (sSeq (sIf (dOr (dTb (dP2 (opEq true) (dV 5) (dP2 (opMul false) (dPn (opLst false) (dCons (dV 3) dNil)) (dC (.int 5))))) (dAnd (dNot (dTv (dV 3))) (dTv (dCall F_law_parts [] (dCons (dP2 (opAdd false) (dV 0) (dPn (opLst false) (dCons (dV 2) dNil))) (dCons (dV 1) dNil))))))
  (sRet (dC (.bool false))) sNext)
  B_law_ways_right_295)
noncomputable def B_law_ways_right_292 : DS := (sSeq (sSet 5 (dP2 (opAdd false) (dV 5) (dPn (opLst false) (dCons (dCall F_law_parts [] (dCons (dPn (opLst false) dNil) (dCons (dPn opTup (dCons (dC (.str "not")) (dCons (dPn opTup (dCons (dC (.str "and")) (dCons (dPn opTup (dCons (dV 4) (dCons (dPn opTup (dCons (dC (.str "not")) (dCons (dV 1) dNil))) dNil))) dNil))) dNil))) dNil))) (dCons (dCall F_law_parts [] (dCons (dP2 (opAdd false) (dP1 opRevL (dV 0)) (dV 0)) (dCons (dV 1) dNil))) dNil)))))
  B_law_ways_right_293)
noncomputable def B_law_ways_right_291 : DS := (sSeq (sSet 5 (dPn (opLst false) (dCons (dCall F_law_parts [] (dCons (dPn (opLst false) (dCons (dV 4) dNil)) (dCons (dV 1) dNil))) (dCons (dCall F_law_parts [] (dCons (dP2 (opAdd false) (dV 0) (dPn (opLst false) (dCons (dPn opTup (dCons (dC (.str "not")) (dCons (dV 1) dNil))) dNil))) (dCons (dPn opTup (dCons (dC (.str "or")) (dCons (dPn opTup dNil) dNil))) dNil))) (dCons (dCall F_law_parts [] (dCons (dPn (opLst false) dNil) (dCons (dPn opTup (dCons (dC (.str "so")) (dCons (dV 4) (dCons (dV 1) dNil)))) dNil))) dNil)))))
  B_law_ways_right_292)
noncomputable def B_law_ways_right_290 : DS := (sSeq (sPar 3 4 (dCons (dCall F_law_parts [] (dCons (dV 0) (dCons (dV 1) dNil))) (dCons (dPn opTup (dCons (dC (.str "and")) (dCons (dPn opTu (dCons (dV 0) dNil)) dNil))) dNil)))
  B_law_ways_right_291)
noncomputable def B_law_ways_right : DS := B_law_ways_right_290
noncomputable def F_law_ways_right : Fn := fnF 3 7 B_law_ways_right
theorem c_law_ways_right (T : Facts w K mg) : CalG P w K mg base (ctK K) 66 "_law_ways_right" F_law_ways_right [] := calG_of (k := 65) 3 7 T.d53 sc_law_ways_right rfl rfl fun f cdv A outer s H E hr hg => by
  have nd := sc_law_ways_right.nd
  have hu := hu_room hr
  unfold B_law_ways_right
  unfold B_law_ways_right_290
  refine msCons (msPar (i := 3) (j := 4) rfl nd (mCons (mCall (c_law_parts T) (hr.mono (by omega)) hg def_takes (mCons (mV 0) (mCons (mV 1) mNil))) (mCons (mTup (mCons mS (mCons (mCallT tu_op (mCons (mV 0) mNil) T.z_tuple) mNil))) mNil))) ?_
  unfold B_law_ways_right_291
  refine msCons (msSet (i := 5) nd (mLst (own := false) (mCons (mCall (c_law_parts T) (hr.mono (by omega)) hg def_takes (mCons (mLst (own := false) (mCons (mV 4) mNil)) (mCons (mV 1) mNil))) (mCons (mCall (c_law_parts T) (hr.mono (by omega)) hg def_takes (mCons (mBin (op2_add (own := false)) (mV 0) (mLst (own := false) (mCons (mTup (mCons mS (mCons (mV 1) mNil))) mNil))) (mCons (mTup (mCons mS (mCons (mTup mNil) mNil))) mNil))) (mCons (mCall (c_law_parts T) (hr.mono (by omega)) hg def_takes (mCons (mLst (own := false) mNil) (mCons (mTup (mCons mS (mCons (mV 4) (mCons (mV 1) mNil)))) mNil))) mNil))))) ?_
  unfold B_law_ways_right_292
  refine msCons (msSet (i := 5) nd (mBin (op2_add (own := false)) (mV 5) (mLst (own := false) (mCons (mCall (c_law_parts T) (hr.mono (by omega)) hg def_takes (mCons (mLst (own := false) mNil) (mCons (mTup (mCons mS (mCons (mTup (mCons mS (mCons (mTup (mCons (mV 4) (mCons (mTup (mCons mS (mCons (mV 1) mNil))) mNil))) mNil))) mNil))) mNil))) (mCons (mCall (c_law_parts T) (hr.mono (by omega)) hg def_takes (mCons (mBin (op2_add (own := false)) (mRevL (mV 0)) (mV 0)) (mCons (mV 1) mNil))) mNil))))) ?_
  unfold B_law_ways_right_293
  refine msCons (msIf (MW.mt (mOr (mTcmp (op2_ne (hu4 hu)) (mV 5) (mBin (op2_mul (own := false)) (mLst (own := false) (mCons (mV 3) mNil)) mI)) (mOr1 (MW.mt (mAnd (mNot (mTv (mV 3))) (mAnd1 (mTv (mCall (c_law_parts T) (hr.mono (by omega)) hg def_takes (mCons (mBin (op2_add (own := false)) (mV 0) (mLst (own := false) (mCons (mV 2) mNil))) (mCons (mV 1) mNil))))))))))
  (msOne (msRet mB)) msNil) ?_
  unfold B_law_ways_right_295
  refine msCons (msIf (MW.mt (mOr (mTcmp (op2_ne (hu4 hu)) (mLc (ow := false) (own := [("_law_one", 6)]) rfl nd (miV (mV 0)) (blkOk_by (N := ["_law_some", "_law_s", "_law_more", "_law_due", "_law_both", "_law_ways", "_law_one"]) (sc := C8.fnScope st_law_ways_right) (own := [("_law_one", 6)]) (by decide +kernel)) (by decide) (fun _ _ _ _ _ => (mgN 6 nd)) (fun _ _ _ _ _ => (mpOne (mTv (mCall (c_law_parts T) (hr.mono (by omega)) hg takesF (mCons (mV 0) (mCons (mV 6) mNil)))))) (fun _ _ _ _ _ => (mV 6))) (mLst (own := false) mNil)) (mOr1 (mTv (mCall (c_law_parts T) (hr.mono (by omega)) hg def_takes (mCons (mBin (op2_add (own := false)) (mV 0) (mLst (own := false) (mCons (mV 1) mNil))) (mCons (mV 1) mNil)))))))
  (msOne (msRet mB)) msNil) ?_
  exact msOne (msRet (mAndV (mCmp (op2_eq (hu4 hu)) (mCall (c_letters_put T 30) (hr.mono (by omega)) hg def_takes (mCons (mV 4) (mCons (mTup mNil) mNil))) (mV 4)) (mAndV1 (mCmp (op2_eq (hu4 hu)) (mCall (c_law_parts T) (hr.mono (by omega)) hg def_takes (mCons (mV 0) (mCons (mTup (mCons mS (mCons (mTup (mCons (mV 1) (mCons (mV 2) mNil))) mNil))) mNil))) (mOrV (mV 3) (mAndV1 (mCall (c_law_parts T) (hr.mono (by omega)) hg def_takes (mCons (mV 0) (mCons (mV 2) mNil)))))))))

abbrev st_law : Stmt := topS 54
theorem sc_law : FnScope ["_law_script", "_law_feed_here", "_law_turn", "_law_some", "_law_s", "_law_more", "_law_many", "_law_row", "_law_k"] ["_law_script"] (C8.fnScope st_law) := ⟨rfl, rfl, rfl, by decide +kernel, rfl, by decide +kernel, by decide +kernel⟩
noncomputable def B_law_310 : DS := (sIf (dAnd (dTb (dP2 (opIs true) (dV 7) (dC .none))) (dTv (dCall F_law_let [] (dCons (dPn (opLst false) (dCons (dV 5) (dCons (dV 4) dNil))) (dCons (dV 4) (dCons (dV 7) dNil))))))
  (sRet (dC (.bool false))) sNext)
noncomputable def B_law_309 : DS := (sSeq (sSet 7 (dCall (prowF 14) [] (dCons (dPn (opLst false) (dCons (dV 5) dNil)) (dCons (dV 4) dNil))))
  B_law_310)
noncomputable def B_law_308 : DS := (sIf (dTb (dP2 opLt (dV 6) (dC (.int 6))))
  B_law_309 sNext)
noncomputable def B_law_306 : DS := (sSeq (sIf (dAnd (dTb (dP2 opLt (dV 6) (dC (.int 9)))) (dNot (dTv (dCall F_law_ways_right [] (dCons (dV 3) (dCons (dV 4) (dCons (dV 5) dNil)))))))
  (sRet (dC (.bool false))) sNext)
  B_law_308)
noncomputable def B_law_304 : DS := (sSeq (sIf (dAnd (dTb (dP2 opLt (dV 6) (dC (.int 6)))) (dNot (dTv (dCall F_law_rows_right [] (dCons (dV 3) (dCons (dV 4) dNil))))))
  (sRet (dC (.bool false))) sNext)
  B_law_306)
noncomputable def B_law_303 : DS := (sSeq (sSet 6 (dPn (orO opLen opLenD) (dCons (dCall (oatomsF 14) [] (dCons (dP2 (opAdd false) (dV 3) (dPn (opLst false) (dCons (dV 4) (dCons (dV 5) dNil)))) dNil)) dNil)))
  B_law_304)
noncomputable def B_law_302 : DS := (sSeq (sPar 4 5 (dCons (dCall (sayF 8) [] (dCons (dV 1) (dCons (dPn (opLst true) (dCons (dC (.int 5)) dNil)) (dCons (dC (.bool false)) dNil)))) (dCons (dCall (sayF 8) [] (dCons (dV 1) (dCons (dPn (opLst true) (dCons (dC (.int 4)) dNil)) (dCons (dC (.bool false)) dNil)))) dNil)))
  B_law_303)
noncomputable def B_law_301 : DS := (sSeq (sSet 3 (dLc false (dIs iR1 (dCons (dCall drawF [] (dCons (dV 1) (dCons (dC (.int 4)) dNil))) dNil)) (gN 8) dYes (dCall (sayF 8) [] (dCons (dV 1) (dCons (dPn (opLst true) (dCons (dC (.int 4)) dNil)) (dCons (dC (.bool false)) dNil)))) [8]))
  B_law_302)
noncomputable def B_law_300 : DS := (sSeq (sFor (dIs iR1 (dCons (dC (.int 5)) dNil)) (gN 2)
  B_law_301)
  (sRet (dC (.bool true))))
noncomputable def B_law_299 : DS := (sSeq (sSet 1 (dCall feedF [] (dCons (dV 0) dNil)))
  B_law_300)
noncomputable def B_law : DS := B_law_299
noncomputable def F_law : Fn := fnF 1 9 B_law
theorem c_law (T : Facts w K mg) : CalP P w K mg base (ctK K) 67 "law" ["_law_script"] F_law := calP_of (k := 66) 1 9 T.d54 sc_law rfl rfl fun f cdv A outer s H E hr hg => by
  have nd := sc_law.nd
  have hu := hu_room hr
  unfold B_law
  unfold B_law_299
  refine msCons (msSet (i := 1) nd (mCall (c_law_feed T) (hr.mono (by omega)) hg def_takes (mCons (mV 0) mNil))) ?_
  unfold B_law_300
  refine msCons (msFor def_owns rfl (miR1 (mCons mI mNil) T.z_range) (mgN 2 nd)
  (msCons (msSetLc (i := 3) (ow := false) (own := [("_law_k", 8)]) rfl nd (hi := (miR1 (mCons (mCall (c_law_draw T) (hr.mono (by omega)) hg def_takes (mCons (mV 1) (mCons mI mNil))) mNil) T.z_range)) (ok := (blkOk_by (N := ["_law_script", "_law_feed_here", "_law_turn", "_law_some", "_law_s", "_law_more", "_law_many", "_law_row", "_law_k"]) (sc := C8.fnScope st_law) (own := [("_law_k", 8)]) (by decide +kernel))) (hsub := by decide) (hg := fun _ _ _ _ _ => (mgN 8 nd)) (ht := fun _ _ _ _ _ => mpNil) (he := fun _ _ _ _ _ => (mCall (c_law_saying T 8) (hr.mono (by omega)) hg takesF (mCons (mV 1) (mCons (mLst (own := true) (mCons mI mNil)) (mCons mB mNil))))))
  (msCons (msPar (i := 4) (j := 5) rfl nd (mCons (mCall (c_law_saying T 8) (hr.mono (by omega)) hg def_takes (mCons (mV 1) (mCons (mLst (own := true) (mCons mI mNil)) (mCons mB mNil)))) (mCons (mCall (c_law_saying T 8) (hr.mono (by omega)) hg def_takes (mCons (mV 1) (mCons (mLst (own := true) (mCons mI mNil)) (mCons mB mNil)))) mNil)))
  (msCons (msSet (i := 6) nd (mCallB len_opA (mCons (mCall (c_outer_atoms T) (hr.mono (by omega)) hg def_takes (mCons (mBin (op2_add (own := false)) (mV 3) (mLst (own := false) (mCons (mV 4) (mCons (mV 5) mNil)))) mNil)) mNil) T.z_len))
  (msCons (msIf (MW.mt (mAnd (mTcmp (op2_lt hu) (mV 6) mI) (mAnd1 (mNot (mTv (mCall (c_law_rows_right T) (hr.mono (by omega)) hg def_takes (mCons (mV 3) (mCons (mV 4) mNil))))))))
  (msOne (msRet mB)) msNil)
  (msCons (msIf (MW.mt (mAnd (mTcmp (op2_lt hu) (mV 6) mI) (mAnd1 (mNot (mTv (mCall (c_law_ways_right T) (hr.mono (by omega)) hg def_takes (mCons (mV 3) (mCons (mV 4) (mCons (mV 5) mNil)))))))))
  (msOne (msRet mB)) msNil)
  (msOne (msIf (mTcmp (op2_lt hu) (mV 6) mI)
  (msCons (msSet (i := 7) nd (mCall (c_parting_row T) (hr.mono (by omega)) hg def_takes (mCons (mLst (own := false) (mCons (mV 5) mNil)) (mCons (mV 4) mNil))))
  (msOne (msIf (MW.mt (mAnd (mTcmp op2_isnot (mV 7) mN) (mAnd1 (mTv (mCall (c_law_let T) (hr.mono (by omega)) hg def_takes (mCons (mLst (own := false) (mCons (mV 5) (mCons (mV 4) mNil))) (mCons (mV 4) (mCons (mV 7) mNil))))))))
  (msOne (msRet mB)) msNil))) msNil)))))))) ?_
  exact msOne (msRet mB)
end
end Mok09

set_option autoImplicit false
namespace Mok09
open PySem PySem.Spec PyProof.Rows L2
/-! ### the row let in, or not -/
section
variable {ρ ρ1 : Env} {μ μ1 : Mem}
theorem sSeq_nx {a b : DS} (h : a ρ μ = .nx ρ1 μ1) : sSeq a b ρ μ = b ρ1 μ1 := by
  unfold sSeq
  rw [h]
theorem sSeq_exc {a b : DS} {x : Xc} (h : a ρ μ = .exc x ρ1 μ1) : sSeq a b ρ μ = .exc x ρ1 μ1 := by
  unfold sSeq
  rw [h]
theorem sIf_t {c : DT} {a b : DS} (h : c ρ μ = .ok true μ1) : sIf c a b ρ μ = a ρ μ1 := by
  unfold sIf
  rw [h]
  rfl
theorem sRaise_eq {x : Str} {fs : List Str} {da : DA} {ws : List W} {xs : List PyData} (h : da ρ μ = .ok ws μ1) (hd : datas ws = some xs) (hl : xs.length = fs.length) : sRaise x fs da ρ μ = .exc ⟨x, (fs.zip xs).reverse⟩ ρ μ1 := by
  unfold sRaise
  rw [h]
  dsimp only
  rw [hd]
  dsimp only
  rw [if_pos hl]
theorem callF_exc {F : Fn} {ws : List W} {xs : List PyData} {x : Xc} (hd : datas ws = some xs) (h : F ws [] = .exc x μ1) : callF F ws μ = .exc x μ := by
  unfold callF
  rw [hd]
  dsimp only
  rw [h]
theorem fnF_exc {np n : Nat} {b : DS} {ws : List W} {x : Xc} (hl : ws.length = np) (h : b (ws.map some ++ List.replicate (n - ws.length) none) μ = .exc x ρ1 μ1) : fnF np n b ws μ = .exc x μ1 := by
  unfold fnF
  rw [if_pos hl, h]
end
theorem lets_exc {a b c : PyData} {w : Str} {i : Int} (e : ∀ μ, callF F_row_fault [.d a, .d b, .d c] μ = .ok (.d (flt w i)) μ) (μ : Mem) : callF F_lets_parting_rowX [.d a, .d b, .d c] μ = .exc ⟨"NoPaper", [("at", .int i), ("word", .str w)]⟩ μ := by
  refine callF_exc (μ1 := []) rfl ?_
  refine fnF_exc (ρ1 := [some (.d a), some (.d b), some (.d c), some (.d (flt w i))]) rfl ?_
  show B_lets_parting_rowX [some (.d a), some (.d b), some (.d c), none] [] = _
  unfold B_lets_parting_rowX
  refine (sSeq_nx (ρ1 := [some (.d a), some (.d b), some (.d c), some (.d (flt w i))]) (μ1 := []) ?_).trans (sSeq_exc ((sIf_t (μ1 := []) ?_).trans (sRaise_eq (μ1 := []) (ws := [.d (.str w), .d (.int i)]) ?_ rfl rfl)))
  · have : Oks (sSet 3 (dCall F_row_fault [] (dCons (dV 0) (dCons (dV 1) (dCons (dV 2) dNil)))) [some (.d a), some (.d b), some (.d c), none] []) (fun ρ μ => ρ = [some (.d a), some (.d b), some (.d c), some (.d (flt w i))] ∧ μ = []) (fun _ _ => False) (fun _ _ => False) (fun _ _ => False) := by
      simp [e]
    revert this
    cases sSet 3 (dCall F_row_fault [] (dCons (dV 0) (dCons (dV 1) (dCons (dV 2) dNil)))) [some (.d a), some (.d b), some (.d c), none] [] with
    | nx ρ μ => rintro ⟨rfl, rfl⟩; rfl
    | _ => intro h; exact h.elim
  · have : Ok (dTb (dP2 (opIs true) (dV 3) (dC .none)) [some (.d a), some (.d b), some (.d c), some (.d (flt w i))] []) fun t μ => t = true ∧ μ = [] := by
      simp [flt, okO_notNone]
    obtain ⟨t, μ1, h, rfl, rfl⟩ := this.ex
    exact h
  · have : Ok (dCons (dP2 opIxA (dV 3) (dC (.int 0))) (dCons (dP2 opIxA (dV 3) (dC (.int 1))) dNil) [some (.d a), some (.d b), some (.d c), some (.d (flt w i))] []) fun t μ => t = [.d (.str w), .d (.int i)] ∧ μ = [] := by
      simp [flt]
    obtain ⟨t, μ1, h, rfl, rfl⟩ := this.ex
    exact h
theorem lets_true {a b c : PyData} (e : ∀ μ, callF F_row_fault [.d a, .d b, .d c] μ = .ok (.d .none) μ) (μ : Mem) : callF F_lets_parting_rowX [.d a, .d b, .d c] μ = .ok (.d (.bool true)) μ := by
  refine call_pure rfl ?_
  simp [F_lets_parting_rowX, B_lets_parting_rowX, e, okO_notNone]
theorem let_no {a b c : PyData} {w : Str} {i : Int} (e : ∀ μ, callF F_row_fault [.d a, .d b, .d c] μ = .ok (.d (flt w i)) μ) (μ : Mem) : callF F_law_let [.d a, .d b, .d c] μ = .ok (.d (.bool false)) μ := by
  refine call_pure rfl ?_
  have h : sSet 3 (dCall F_lets_parting_rowX [] (dCons (dV 0) (dCons (dV 1) (dCons (dV 2) dNil)))) [some (.d a), some (.d b), some (.d c), some (.d (.bool false))] [] = .exc ⟨"NoPaper", [("at", .int i), ("word", .str w)]⟩ [some (.d a), some (.d b), some (.d c), some (.d (.bool false))] [] := by
    have := lets_exc e []
    simp [sSet, dCall, dCons, dV, dNil, this]
  simp [F_law_let, B_law_let, sTry_exc h (show hitL [("NoPaper", true)] "NoPaper" = some true from rfl), oks_noXs]
theorem let_yes {a b c : PyData} (e : ∀ μ, callF F_row_fault [.d a, .d b, .d c] μ = .ok (.d .none) μ) (μ : Mem) : callF F_law_let [.d a, .d b, .d c] μ = .ok (.d (.bool true)) μ := by
  refine call_pure rfl ?_
  have h : sSet 3 (dCall F_lets_parting_rowX [] (dCons (dV 0) (dCons (dV 1) (dCons (dV 2) dNil)))) [some (.d a), some (.d b), some (.d c), some (.d (.bool false))] [] = .nx [some (.d a), some (.d b), some (.d c), some (.d (.bool true))] [] := by
    have := lets_true e []
    simp [sSet, dCall, dCons, dV, dNil, this]
  simp [F_law_let, B_law_let, sTry_nx h]
theorem first_false (p : Nat → Bool) (n : Nat) : (∀ j, j < n → p j = false) ∨ ∃ k, k < n ∧ p k = true ∧ ∀ j, j < k → p j = false := by
  induction n with
  | zero => exact .inl fun j h => absurd h (Nat.not_lt_zero j)
  | succ n ih =>
    rcases ih with h | ⟨k, h1, h2, h3⟩
    · by_cases hp : p n = true
      · exact .inr ⟨n, Nat.lt_succ_self n, hp, h⟩
      · refine .inl fun j hj => ?_
        rcases Nat.lt_or_ge j n with z | z
        · exact h j z
        · have e : j = n := by omega
          rw [e]
          simpa using hp
    · exact .inr ⟨k, Nat.lt_succ_of_lt h1, h2, h3⟩
/-- a row of the atoms is let in where it parts -/
theorem let_eq {l A : List Sg} {s : Sg} {y : PyData} {ts : List Bool} (hy : y = .list (Sg.ds l) ∨ y = .tuple (Sg.ds l)) (h : Row 14 l s A) (hs : ∀ a ∈ A, say true a.d = true) (th : Th 64 90000 (rowW A ts)) (hl : ts.length = A.length) (μ : Mem) :
    callF F_law_let [.d y, .d s.d, .d (rowW A ts)] μ = .ok (.d (.bool (parts A l s ts))) μ := by
  obtain ⟨r, hr, e⟩ := row_fault_ex hy h th
  have lay : ∀ a ∈ A, a.d.canLay0 = true := fun a ha => (oat_rp h.os ((h.mem a).mp ha)).lay
  have ra := fun j (_ : j < A.length) => row_atom hl lay j
  rcases first_false (falseB A l ts) l.length with h0 | ⟨k, k1, k2, k3⟩
  · have t := hr.tru _ rfl (row_K hs) (row_len hl) ra (by rw [trus_row hl]; exact h0)
    rw [trus_row hl] at t
    have hall : (l.all fun x => ev (vOf A ts) (core x)) = true := List.all_eq_true.mpr fun x hx => by
      obtain ⟨j, hj⟩ := List.mem_iff_getElem?.mp hx
      have := h0 j (List.getElem?_eq_some_iff.mp hj).1
      unfold falseB at this
      rw [hj] at this
      simpa using this
    unfold parts
    rw [hall, Bool.and_true]
    cases hv : ev (vOf A ts) (core s) with
    | true =>
      rw [hv, if_pos rfl] at t
      subst t
      exact let_no e μ
    | false =>
      rw [hv] at t
      have t : r = .none := t
      subst t
      exact let_yes e μ
  · have t := hr.fals _ k rfl (row_K hs) (row_len hl) ra k1 (by rw [trus_row hl]; exact k2) (by rw [trus_row hl]; exact k3)
    subst t
    have hall : (l.all fun x => ev (vOf A ts) (core x)) = false := by
      rw [List.all_eq_false]
      unfold falseB at k2
      split at k2
      · rename_i x hx
        exact ⟨x, List.mem_of_getElem? hx, by simpa using k2⟩
      · cases k2
    unfold parts
    rw [hall, Bool.and_false]
    exact let_no e μ
end Mok09

set_option autoImplicit false
namespace Mok09
open PySem PySem.Spec PyProof.Rows L2
/-! ### a core with letters in place of its atoms -/
mutual
def flat (f : Sg → Sg) : Sg → Sg
  | .lt x => f (.lt x)
  | .no s => .no (flat f s)
  | .many w l => .many w (flats f l)
  | .so a b => .so (flat f a) (flat f b)
  | .tl a b => .tl a b
  | .mod w x s => f (.mod w x s)
def flats (f : Sg → Sg) : List Sg → List Sg
  | [] => []
  | s :: r => flat f s :: flats f r
end
theorem flats_map (f : Sg → Sg) : ∀ l, flats f l = l.map (flat f)
  | [] => rfl
  | s :: r => by rw [flats, flats_map f r, List.map_cons]
def xN : Nat → Str
  | 0 => "xa"
  | 1 => "xb"
  | 2 => "xc"
  | 3 => "xd"
  | 4 => "xe"
  | _ => "xf"
noncomputable def idxS : List Sg → Sg → Nat
  | [], _ => 0
  | a :: A, c => @ite _ (c = a) (Classical.propDecidable _) 0 (idxS A c + 1)
def namesF : Nat → List Sg → List (PyData × PyData)
  | _, [] => []
  | j, a :: A => (.str a.d.shown, .str (xN j)) :: namesF (j + 1) A
theorem getN_in : ∀ {A : List Sg} {j : Nat} {c : Sg}, (∀ a ∈ A, a.sok) → c.sok → c ∈ A → getD (namesF j A) (.str c.d.shown) = some (.str (xN (j + idxS A c)))
  | a :: A, j, c, hs, hc, h => by
    simp only [namesF, idxS]
    rw [getD_str]
    by_cases e : c = a
    · subst e; simp
    · have : ¬ a.d.shown = c.d.shown := fun z => e (repr_inj (hs a (by simp)) hc z).symm
      rw [if_neg this, if_neg e, getN_in (fun x hx => hs x (List.mem_cons_of_mem _ hx)) hc ((List.mem_cons.mp h).resolve_left e)]
      rw [show j + 1 + idxS A c = j + (idxS A c + 1) by omega]
  | [], _, _, _, _, h => by cases h
theorem getN_out : ∀ {A : List Sg} {j : Nat} {c : Sg}, (∀ a ∈ A, a.sok) → c.sok → c ∉ A → getD (namesF j A) (.str c.d.shown) = none
  | a :: A, j, c, hs, hc, h => by
    simp only [namesF]
    rw [getD_str]
    have : ¬ a.d.shown = c.d.shown := fun z => h (by rw [repr_inj (hs a (by simp)) hc z]; simp)
    rw [if_neg this]
    exact getN_out (fun x hx => hs x (List.mem_cons_of_mem _ hx)) hc fun z => h (List.mem_cons_of_mem _ z)
  | [], _, _, _, _, _ => by simp [namesF, getD]
noncomputable def lnA (A : List Sg) (c : Sg) : Sg := .lt (xN (idxS A c))
theorem lflat_ok {A : List Sg} (hA : AtA A) : ∀ (n : Nat) (c : Sg), c.ht < n → c.sok → c.d.depth ≤ 60 → c.sz ≤ 3000 → Co A c → ∀ μ, callF (F_law_flat n) [.d c.d, .d (.dict (namesF 0 A))] μ = .ok (.d (flat (lnA A) c).d) μ := by
  intro n
  induction n with
  | zero => intro c h; omega
  | succ n ih =>
    intro c hn hs hd hz hc μ
    refine call_pure rfl ?_
    obtain ⟨a1, a2, a3, a4⟩ := sg_rp hs
    have rp : Rp c.d := ⟨a1, by omega, a3, Nat.le_trans (show wt c.d ≤ 100000 by omega) (by decide)⟩
    have rin : ∀ {P : W → Mem → Prop} {μ : Mem}, OkO (opRepr [.d c.d] μ) P = P (.d (.str c.d.shown)) μ := okO_repr rp
    have sub : ∀ p ∈ c.inn, Co A p → ∀ μ, callF (F_law_flat n) [.d p.d, .d (.dict (namesF 0 A))] μ = .ok (.d (flat (lnA A) p).d) μ := fun p hp hq => ih p (by have := inn_ht hp; omega) (inn_sok hp hs) (by have := inn_dep hp; omega) (by have := sz_inn c; have := mem_sz hp; omega) hq
    have atom : c ∈ A → flat (lnA A) c = lnA A c → Ok (F_law_flat (n + 1) [.d c.d, .d (.dict (namesF 0 A))] []) fun w _ => w = .d (flat (lnA A) c).d := by
      intro h e
      have g := getN_in (j := 0) hA.sok hs h
      rw [Nat.zero_add] at g
      simp [F_law_flat, B_law_flat, rin, okO_inDict, g, okO_ixDict g, e, lnA, Sg.d]
    have out : c.atom = false → getD (namesF 0 A) (.str c.d.shown) = none := fun h => getN_out hA.sok hs fun z => by
      rw [hA.at_ c z] at h
      cases h
    cases c with
    | lt x => exact atom hc rfl
    | tl a b => exact hc.elim
    | mod w x s =>
      obtain ⟨rfl, h⟩ := hc
      exact atom h rfl
    | no s =>
      have g := out (atom_no s)
      have e := sub s (by simp [Sg.inn]) hc
      simp only [Sg.d] at rin g
      simp (config := { decide := true }) [F_law_flat, B_law_flat, rin, okO_inDict, g, Sg.d, flat, ok_dLc]
      refine each_list (l := [s]) (f := flat (lnA A)) (le_size (by simp)) (fun x hx => ?_) ?_
      · rw [List.mem_singleton.mp hx]
        simp [dCall, dCons, dNil, wipeE, dV, e]
      · simp [Sg.ds]
    | so a b =>
      have g := out (atom_so a b)
      have e1 := sub a (by simp [Sg.inn]) hc.1
      have e2 := sub b (by simp [Sg.inn]) hc.2
      simp only [Sg.d] at rin g
      simp (config := { decide := true }) [F_law_flat, B_law_flat, rin, okO_inDict, g, Sg.d, flat, ok_dLc]
      refine each_list (l := [a, b]) (f := flat (lnA A)) (le_size (by simp)) (fun x hx => ?_) ?_
      · rcases List.mem_cons.mp hx with rfl | hx
        · simp [dCall, dCons, dNil, wipeE, dV, e1]
        · rw [List.mem_singleton.mp hx]
          simp [dCall, dCons, dNil, wipeE, dV, e2]
      · simp [Sg.ds]
    | many w l =>
      have g := out (atom_many w l)
      have hl' : (Sg.ds l).length ≤ sizeLine := by rw [ds_len]; exact le_size hs.2
      simp only [Sg.d] at rin g
      cases w with
      | false =>
        simp only [show wMany false = "and" from rfl] at rin g
        simp (config := { decide := true }) [F_law_flat, B_law_flat, rin, okO_inDict, g, Sg.d, flat, ok_dLc, show wMany false = "and" from rfl]
        refine each_list (f := flat (lnA A)) (le_size hs.2) (fun x hx => ?_) ?_
        · have := sub x hx (cos_all.mp hc x hx)
          simp [dCall, dCons, dNil, wipeE, dV, this]
        · simp [flats_map, ds_map]
          exact le_size hs.2
      | true =>
        simp only [show wMany true = "or" from rfl] at rin g
        simp (config := { decide := true }) [F_law_flat, B_law_flat, rin, okO_inDict, g, Sg.d, flat, ok_dLc, show wMany true = "or" from rfl]
        refine each_list (f := flat (lnA A)) (le_size hs.2) (fun x hx => ?_) ?_
        · have := sub x hx (cos_all.mp hc x hx)
          simp [dCall, dCons, dNil, wipeE, dV, this]
        · simp [flats_map, ds_map]
          exact le_size hs.2
end Mok09

set_option autoImplicit false
namespace Mok09
open PySem PySem.Spec PyProof.Rows L2
theorem sw_x (k : Nat) : Sw (xN k) := by
  match k with
  | 0 => decide +kernel
  | 1 => decide +kernel
  | 2 => decide +kernel
  | 3 => decide +kernel
  | 4 => decide +kernel
  | n + 5 => exact (by decide +kernel : Sw "xf")
theorem sz_pos (s : Sg) : 1 ≤ s.sz := by cases s <;> simp [Sg.sz]
structure Fl (s c : Sg) : Prop where
  ht : c.ht ≤ s.ht
  sz : c.sz ≤ s.sz
  sok : s.sok → c.sok
  pl : c.pl
  co : core c = c
structure Fls (s c : List Sg) : Prop where
  ht : Sg.hts c ≤ Sg.hts s
  sz : Sg.szs c ≤ Sg.szs s
  sok : Sg.soks s → Sg.soks c
  pl : Sg.pls c
  co : cores c = c
  len : c.length = s.length
section
variable (A : List Sg)
mutual
theorem fl_of : ∀ s : Sg, s.pl → Fl s (flat (lnA A) (core s))
  | .lt x, _ => ⟨by simp [core, flat, lnA, Sg.ht], by simp [core, flat, lnA, Sg.sz], fun _ => sw_x _, trivial, rfl⟩
  | .no s, h => by
    obtain ⟨h1, h2, h3, h4, h5⟩ := fl_of s h
    exact ⟨by simp only [core, flat, Sg.ht]; omega, by simp only [core, flat, Sg.sz]; omega, h3, h4, by simp only [core, flat]; rw [h5]⟩
  | .many w l, h => by
    obtain ⟨h1, h2, h3, h4, h5, h6⟩ := fls_of l h
    exact ⟨by simp only [core, flat, Sg.ht]; omega, by simp only [core, flat, Sg.sz]; omega, fun k => ⟨h3 k.1, by have := k.2; exact h6.symm ▸ this⟩, h4, by simp only [core, flat]; rw [h5]⟩
  | .so a b, h => by
    obtain ⟨h1, h2, h3, h4, h5⟩ := fl_of a h.1
    obtain ⟨g1, g2, g3, g4, g5⟩ := fl_of b h.2
    exact ⟨by simp only [core, flat, Sg.ht]; omega, by simp only [core, flat, Sg.sz]; omega, fun k => ⟨h3 k.1, g3 k.2⟩, ⟨h4, g4⟩, by simp only [core, flat]; rw [h5, g5]⟩
  | .tl _ _, h => h.elim
  | .mod true x s, _ => ⟨by simp [core, flat, lnA, Sg.ht], by have := sz_pos s; show 1 + 1 ≤ s.sz + 1; omega, fun _ => sw_x _, trivial, rfl⟩
  | .mod false x s, _ => ⟨by simp [core, flat, lnA, Sg.ht], by show 1 ≤ s.sz + 1; omega, fun _ => sw_x _, trivial, rfl⟩
theorem fls_of : ∀ l : List Sg, Sg.pls l → Fls l (flats (lnA A) (cores l))
  | [], _ => ⟨by simp [cores, flats], by simp [cores, flats], fun h => h, trivial, rfl, rfl⟩
  | s :: r, h => by
    obtain ⟨h1, h2, h3, h4, h5⟩ := fl_of s h.1
    obtain ⟨g1, g2, g3, g4, g5, g6⟩ := fls_of r h.2
    exact ⟨by simp only [cores, flats, Sg.hts]; omega, by simp only [cores, flats, Sg.szs]; omega, fun k => ⟨h3 k.1, g3 k.2⟩, ⟨h4, g4⟩, by simp only [cores, flats]; rw [h5, g5], by simp only [cores, flats, List.length_cons]; rw [g6]⟩
end
mutual
theorem ev_flat {v u : Sg → Bool} : ∀ c : Sg, Co A c → (∀ a ∈ outs c, v (lnA A a) = u a) → ev v (flat (lnA A) c) = ev u c
  | .lt x, _, h => h _ (by simp [outs])
  | .no s, k, h => by simp only [flat, ev]; rw [ev_flat s k h]
  | .many w l, k, h => by
    obtain ⟨h1, h2⟩ := evs_flat l k h
    simp only [flat, ev]
    rw [h1, h2]
  | .so a b, k, h => by
    simp only [flat, ev]
    rw [ev_flat a k.1 fun x hx => h x (List.mem_append_left _ hx), ev_flat b k.2 fun x hx => h x (List.mem_append_right _ hx)]
  | .tl _ _, k, _ => k.elim
  | .mod true x s, k, _ => by cases k.1
  | .mod false x s, _, h => h _ (by simp [outs])
theorem evs_flat {v u : Sg → Bool} : ∀ l : List Sg, Cos A l → (∀ a ∈ outss l, v (lnA A a) = u a) → evAny v (flats (lnA A) l) = evAny u l ∧ evAll v (flats (lnA A) l) = evAll u l
  | [], _, _ => ⟨rfl, rfl⟩
  | s :: r, k, h => by
    have h1 := ev_flat s k.1 fun x hx => h x (List.mem_append_left _ hx)
    obtain ⟨h2, h3⟩ := evs_flat r k.2 fun x hx => h x (List.mem_append_right _ hx)
    simp only [flats, evAny, evAll]
    rw [h1, h2, h3]
    exact ⟨rfl, rfl⟩
end
mutual
theorem at_flat {x : Sg} : ∀ c : Sg, Co A c → (x ∈ allP (flat (lnA A) c) ∧ x.atom = true ↔ ∃ a ∈ outs c, x = lnA A a)
  | .lt y, _ => by
    constructor
    · rintro ⟨h, _⟩
      exact ⟨_, by simp [outs], List.mem_singleton.mp h⟩
    · rintro ⟨a, h, rfl⟩
      rw [List.mem_singleton.mp h]
      exact ⟨by simp [flat, lnA, allP], atom_lt _⟩
  | .no s, k => by
    simp only [flat, allP, outs]
    rw [← at_flat s k, List.mem_cons]
    constructor
    · rintro ⟨rfl | h, ha⟩
      · rw [atom_no] at ha; cases ha
      · exact ⟨h, ha⟩
    · exact fun ⟨h, ha⟩ => ⟨.inr h, ha⟩
  | .many w l, k => by
    simp only [flat, allP, outs]
    rw [← ats_flat l k, List.mem_cons]
    constructor
    · rintro ⟨rfl | h, ha⟩
      · rw [atom_many] at ha; cases ha
      · exact ⟨h, ha⟩
    · exact fun ⟨h, ha⟩ => ⟨.inr h, ha⟩
  | .so a b, k => by
    simp only [flat, allP, outs]
    constructor
    · rintro ⟨h, ha⟩
      rcases List.mem_cons.mp h with rfl | h
      · rw [atom_so] at ha; cases ha
      · rcases List.mem_append.mp h with h | h
        · obtain ⟨y, h1, h2⟩ := (at_flat a k.1).mp ⟨h, ha⟩
          exact ⟨y, List.mem_append_left _ h1, h2⟩
        · obtain ⟨y, h1, h2⟩ := (at_flat b k.2).mp ⟨h, ha⟩
          exact ⟨y, List.mem_append_right _ h1, h2⟩
    · rintro ⟨y, h, e⟩
      rcases List.mem_append.mp h with h | h
      · obtain ⟨h1, h2⟩ := (at_flat a k.1).mpr ⟨y, h, e⟩
        exact ⟨List.mem_cons_of_mem _ (List.mem_append_left _ h1), h2⟩
      · obtain ⟨h1, h2⟩ := (at_flat b k.2).mpr ⟨y, h, e⟩
        exact ⟨List.mem_cons_of_mem _ (List.mem_append_right _ h1), h2⟩
  | .tl _ _, k => k.elim
  | .mod true y s, k => by cases k.1
  | .mod false y s, _ => by
    constructor
    · rintro ⟨h, _⟩
      exact ⟨_, by simp [outs], List.mem_singleton.mp h⟩
    · rintro ⟨a, h, rfl⟩
      rw [List.mem_singleton.mp h]
      exact ⟨by simp [flat, lnA, allP], atom_lt _⟩
theorem ats_flat {x : Sg} : ∀ l : List Sg, Cos A l → (x ∈ allPs (flats (lnA A) l) ∧ x.atom = true ↔ ∃ a ∈ outss l, x = lnA A a)
  | [], _ => by simp [flats, allPs, outss]
  | s :: r, k => by
    simp only [flats, allPs, outss]
    constructor
    · rintro ⟨h, ha⟩
      rcases List.mem_append.mp h with h | h
      · obtain ⟨y, h1, h2⟩ := (at_flat s k.1).mp ⟨h, ha⟩
        exact ⟨y, List.mem_append_left _ h1, h2⟩
      · obtain ⟨y, h1, h2⟩ := (ats_flat r k.2).mp ⟨h, ha⟩
        exact ⟨y, List.mem_append_right _ h1, h2⟩
    · rintro ⟨y, h, e⟩
      rcases List.mem_append.mp h with h | h
      · obtain ⟨h1, h2⟩ := (at_flat s k.1).mpr ⟨y, h, e⟩
        exact ⟨List.mem_append_left _ h1, h2⟩
      · obtain ⟨h1, h2⟩ := (ats_flat r k.2).mpr ⟨y, h, e⟩
        exact ⟨List.mem_append_right _ h1, h2⟩
end
end
/-- its atoms, as sayings -/
theorem at_ofC {n : Nat} {s : Sg} (h : Cs n s) (p : s.pl) : ∃ B : List Sg, atomsD s = Sg.ds B ∧ AtA B ∧ Co B (core s) ∧ ∀ a, a ∈ B ↔ a ∈ allP (core s) ∧ a.atom = true := by
  have hc := core_sz s
  have o : Ord (Sg.ds ((allP (core s)).filter Sg.atom)) := h.ord.sub fun x hx => by
    obtain ⟨t, h1, rfl⟩ := mem_ds.mp hx
    exact mem_ds.mpr ⟨t, (List.mem_filter.mp h1).1, rfl⟩
  obtain ⟨A, e, hm, hl⟩ := rise_ds o
  have hm' : ∀ a, a ∈ A ↔ a ∈ allP (core s) ∧ a.atom = true := fun a => by rw [hm, List.mem_filter]
  have hlen : A.length ≤ 100000 := by
    have := List.length_filter_le Sg.atom (allP (core s))
    rw [allP_len] at this
    have := h.sz
    omega
  refine ⟨A, e, ⟨?_, fun a ha => ?_, fun a ha => ((hm' a).mp ha).2, hlen⟩, ?_, hm'⟩
  · have hp := (rise_spec o).1
    rw [e, ds_map, List.pairwise_map] at hp
    refine List.Pairwise.imp (fun {a b} hab => ?_) hp
    intro z
    subst z
    have := lt_asym _ _ hab
    rw [hab] at this
    cases this
  · exact (allP_sub ((hm' a).mp ha).1).1 (hc.2.2 h.sok)
  · exact co_core s p fun x hx ha => (hm' x).mpr ⟨hx, ha⟩
end Mok09

set_option autoImplicit false
namespace Mok09
open PySem PySem.Spec PyProof.Rows L2
theorem okO_ixS {μ : Mem} {P : W → Mem → Prop} {z : Str} {i : Int} {c : Nat} (hz : z.length ≤ sizeLine) (e : atI z.cps.toList i = some c) : OkO (opIxA [.d (.str z), .d (.int i)] μ) P = P (.d (.str ⟨#[c]⟩)) μ := by
  simp [opIxA, orO, opIx, seqV, viewL, sz, hz, e]
theorem abc_at {μ : Mem} {P : W → Mem → Prop} {k : Nat} (hk : k < 5) : (OkO (opIxA [.d (.str "abcdefghijklmnop"), .d (.int (k : Int))] μ) fun w μ1 => OkO (opAdd false [.d (.str "x"), w] μ1) P) = P (.d (.str (xN k))) μ := by
  have hz : ("abcdefghijklmnop" : Str).length ≤ sizeLine := by decide
  match k, hk with
  | 0, _ => rw [okO_ixS hz (i := ((0 : Nat) : Int)) (c := 97) (by decide +kernel)]; rfl
  | 1, _ => rw [okO_ixS hz (i := ((1 : Nat) : Int)) (c := 98) (by decide +kernel)]; rfl
  | 2, _ => rw [okO_ixS hz (i := ((2 : Nat) : Int)) (c := 99) (by decide +kernel)]; rfl
  | 3, _ => rw [okO_ixS hz (i := ((3 : Nat) : Int)) (c := 100) (by decide +kernel)]; rfl
  | 4, _ => rw [okO_ixS hz (i := ((4 : Nat) : Int)) (c := 101) (by decide +kernel)]; rfl
theorem eq_ok {r : Res W} {w : W} {μ : Mem} (h : Ok r fun v μ1 => v = w ∧ μ1 = μ) : r = .ok w μ := by
  obtain ⟨v, μ1, e, rfl, rfl⟩ := h.ex
  exact e
theorem names_at : ∀ {A : List Sg} {j k : Nat} {a : Sg}, A[k]? = some a → (namesF j A)[k]? = some (.str a.d.shown, .str (xN (j + k)))
  | b :: A, j, 0, a, h => by
    simp only [List.getElem?_cons_zero, Option.some.injEq] at h
    subst h
    simp [namesF]
  | b :: A, j, k + 1, a, h => by
    simp only [List.getElem?_cons_succ] at h
    have := names_at (j := j + 1) h
    simp only [namesF, List.getElem?_cons_succ]
    rw [this, show j + 1 + k = j + (k + 1) by omega]
  | [], j, k, a, h => by simp at h
theorem names_len : ∀ (A : List Sg) (j : Nat), (namesF j A).length = A.length
  | [], _ => rfl
  | a :: A, j => by simp [namesF, names_len A (j + 1)]
theorem names_mem : ∀ {A : List Sg} {j : Nat} {p : PyData × PyData}, p ∈ namesF j A → ∃ a ∈ A, p.1 = .str a.d.shown
  | a :: A, j, p, h => by
    rcases List.mem_cons.mp h with rfl | h
    · exact ⟨a, by simp, rfl⟩
    · obtain ⟨b, hb, e⟩ := names_mem h
      exact ⟨b, List.mem_cons_of_mem _ hb, e⟩
  | [], _, _, h => by cases h
theorem names_pw : ∀ {A : List Sg} {j : Nat}, A.Nodup → (∀ a ∈ A, a.sok) → (namesF j A).Pairwise (fun p q => keyD p.1 ≠ keyD q.1)
  | [], _, _, _ => by simp [namesF]
  | a :: A, j, hn, hs => by
    obtain ⟨h1, h2⟩ := List.nodup_cons.mp hn
    refine List.pairwise_cons.mpr ⟨fun p hp => ?_, names_pw h2 fun x hx => hs x (List.mem_cons_of_mem _ hx)⟩
    obtain ⟨b, hb, e⟩ := names_mem hp
    rw [e]
    intro z
    simp only [keyD, Option.some.injEq, Sum.inr.injEq] at z
    exact h1 (repr_inj (hs a (by simp)) (hs b (List.mem_cons_of_mem _ hb)) z ▸ hb)
theorem names_dict {A : List Sg} {μ : Mem} {Pw : W → Mem → Prop} (hA : AtA A) (q : Pw (.d (.dict (namesF 0 A))) μ) : OkO (opDict false [.d (.list ((namesF 0 A).map fun p => .tuple [p.1, p.2]))] μ) Pw := by
  have hz : (namesF 0 A).length ≤ sizeLine := by
    rw [names_len]
    exact le_million (by have := hA.few; omega)
  have hk : ∀ p ∈ namesF 0 A, (keyD p.1).isSome = true := fun p hp => by
    obtain ⟨a, _, e⟩ := names_mem hp
    rw [e]
    rfl
  simp [opDict, pairsD_map _ hk, mkD_nodup (names_pw hA.nodup hA.sok), mkK, sz, hz]
  exact q
/-- the truths by the letters -/
def truF : Nat → List Bool → List (PyData × PyData)
  | _, [] => []
  | j, t :: ts => (.str (xN j), .bool t) :: truF (j + 1) ts
theorem xN_inj {i j : Nat} (hi : i < 6) (hj : j < 6) (h : xN i = xN j) : i = j := by
  have key : ∀ i, i < 6 → ∀ j, j < 6 → xN i = xN j → i = j := by decide +kernel
  exact key i hi j hj h
theorem tru_get : ∀ {ts : List Bool} {j k : Nat} {t : Bool}, j + ts.length ≤ 6 → ts[k]? = some t → getD (truF j ts) (.str (xN (j + k))) = some (.bool t)
  | u :: ts, j, 0, t, _, h => by
    simp only [List.getElem?_cons_zero, Option.some.injEq] at h
    subst h
    simp only [truF]
    rw [getD_str]
    simp
  | u :: ts, j, k + 1, t, hl, h => by
    simp only [List.getElem?_cons_succ] at h
    have hk := (List.getElem?_eq_some_iff.mp h).1
    simp only [List.length_cons] at hl
    simp only [truF]
    rw [getD_str]
    have : ¬ xN j = xN (j + (k + 1)) := fun z => by
      have := xN_inj (by omega) (by omega) z
      omega
    rw [if_neg this, show j + (k + 1) = j + 1 + k by omega]
    exact tru_get (by omega) h
  | [], _, _, _, _, h => by simp at h
theorem tru_at : ∀ {ts : List Bool} {j k : Nat} {t : Bool}, ts[k]? = some t → (truF j ts)[k]? = some (.str (xN (j + k)), .bool t)
  | u :: ts, j, 0, t, h => by
    simp only [List.getElem?_cons_zero, Option.some.injEq] at h
    subst h
    simp [truF]
  | u :: ts, j, k + 1, t, h => by
    simp only [List.getElem?_cons_succ] at h
    have := tru_at (j := j + 1) h
    simp only [truF, List.getElem?_cons_succ]
    rw [this, show j + 1 + k = j + (k + 1) by omega]
  | [], _, _, _, h => by simp at h
theorem tru_len : ∀ (ts : List Bool) (j : Nat), (truF j ts).length = ts.length
  | [], _ => rfl
  | a :: A, j => by simp [truF, tru_len A (j + 1)]
theorem tru_mem : ∀ {ts : List Bool} {j : Nat} {p : PyData × PyData}, p ∈ truF j ts → ∃ k, j ≤ k ∧ k < j + ts.length ∧ p.1 = .str (xN k)
  | a :: ts, j, p, h => by
    rcases List.mem_cons.mp h with rfl | h
    · exact ⟨j, Nat.le_refl j, by simp, rfl⟩
    · obtain ⟨k, h1, h2, e⟩ := tru_mem h
      exact ⟨k, by omega, by simp only [List.length_cons]; omega, e⟩
  | [], _, _, h => by cases h
theorem tru_pw : ∀ {ts : List Bool} {j : Nat}, j + ts.length ≤ 6 → (truF j ts).Pairwise (fun p q => keyD p.1 ≠ keyD q.1)
  | [], _, _ => by simp [truF]
  | a :: ts, j, hl => by
    simp only [List.length_cons] at hl
    refine List.pairwise_cons.mpr ⟨fun p hp => ?_, tru_pw (by omega)⟩
    obtain ⟨k, h1, h2, e⟩ := tru_mem hp
    rw [e]
    intro z
    simp only [keyD, Option.some.injEq, Sum.inr.injEq] at z
    have := xN_inj (by omega) (by omega) z
    omega
theorem tru_dict {ts : List Bool} {μ : Mem} {Pw : W → Mem → Prop} (hl : ts.length ≤ 6) (q : Pw (.d (.dict (truF 0 ts))) μ) : OkO (opDict false [.d (.list ((truF 0 ts).map fun p => .tuple [p.1, p.2]))] μ) Pw := by
  have hz : (truF 0 ts).length ≤ sizeLine := by
    rw [tru_len]
    exact le_million (by omega)
  have hk : ∀ p ∈ truF 0 ts, (keyD p.1).isSome = true := fun p hp => by
    obtain ⟨a, _, _, e⟩ := tru_mem hp
    rw [e]
    rfl
  simp [opDict, pairsD_map _ hk, mkD_nodup (tru_pw (ts := ts) (j := 0) (by omega)), mkK, sz, hz]
  exact q
theorem idx_at : ∀ {A : List Sg} {ts : List Bool} {a : Sg}, ts.length = A.length → a ∈ A → ts[idxS A a]? = some (vOf A ts a)
  | b :: A, t :: ts, a, hl, h => by
    simp only [idxS, vOf]
    by_cases e : a = b
    · rw [if_pos e, if_pos e]; rfl
    · rw [if_neg e, if_neg e, List.getElem?_cons_succ]
      exact idx_at (by simpa using hl) ((List.mem_cons.mp h).resolve_left e)
  | [], _, _, _, h => by cases h
  | _ :: _, [], _, hl, _ => by simp at hl
end Mok09

set_option autoImplicit false
namespace Mok09
open PySem PySem.Spec PyProof.Rows L2
def nmOf : Sg → Str
  | .lt x => x
  | _ => "a"
/-- what a letter is told -/
noncomputable def gOf (A : List Sg) (ts : List Bool) (b : Sg) : Bool := match getD (truF 0 ts) (.str (nmOf b)) with
  | some (.bool t) => t
  | _ => false
theorem gOf_ln {A : List Sg} {ts : List Bool} {a : Sg} (hl : ts.length = A.length) (h6 : A.length ≤ 5) (ha : a ∈ A) : getD (truF 0 ts) (.str (xN (idxS A a))) = some (.bool (vOf A ts a)) ∧ gOf A ts (lnA A a) = vOf A ts a := by
  have := tru_get (j := 0) (by omega) (idx_at hl ha)
  rw [Nat.zero_add] at this
  refine ⟨this, ?_⟩
  unfold gOf lnA nmOf
  rw [this]
theorem vOf_map {B : List Sg} (g : Sg → Bool) (hn : B.Nodup) {b : Sg} (hb : b ∈ B) : vOf B (B.map g) b = g b := by
  obtain ⟨k, hk⟩ := List.mem_iff_getElem?.mp hb
  exact vOf_at hn hk (by rw [List.getElem?_map, hk]; rfl)
theorem Cs.of_flat {n : Nat} {A : List Sg} {s : Sg} (h : Cs n s) (p : s.pl) (h12 : s.ht ≤ 12) (hn : 13 ≤ n) : Cs n (flat (lnA A) (core s)) := by
  obtain ⟨h1, h2, h3, h4, h5⟩ := fl_of A s p
  have k := core_dep (flat (lnA A) (core s))
  exact ⟨h3 h.sok, by omega, by omega, by rw [h5]; omega, Nat.le_trans h2 h.sz⟩
theorem outs_mem {A : List Sg} : ∀ {c a : Sg}, Co A c → a ∈ outs c → a ∈ A := by
  suffices main : (∀ c : Sg, Co A c → ∀ a ∈ outs c, a ∈ A) from fun {c a} h k => main c h a k
  exact fun c => Sg.rec (motive_1 := fun c => Co A c → ∀ a ∈ outs c, a ∈ A) (motive_2 := fun l => Cos A l → ∀ a ∈ outss l, a ∈ A)
    (fun x h a k => by rw [List.mem_singleton.mp k]; exact h) (fun s ih h a k => ih h a k) (fun w l ih h a k => ih h a k) (fun a b ia ib h x k => (List.mem_append.mp k).elim (ia h.1 x) (ib h.2 x)) (fun a b ia ib h => h.elim)
    (fun w x s ih h a k => by obtain ⟨rfl, h⟩ := h; rw [List.mem_singleton.mp k]; exact h) (fun _ a k => by cases k) (fun s r i1 i2 h a k => (List.mem_append.mp k).elim (i1 h.1 a) (i2 h.2 a)) c
theorem lc_mapG {xs ys : List PyData} {g : PyData → Env → Option Env} {te : DE} {ρ : Env} {μ : Mem} {Pa : List PyData → Mem → Prop} (hx : xs.length = ys.length) (hz : xs.length ≤ sizeLine)
    (hstep : ∀ (j : Nat) (x y : PyData), xs[j]? = some x → ys[j]? = some y → ∃ ρ1, g x ρ = some ρ1 ∧ te ρ1 μ = .ok (.d y) μ) (hend : Pa ys μ) : Ok (lcL (xs, none) g (lcOne dYes te) ρ xs [] μ) Pa := by
  refine lc_invG (s := (xs, none)) (xs := xs) (fun done acc μ' => acc = ys.take done.length ∧ μ' = μ) rfl (fun _ _ _ _ _ => trivial) ⟨by simp, rfl⟩ (fun done x r acc μ' e h => ?_) fun acc μ' h => ?_
  · obtain ⟨rfl, rfl⟩ := h
    have hj : xs[done.length]? = some x := by rw [← e]; simp
    have hd : done.length < xs.length := (List.getElem?_eq_some_iff.mp hj).1
    have hy : ys[done.length]? = some (ys[done.length]'(by omega)) := List.getElem?_eq_getElem _
    obtain ⟨ρ1, h1, h2⟩ := hstep _ _ _ hj hy
    refine ⟨ρ1, h1, ?_⟩
    rw [ok_lcOne]
    simp only [dYes, ok_ok, if_true, h2]
    refine ⟨by rw [List.length_take]; omega, ?_, trivial⟩
    rw [List.length_append, List.length_singleton, List.take_add_one, hy]
    rfl
  · rw [h.1, h.2, hx, List.take_length]
    exact hend
theorem idx_of : ∀ {A : List Sg} {k : Nat} {a : Sg}, A.Nodup → A[k]? = some a → idxS A a = k
  | b :: A, 0, a, _, h => by
    simp only [List.getElem?_cons_zero, Option.some.injEq] at h
    subst h
    simp [idxS]
  | b :: A, k + 1, a, hn, h => by
    obtain ⟨h1, h2⟩ := List.nodup_cons.mp hn
    simp only [List.getElem?_cons_succ] at h
    have : ¬ a = b := fun z => h1 (z ▸ List.mem_of_getElem? h)
    simp only [idxS]
    rw [if_neg this, idx_of h2 h]
  | [], _, _, _, h => by simp at h
/-- the truth of a saying on a row, by its letters -/
theorem is_true_eq {l A : List Sg} {s' s : Sg} {ts : List Bool} (h : Row 14 l s' A) (hs : s ∈ l ++ [s']) (p : s.pl) (h12 : s.ht ≤ 12) (h5 : A.length ≤ 5) (hl : ts.length = A.length) (μ : Mem) :
    callF F_law_is_true [.d s.d, .d (rowW A ts)] μ = .ok (.d (.bool (ev (vOf A ts) (core s)))) μ := by
  refine call_pure rfl ?_
  have cs := h.os.cs s hs
  have co := h.co s hs
  have hA := h.at_
  have rps : ∀ a ∈ A, Rp a.d := fun a ha => oat_rp h.os ((h.mem a).mp ha)
  have e1 : ∀ μ, callF (coreF 14) [.d s.d] μ = .ok (.d (core s).d) μ := core_ok 14 s cs.ht cs.sok
  have cz := core_sz s
  have e2 : ∀ μ, callF (F_law_flat 40) [.d (core s).d, .d (.dict (namesF 0 A))] μ = .ok (.d (flat (lnA A) (core s)).d) μ := lflat_ok hA 40 (core s) cs.cht (cz.2.2 cs.sok) cs.dep (by have := cs.sz; omega) co
  have fs := cs.of_flat (A := A) p h12 (by decide)
  have fl := fl_of A s p
  obtain ⟨B, eB, hB, cB, mB⟩ := at_ofC fs fl.pl
  have e3 : ∀ μ, callF (atomsF 14) [.d (flat (lnA A) (core s)).d] μ = .ok (.d (.tuple (Sg.ds B))) μ := fun μ => by rw [← eB]; exact atoms_eq fs μ
  have mB' : ∀ b, b ∈ B ↔ ∃ a ∈ outs (core s), b = lnA A a := fun b => by rw [mB b, fl.co]; exact at_flat A (core s) co
  have e4 : ∀ μ, callF (sortTellsF 14) [.d (flat (lnA A) (core s)).d, .d (rowD (B.map (gOf A ts)))] μ = .ok (.d (.bool (ev (vOf A ts) (core s)))) μ := fun μ => by
    rw [tells_eq fs fl.pl eB hB cB (by simp) μ, fl.co]
    have : ev (vOf B (B.map (gOf A ts))) (flat (lnA A) (core s)) = ev (vOf A ts) (core s) := ev_flat A (core s) co fun a ha => by
      rw [vOf_map _ hB.nodup ((mB' _).mpr ⟨a, ha, rfl⟩)]
      exact (gOf_ln hl h5 (outs_mem co ha)).2
    rw [this]
  have rl : (zipD (Sg.ds A) (ts.map .bool)).length = A.length := row_len hl
  have z1 : (zipD (Sg.ds A) (ts.map .bool)).length ≤ sizeLine := by rw [rl]; exact le_million (by omega)
  have rAt : ∀ {k : Nat} {z : PyData}, (zipD (Sg.ds A) (ts.map .bool))[k]? = some z → ∃ a t, A[k]? = some a ∧ ts[k]? = some t ∧ z = .tuple [a.d, .bool t] := fun {k z} hz => by
    obtain ⟨x, y, hx, hy, rfl⟩ := zip_at hz
    obtain ⟨a, ha, rfl⟩ := ds_get hx
    rw [List.getElem?_map] at hy
    obtain ⟨t, ht, rfl⟩ := Option.map_eq_some_iff.mp hy
    exact ⟨a, t, ha, ht, rfl⟩
  unfold F_law_is_true B_law_is_true rowW
  simp [ok_dLc, rl]
  refine ⟨inR_nat (by omega), ?_⟩
  refine lc_map (s := (intsOf 0 A.length, none)) (ys := (namesF 0 A).map fun p => .tuple [p.1, p.2]) rfl trivial (by rw [intsOf_len, List.length_map, names_len]) (by rw [intsOf_len]; exact le_million (by omega)) (fun k x y hx hy => ?_) ?_
  · have hk : k < A.length := by
      have := (List.getElem?_eq_some_iff.mp hx).1
      rwa [intsOf_len] at this
    rw [intsOf_at hk] at hx
    cases hx
    have ha : A[k]? = some A[k] := List.getElem?_eq_getElem hk
    rw [List.getElem?_map, names_at ha, Nat.zero_add] at hy
    cases hy
    have hz : (zipD (Sg.ds A) (ts.map .bool))[k]? = some (zipD (Sg.ds A) (ts.map .bool))[k] := List.getElem?_eq_getElem (by omega)
    obtain ⟨a, t, h1, h2, h3⟩ := rAt hz
    rw [ha] at h1
    cases h1
    rw [h3] at hz
    have at1 := atI_nat hz
    refine eq_ok ?_
    simp only [wipeE, List.foldl_cons, List.foldl_nil]
    simp [at1, okO_repr (rps A[k] (List.mem_of_getElem? ha)), abc_at (show k < 5 by omega)]
  · refine names_dict hA ?_
    refine lc_mapG (ys := (truF 0 ts).map fun p => .tuple [p.1, p.2]) (by rw [rl, List.length_map, tru_len, hl]) z1 (fun k x y hx hy => ?_) ?_
    · obtain ⟨a, t, h1, h2, rfl⟩ := rAt hx
      rw [List.getElem?_map, tru_at h2, Nat.zero_add] at hy
      cases hy
      have ha := List.mem_of_getElem? h1
      have g := getN_in (j := 0) hA.sok (hA.sok a ha) ha
      rw [Nat.zero_add, idx_of hA.nodup h1] at g
      refine ⟨_, gT2, eq_ok ?_⟩
      simp [wipeE, okO_repr (rps a ha), okO_ixDict g]
    · refine tru_dict (by omega) ?_
      simp [e1, e2, e3]
      have zB : (Sg.ds B).length ≤ sizeLine := by rw [ds_len]; exact le_million (by have := hB.few; omega)
      refine lc_map (s := (Sg.ds B, none)) (ys := (B.map (gOf A ts)).map .bool) rfl trivial (by rw [ds_len, List.length_map, List.length_map]) zB (fun k x y hx hy => ?_) ?_
      · obtain ⟨b, hb, rfl⟩ := ds_get hx
        rw [List.map_map, List.getElem?_map, hb] at hy
        cases hy
        obtain ⟨a, ha, rfl⟩ := (mB' b).mp (List.mem_of_getElem? hb)
        obtain ⟨g1, g2⟩ := gOf_ln hl h5 (outs_mem co ha)
        refine eq_ok ?_
        simp only [Function.comp_apply]
        rw [g2]
        simp [wipeE, lnA, Sg.d, okO_ixDict g1]
      · refine ⟨by rw [List.length_map, List.length_map]; exact le_million (by have := hB.few; omega), ?_⟩
        have e4' : ∀ μ, callF (sortTellsF 14) [.d (flat (lnA A) (core s)).d, .d (.tuple ((B.map (gOf A ts)).map .bool))] μ = .ok (.d (.bool (ev (vOf A ts) (core s)))) μ := e4
        rw [e4']
        simp
end Mok09

set_option autoImplicit false
namespace Mok09
open PySem PySem.Spec PyProof.Rows L2
/-- a lot as the law draws it -/
structure Sm (x : Sg) : Prop where
  sok : x.sok
  pl : x.pl
  ne : ne x
  ht : x.ht ≤ 9
  sz : x.sz ≤ 60
structure Lot (l : List Sg) (s : Sg) : Prop where
  sm : ∀ x ∈ l ++ [s], Sm x
  few : l.length ≤ 6
theorem Sm.cs {x : Sg} (h : Sm x) : Cs 14 x := by
  have h1 := h.ht
  have h2 := (core_sz x).2.1
  have h3 := core_dep x
  exact ⟨h.sok, by omega, by omega, by omega, by have := h.sz; omega⟩
theorem szs_le {N : Nat} : ∀ {l : List Sg}, (∀ x ∈ l, x.sz ≤ N) → Sg.szs l ≤ l.length * N
  | [], _ => by simp [Sg.szs]
  | s :: r, h => by
    have := szs_le (l := r) fun x hx => h x (List.mem_cons_of_mem _ hx)
    have h2 := h s (by simp)
    simp only [Sg.szs, List.length_cons, Nat.add_mul, Nat.one_mul]
    omega
theorem os_of {l : List Sg} (h : ∀ x ∈ l, Sm x) (n : l.length ≤ 8) : Os 14 l := by
  refine ⟨fun x hx => (h x hx).cs, ?_⟩
  have h1 := (cores_sz l).1
  have h2 := szs_le (N := 60) fun x hx => (h x hx).sz
  have : l.length * 60 ≤ 8 * 60 := Nat.mul_le_mul_right _ n
  omega
theorem Lot.os {l : List Sg} {s : Sg} (h : Lot l s) : Os 14 (l ++ [s]) := os_of h.sm (by have := h.few; simp; omega)
theorem Lot.pl {l : List Sg} {s : Sg} (h : Lot l s) : ∀ x ∈ l ++ [s], x.pl := fun x hx => (h.sm x hx).pl
theorem Lot.row {l : List Sg} {s : Sg} (h : Lot l s) : ∃ A, oat (l ++ [s]) = Sg.ds A ∧ (A.length ≤ 8 → Row 14 l s A) := by
  obtain ⟨A, h1, h2, h3, h4⟩ := oat_of h.os h.pl
  exact ⟨A, h1, fun hl => ⟨h.os, h2, h1, h3, h4, by omega⟩⟩
theorem atom_sm {l A : List Sg} {s : Sg} (h : Lot l s) (r : Row 14 l s A) {a : Sg} (ha : a ∈ A) : a.sok ∧ a.ht < 40 ∧ a.sz ≤ 180 ∧ a.d.depth ≤ 28 ∧ say true a.d = true := by
  have hm := (r.mem a).mp ha
  obtain ⟨c, hc, hx⟩ := mem_outss.mp hm
  rw [cores_map] at hc
  obtain ⟨u, hu, rfl⟩ := List.mem_map.mp hc
  have cs := (h.sm u hu).cs
  have hz := (h.sm u hu).sz
  have h1 := (outs_sub hx).1
  obtain ⟨s1, s2, s3, _⟩ := allP_sub h1
  have h2 := (core_sz u)
  refine ⟨s1 (h2.2.2 cs.sok), by have := cs.cht; omega, by omega, ?_, atoms_say r.os (fun y hy => (h.sm y hy).ne) hm⟩
  have := allP_dep (core u).sz (Nat.le_refl _) h1
  have := core_dep u
  have := (h.sm u hu).ht
  omega
theorem row_th {l A : List Sg} {s : Sg} (h : Lot l s) (r : Row 14 l s A) (h8 : A.length ≤ 8) {ts : List Bool} (ht : ts.length = A.length) : Th 31 90000 (rowW A ts) := by
  have : Ths 30 ((zipD (Sg.ds A) (ts.map .bool)).length * (5420 + 2)) (zipD (Sg.ds A) (ts.map .bool)) := ths_le fun x hx => by
    obtain ⟨u, hu, v, hv, rfl⟩ := zip_mem hx
    obtain ⟨a, ha, rfl⟩ := mem_ds.mp hu
    obtain ⟨b, _, rfl⟩ := List.mem_map.mp hv
    obtain ⟨a1, a2, a3, a4, a5⟩ := atom_sm h r ha
    have t1 : Th 29 5400 a.d := (th_sg a1 29 (by omega)).mono (Nat.le_refl _) (by omega)
    have t2 : Th 29 5 (.bool b) := ⟨rfl, by simp [PyData.depth], rfl, by simp [wt]⟩
    exact (Ths.cons t1 (Ths.cons t2 Ths.nil (M := 0))).tup.mono (by omega) (by omega)
  rw [row_len ht] at this
  exact this.tup.mono (by omega) (by omega)
section
variable {l A : List Sg} {s : Sg}
theorem lot_let (h : Lot l s) (r : Row 14 l s A) (h8 : A.length ≤ 8) {ts : List Bool} (ht : ts.length = A.length) (μ : Mem) : callF F_law_let [.d (.list (Sg.ds l)), .d s.d, .d (rowW A ts)] μ = .ok (.d (.bool (parts A l s ts))) μ :=
  let_eq (.inl rfl) r (fun a ha => (atom_sm h r ha).2.2.2.2) ((row_th h r h8 ht).mono (by decide) (Nat.le_refl _)) ht μ
theorem lot_true (h : Lot l s) (r : Row 14 l s A) (h5 : A.length ≤ 5) {ts : List Bool} (ht : ts.length = A.length) {x : Sg} (hx : x ∈ l ++ [s]) (μ : Mem) : callF F_law_is_true [.d x.d, .d (rowW A ts)] μ = .ok (.d (.bool (ev (vOf A ts) (core x)))) μ :=
  is_true_eq r hx (h.sm x hx).pl (by have := (h.sm x hx).ht; omega) h5 ht μ
theorem Th.shaped {D N : Nat} {d : PyData} (h : Th D N d) (e : D ≤ 64) : SeqAt.shaped d = true := by
  simp only [SeqAt.shaped, h.lay, Bool.true_and, decide_eq_true_eq]
  have := h.dep
  omega
noncomputable def fnd (A l : List Sg) (s : Sg) (d : List (List Bool)) : List PyData := (d.filter (parts A l s)).map (rowW A)
def RrI (A l : List Sg) (s : Sg) (done : List PyData) (ρ : Env) (μ : Mem) : Prop := ∃ (d r : List (List Bool)) (e4 e5 e6 : Option W), rowsL A.length = d ++ r ∧ done = d.map rowD ∧ ρ = [some (.d (.list (Sg.ds l))), some (.d s.d), some (.d (.tuple (Sg.ds A))), some (.d (.list (fnd A l s d))), e4, e5, e6, none, none, none] ∧ μ = []
theorem rd_split {n : Nat} {d r : List (List Bool)} {done rr : List PyData} {x : PyData} (e : done ++ x :: rr = (rowsL n).map rowD) (h1 : rowsL n = d ++ r) (h2 : done = d.map rowD) : ∃ ts r', r = ts :: r' ∧ x = rowD ts ∧ ts.length = n := by
  rw [h1, List.map_append, h2] at e
  have e := List.append_cancel_left e
  cases r with
  | nil => simp at e
  | cons ts r' =>
    simp only [List.map_cons, List.cons.injEq] at e
    exact ⟨ts, r', rfl, e.1, (rows_mem n ts).mp (by rw [h1]; simp)⟩
theorem okO_mulB {x : PyData} {b : Bool} {μ : Mem} {Pw : W → Mem → Prop} : OkO (opMul false [.d (.list [x]), .d (.int (if b = true then 1 else 0))] μ) Pw = Pw (.d (.list (if b = true then [x] else []))) μ := by
  cases b <;> simp [opMul, mkL, sz, reps] <;> (try decide)
theorem fnd_snoc (d : List (List Bool)) (ts : List Bool) : fnd A l s (d ++ [ts]) = fnd A l s d ++ (if parts A l s ts = true then [rowW A ts] else []) := by
  unfold fnd
  rw [List.filter_append, List.map_append]
  by_cases h : parts A l s ts = true <;> simp [h]
theorem rows_right_eq (h : Lot l s) (r : Row 14 l s A) (h5 : A.length ≤ 5) (μ : Mem) : callF F_law_rows_right [.d (.list (Sg.ds l)), .d s.d] μ = .ok (.d (.bool true)) μ := by
  refine call_pure rfl ?_
  have z1 : (Sg.ds l).length ≤ sizeLine := le_million (by rw [ds_len]; have := h.few; omega)
  have z2 : l.length + 1 ≤ sizeLine := le_million (by have := h.few; omega)
  have zA : (Sg.ds A).length ≤ sizeLine := le_million (by rw [ds_len]; omega)
  have happ : Sg.ds l ++ [s.d] = Sg.ds (l ++ [s]) := by rw [ds_app]; rfl
  have oa : ∀ μ, callF (oatomsF 14) [.d (.list (Sg.ds (l ++ [s])))] μ = .ok (.d (.tuple (Sg.ds A))) μ := fun μ => by rw [← r.eq]; exact oatoms_eq (.inl rfl) r.os μ
  have lt : ∀ μ, callF ltruthsF [.d (.int (A.length : Nat))] μ = .ok (.d (.list ((rowsL A.length).map rowD))) μ := ltruths_eq (by omega)
  obtain ⟨q, hq, eq⟩ := prow_eq (.inl rfl) h.os r.eq r.at_ r.co r.few
  unfold F_law_rows_right B_law_rows_right B_law_rows_right_278
  simp [z2, happ, oa, ds_len]
  unfold B_law_rows_right_279
  simp [lt, ds_len]
  refine for_invG (xs := (rowsL A.length).map rowD) (s := ((rowsL A.length).map rowD, none)) (RrI A l s) rfl (fun _ _ _ _ _ => trivial) ⟨[], _, _, _, _, rfl, rfl, rfl, rfl⟩ ?_ ?_
  · rintro done x rr ρ μ' e ⟨d, r', e4, e5, e6, h1, h2, rfl, rfl⟩
    obtain ⟨ts, r2, rfl, rfl, ht⟩ := rd_split e h1 h2
    refine ⟨_, rfl, ?_⟩
    unfold B_law_rows_right_280
    simp [ok_dLc, wipeE, ds_len]
    refine ⟨inR_nat (by omega), ?_⟩
    have lz : (zipD (Sg.ds A) (ts.map .bool)).length = A.length := row_len ht
    refine lc_map (s := (intsOf 0 A.length, none)) (ys := zipD (Sg.ds A) (ts.map .bool)) rfl trivial (by rw [intsOf_len, lz]) (by rw [intsOf_len]; exact le_million (by omega)) (fun k x y hx hy => ?_) ?_
    · have hk : k < A.length := by
        have := (List.getElem?_eq_some_iff.mp hx).1
        rwa [intsOf_len] at this
      rw [intsOf_at hk] at hx
      cases hx
      obtain ⟨u, v, hu, hv, rfl⟩ := zip_at hy
      refine eq_ok ?_
      simp [rowD, atI_nat hu, atI_nat hv]
    · refine ⟨by rw [lz]; exact le_million (by omega), ?_⟩
      have fl : (fnd A l s d).length ≤ 32 := by
        have a1 := rows_len A.length
        rw [h1, List.length_append] at a1
        have a2 : 2 ^ A.length ≤ 2 ^ 5 := Nat.pow_le_pow_right (by decide) h5
        have a3 := List.length_filter_le (parts A l s) d
        unfold fnd
        rw [List.length_map]
        omega
      have next : Oks (B_law_rows_right_282 [some (W.d (PyData.list (Sg.ds l))), some (W.d s.d), some (W.d (PyData.tuple (Sg.ds A))), some (W.d (PyData.list (fnd A l s d))), some (W.d (rowD ts)), some (W.d (rowW A ts)), some (.d (.bool (parts A l s ts))), none, none, none] [])
          (fun ρ μ => RrI A l s (done ++ [rowD ts]) ρ μ) (fun w x => w = W.d (PyData.bool true))
          (fun ρ1 μ1 => Oks (B_law_rows_right_285 ρ1 μ1) (fun x μ1 => False) (fun w x => w = W.d (PyData.bool true)) (fun x μ1 => False) fun x μ1 => False)
          fun ρ μ => RrI A l s (done ++ [rowD ts]) ρ μ := by
        unfold B_law_rows_right_282
        simp [lot_let h r (by omega) ht, okO_repr (rp_bool _), strOk_shown, shown_bool rfl]
        unfold B_law_rows_right_284
        have zf : (fnd A l s d).length + (if parts A l s ts = true then [rowW A ts] else []).length ≤ sizeLine := le_million (by split <;> simp <;> omega)
        simp [okO_mulB, zf]
        exact ⟨d ++ [ts], r2, _, _, _, by rw [h1]; simp, by rw [h2]; simp, by rw [fnd_snoc], rfl⟩
      show Oks (B_law_rows_right_281 [some (W.d (PyData.list (Sg.ds l))), some (W.d s.d), some (W.d (PyData.tuple (Sg.ds A))), some (W.d (PyData.list (fnd A l s d))), some (W.d (rowD ts)), some (W.d (rowW A ts)), e6, none, none, none] []) _ _ _ _
      unfold B_law_rows_right_281
      simp [ok_dLc, wipeE]
      refine lc_sg (f := fun x => .bool (ev (vOf A ts) (core x))) (le_million (by have := h.few; omega)) (fun x hx => by simp [lot_true h r h5 ht (List.mem_append_left _ hx)]) ?_
      have eb : l.map (fun x => PyData.bool (ev (vOf A ts) (core x))) = (l.map fun x => ev (vOf A ts) (core x)).map .bool := by rw [List.map_map]; rfl
      have sf : SeqAt.shaped (.bool false) = true := by decide
      rw [eb, okO_in2l sf (lay_bools _)]
      simp only [if_true, no_false]
      have ea : (l.map fun x => ev (vOf A ts) (core x)).all id = l.all fun x => ev (vOf A ts) (core x) := by rw [List.all_map]; rfl
      rw [ea]
      unfold parts at next
      revert next
      generalize (l.all fun x => ev (vOf A ts) (core x)) = b
      intro next
      cases b with
      | false =>
        rw [Bool.and_false] at next
        simp
        exact next
      | true =>
        rw [Bool.and_true] at next
        simp [lot_true h r h5 ht (x := s) (by simp)]
        exact next
  · rintro ρ μ' ⟨d, r', e4, e5, e6, h1, h2, rfl, rfl⟩
    unfold B_law_rows_right_285
    simp [eq]
    have rows_th : ∀ x ∈ fnd A l s d, Th 31 90000 x := fun x hx => by
      obtain ⟨ts, hts, rfl⟩ := List.mem_map.mp hx
      exact row_th h r (by omega) ((rows_mem _ ts).mp (by rw [h1]; exact List.mem_append_left _ (List.mem_filter.mp hts).1))
    have tf := ths_le rows_th
    have sfd : SeqAt.shaped (.list (fnd A l s d)) = true := tf.lst.shaped (by decide)
    refine ⟨sfd, ?_⟩
    have hd : d = rowsL A.length := by
      have := List.map_inj_right (f := rowD) (fun a b => rowD_inj) |>.mp h2
      exact this.symm
    cases hf : fnd A l s d with
    | nil =>
      have e0 : PyData.eqv (.list []) (.list []) = true := by decide +kernel
      rw [if_pos e0]
      rcases hq with ⟨rfl, _⟩ | ⟨t, h3, h4, rfl⟩
      · simp [okO_isNone]
      · exfalso
        have : rowW A (rowB A.length t) ∈ fnd A l s d := List.mem_map_of_mem (List.mem_filter.mpr ⟨by rw [hd]; exact (rows_mem _ _).mpr (rowB_len _ _), h4⟩)
        rw [hf] at this
        cases this
    | cons x xs =>
      have e0 : ¬ PyData.eqv (.list (x :: xs)) (.list []) = true := by simp [PyData.eqv, PyData.eqvAll]
      rw [if_neg e0]
      rw [← hf]
      rcases hq with ⟨rfl, hn⟩ | ⟨t, h3, h4, rfl⟩
      · exfalso
        have : x ∈ fnd A l s d := by rw [hf]; simp
        obtain ⟨ts, hts, rfl⟩ := List.mem_map.mp this
        obtain ⟨m1, m2⟩ := List.mem_filter.mp hts
        rw [hd] at m1
        have ml := (rows_mem _ ts).mp m1
        obtain ⟨i, hi, ei⟩ := row_of ts
        rw [ml] at hi ei
        have := hn i hi
        rw [ei, m2] at this
        cases this
      · have hm : rowW A (rowB A.length t) ∈ fnd A l s d := List.mem_map_of_mem (List.mem_filter.mpr ⟨by rw [hd]; exact (rows_mem _ _).mpr (rowB_len _ _), h4⟩)
        have th := rows_th _ hm
        rw [okO_in2l (th.shaped (by decide)) tf.lay]
        simp
        exact ⟨_, hm, (same_refl _ th.lay).2⟩
end
end Mok09


set_option autoImplicit false
namespace Mok09
open PySem PySem.Spec PyProof.Rows L2
theorem put_nil : ∀ s : Sg, put [] s = s := Sg.rec (motive_1 := fun s => put [] s = s) (motive_2 := fun l => putl [] l = l) (fun x => by simp [put]) (fun s ih => by rw [put, ih]) (fun w l ih => by rw [put, ih]) (fun a b h1 h2 => by rw [put, h1, h2]) (fun a b h1 h2 => by rw [put, h1, h2]) (fun w x s ih => by rw [put, ih]) rfl (fun s r h1 h2 => by rw [putl, h1, h2])
theorem put_none {s : Sg} (h : s.ht < 30) (k : s.sok) (μ : Mem) : callF (F_letters_put 30) [.d s.d, .d (.tuple [])] μ = .ok (.d s.d) μ := by
  have := put_ok [] (by simp) 30 s h k
  rw [put_nil] at this
  exact call_pure rfl this
/-! ### whether a row parts -/
noncomputable def prt (l : List Sg) (s : Sg) : Bool := @decide (∃ v : Sg → Bool, (∀ x ∈ l, ev v (core x) = true) ∧ ev v (core s) = false) (Classical.propDecidable _)
theorem prt_iff {l : List Sg} {s : Sg} : prt l s = true ↔ ∃ v : Sg → Bool, (∀ x ∈ l, ev v (core x) = true) ∧ ev v (core s) = false := by
  unfold prt
  exact @decide_eq_true_iff _ (Classical.propDecidable _)
theorem ev_co {A : List Sg} {v u : Sg → Bool} (hv : ∀ a ∈ A, v a = u a) : ∀ c : Sg, Co A c → ev v c = ev u c :=
  Sg.rec (motive_1 := fun c => Co A c → ev v c = ev u c) (motive_2 := fun l => Cos A l → evAny v l = evAny u l ∧ evAll v l = evAll u l)
    (fun x h => hv _ h) (fun s ih h => by rw [ev, ev, ih h]) (fun b l ih h => by
      rw [ev, ev, (ih h).1, (ih h).2]) (fun a b h1 h2 h => by rw [ev, ev, h1 h.1, h2 h.2])
    (fun a b _ _ h => h.elim) (fun b x s ih h => by
      rw [ev, ev]
      exact hv _ h.2) (fun _ => ⟨rfl, rfl⟩) (fun s r h1 h2 h => by
      rw [evAny, evAny, evAll, evAll, h1 h.1, (h2 h.2).1, (h2 h.2).2]
      exact ⟨rfl, rfl⟩)
/-- its outer atoms are among these -/
def Ua (A0 : List Sg) (x : Sg) : Prop := ∀ a ∈ outs (core x), a ∈ A0
theorem few_of {A0 l A : List Sg} {s : Sg} (h : Lot l s) (u : ∀ x ∈ l ++ [s], Ua A0 x) (hA : A.Nodup) (m : ∀ a, a ∈ A ↔ a ∈ outss (cores (l ++ [s]))) : A.length ≤ A0.length := by
  haveI : DecidableEq Sg := fun a b => Classical.propDecidable (a = b)
  refine sub_len hA fun a ha => ?_
  obtain ⟨c, hc, hx⟩ := mem_outss.mp ((m a).mp ha)
  rw [cores_map] at hc
  obtain ⟨x, hx2, rfl⟩ := List.mem_map.mp hc
  exact u x hx2 a hx
theorem row_few {A0 l : List Sg} {s : Sg} (h : Lot l s) (u : ∀ x ∈ l ++ [s], Ua A0 x) (h8 : A0.length ≤ 8) : ∃ A, Row 14 l s A ∧ A.length ≤ A0.length := by
  obtain ⟨A, h1, h2, h3, h4⟩ := oat_of h.os h.pl
  have := few_of h u h2.nodup h4
  exact ⟨A, ⟨h.os, h2, h1, h3, h4, by omega⟩, this⟩
theorem prt_row {l A : List Sg} {s : Sg} (r : Row 14 l s A) : prt l s = true ↔ ∃ i, i < 2 ^ A.length ∧ parts A l s (rowB A.length i) = true := by
  rw [prt_iff]
  constructor
  · rintro ⟨v, h1, h2⟩
    obtain ⟨i, hi, e⟩ := row_of (A.map v)
    rw [List.length_map] at hi e
    refine ⟨i, hi, ?_⟩
    rw [e]
    have hv : ∀ a ∈ A, vOf A (A.map v) a = v a := fun a ha => vOf_map v r.at_.nodup ha
    unfold parts
    rw [ev_co hv _ (r.co s (by simp)), h2, Bool.not_false, Bool.true_and, List.all_eq_true]
    exact fun x hx => by rw [ev_co hv _ (r.co x (List.mem_append_left _ hx))]; exact h1 x hx
  · rintro ⟨i, _, h⟩
    unfold parts at h
    rw [Bool.and_eq_true, List.all_eq_true] at h
    exact ⟨_, h.2, by simpa using h.1⟩
theorem prt_eq {A0 l : List Sg} {s : Sg} (h : Lot l s) (u : ∀ x ∈ l ++ [s], Ua A0 x) (h8 : A0.length ≤ 8) (μ : Mem) : callF F_law_parts [.d (.list (Sg.ds l)), .d s.d] μ = .ok (.d (.bool (prt l s))) μ := by
  obtain ⟨A, r, _⟩ := row_few h u h8
  obtain ⟨q, hq, eq⟩ := prow_eq (.inl rfl) h.os r.eq r.at_ r.co r.few
  refine call_pure rfl ?_
  simp [F_law_parts, B_law_parts, eq, okO_notNone]
  rcases hq with ⟨rfl, hn⟩ | ⟨t, h3, h4, rfl⟩
  · have : prt l s = false := Bool.eq_false_iff.mpr fun z => by
      obtain ⟨i, hi, e⟩ := (prt_row r).mp z
      rw [hn i hi] at e
      cases e
    rw [this]
  · rw [(prt_row r).mpr ⟨t, h3, h4⟩]
    rfl
section
variable {l : List Sg} {s m : Sg}
theorem prt_congr {l' : List Sg} {s' : Sg} (h : ∀ v : Sg → Bool, ((∀ x ∈ l', ev v (core x) = true) ∧ ev v (core s') = false) ↔ ((∀ x ∈ l, ev v (core x) = true) ∧ ev v (core s) = false)) : prt l' s' = prt l s := by
  rw [Bool.eq_iff_iff, prt_iff, prt_iff]
  exact exists_congr h
theorem ev_both (v : Sg → Bool) : ev v (core (.many false l)) = true ↔ ∀ x ∈ l, ev v (core x) = true := by
  simp [core, ev, evAll_map, cores_map]
theorem way1 : prt [.many false l] s = prt l s := prt_congr fun v => by simp only [List.mem_singleton, forall_eq, ev_both]
theorem way2 : prt (l ++ [.no s]) (.many true []) = prt l s := prt_congr fun v => by
  simp only [List.mem_append, List.mem_singleton]
  constructor
  · rintro ⟨h, _⟩
    refine ⟨fun x hx => h x (.inl hx), ?_⟩
    have := h (.no s) (.inr rfl)
    simpa [core, ev] using this
  · rintro ⟨h1, h2⟩
    refine ⟨fun x hx => ?_, by simp [core, cores, ev, evAny]⟩
    rcases hx with hx | rfl
    · exact h1 x hx
    · simp [core, ev, h2]
theorem way3 : prt [] (.so (.many false l) s) = prt l s := prt_congr fun v => by
  have := ev_both (l := l) v
  simp only [List.not_mem_nil, false_implies, implies_true, true_and]
  rw [← this]
  simp [core, ev]
theorem way4 : prt [] (.no (.many false [.many false l, .no s])) = prt l s := prt_congr fun v => by
  have := ev_both (l := l) v
  simp only [List.not_mem_nil, false_implies, implies_true, true_and]
  rw [← this]
  simp [core, cores, ev, evAll]
theorem way5 : prt (l.reverse ++ l) s = prt l s := prt_congr fun v => by simp
theorem prt_more (h : prt l s = false) : prt (l ++ [m]) s = false := Bool.eq_false_iff.mpr fun z => by
  obtain ⟨v, h1, h2⟩ := prt_iff.mp z
  rw [prt_iff.mpr ⟨v, fun x hx => h1 x (List.mem_append_left _ hx), h2⟩] at h
  cases h
theorem prt_in {x : Sg} (hx : x ∈ l) : prt l x = false := Bool.eq_false_iff.mpr fun z => by
  obtain ⟨v, h1, h2⟩ := prt_iff.mp z
  rw [h1 x hx] at h2
  cases h2
theorem prt_and : prt l (.many false [s, m]) = (prt l s || prt l m) := by
  rw [Bool.eq_iff_iff, Bool.or_eq_true, prt_iff, prt_iff, prt_iff]
  constructor
  · rintro ⟨v, h1, h2⟩
    simp [core, cores, ev, evAll] at h2
    cases hs : ev v (core s) with
    | false => exact .inl ⟨v, h1, hs⟩
    | true => exact .inr ⟨v, h1, h2 hs⟩
  · rintro (⟨v, h1, h2⟩ | ⟨v, h1, h2⟩)
    · exact ⟨v, h1, by simp [core, cores, ev, evAll, h2]⟩
    · exact ⟨v, h1, by simp [core, cores, ev, evAll, h2]⟩
end
end Mok09

set_option autoImplicit false
namespace Mok09
open PySem PySem.Spec PyProof.Rows L2
structure Dn (Z : Nat) (x : Sg) : Prop where
  sm : Sm x
  ht : x.ht ≤ 5
  sz : x.sz ≤ Z
theorem sm_say {L : Int} {s : Sg} (h : SayS L false s) (h1 : 1 ≤ L) (hL : L ≤ 5) : Sm s := by
  have a := lv_int s
  have b := h.int
  have c := h.lv h1
  simp only [fL] at b
  exact ⟨h.ok.sok, ok_pl h.ok, ok_ne h.ok, by omega, by omega⟩
theorem sm_many {b : Bool} {l : List Sg} {H Z : Nat} (h : ∀ x ∈ l, Sm x ∧ x.ht ≤ H ∧ x.sz ≤ Z) (hl : l.length ≤ 4) (h1 : H ≤ 8) (h2 : 4 * Z + 1 ≤ 60) : Sm (.many b l) ∧ (Sg.many b l).ht ≤ H + 1 ∧ (Sg.many b l).sz ≤ 4 * Z + 1 := by
  have hh : Sg.hts l ≤ H := by
    clear hl
    induction l with
    | nil => exact Nat.zero_le _
    | cons x r ih =>
      have k1 := (h x (by simp)).2.1
      have k2 := ih fun y hy => h y (List.mem_cons_of_mem _ hy)
      simp only [Sg.hts]; omega
  have hz := szs_le (N := Z) fun x hx => (h x hx).2.2
  have hz2 : l.length * Z ≤ 4 * Z := Nat.mul_le_mul_right _ hl
  have hn : nes l := by
    clear hl hh hz hz2
    induction l with
    | nil => trivial
    | cons x r ih => exact ⟨(h x (by simp)).1.ne, ih fun y hy => h y (List.mem_cons_of_mem _ hy)⟩
  refine ⟨⟨⟨soks_all.mpr fun x hx => (h x hx).1.sok, by omega⟩, pls_all.mpr fun x hx => (h x hx).1.pl, hn, by simp only [Sg.ht]; omega, by simp only [Sg.sz]; omega⟩, by simp only [Sg.ht]; omega, by simp only [Sg.sz]; omega⟩
theorem sm_no {a : Sg} (ha : Sm a) (h1 : a.ht ≤ 8) (h3 : a.sz ≤ 59) : Sm (.no a) := ⟨ha.sok, ha.pl, ha.ne, by simp only [Sg.ht]; omega, by simp only [Sg.sz]; omega⟩
theorem sm_so {a b : Sg} (ha : Sm a) (hb : Sm b) (h1 : a.ht ≤ 8) (h2 : b.ht ≤ 8) (h3 : a.sz + b.sz ≤ 59) : Sm (.so a b) := ⟨⟨ha.sok, hb.sok⟩, ⟨ha.pl, hb.pl⟩, ⟨ha.ne, hb.ne⟩, by simp only [Sg.ht]; omega, by simp only [Sg.sz]; omega⟩
theorem sm_two {b : Bool} {x y : Sg} (hx : Sm x) (hy : Sm y) (h1 : x.ht ≤ 8) (h2 : y.ht ≤ 8) (h3 : x.sz + y.sz ≤ 59) : Sm (.many b [x, y]) := ⟨⟨⟨hx.sok, hy.sok, trivial⟩, by simp⟩, ⟨hx.pl, hy.pl, trivial⟩, ⟨hx.ne, hy.ne, trivial⟩, by simp only [Sg.ht, Sg.hts]; omega, by simp only [Sg.sz, Sg.szs]; omega⟩
theorem ua_many {A0 : List Sg} {b : Bool} {l : List Sg} (h : ∀ x ∈ l, Ua A0 x) : Ua A0 (.many b l) := fun a ha => by
  have ha : a ∈ outss (cores l) := ha
  obtain ⟨c, hc, hx⟩ := mem_outss.mp ha
  rw [cores_map] at hc
  obtain ⟨x, hx2, rfl⟩ := List.mem_map.mp hc
  exact h x hx2 a hx
theorem ua_so {A0 : List Sg} {a b : Sg} (ha : Ua A0 a) (hb : Ua A0 b) : Ua A0 (.so a b) := fun x hx => (List.mem_append.mp (show x ∈ outs (core a) ++ outs (core b) from hx)).elim (ha x) (hb x)
theorem okO_mul5 {x : PyData} {μ : Mem} {Pw : W → Mem → Prop} : OkO (opMul false [.d (.list [x]), .d (.int 5)] μ) Pw = Pw (.d (.list [x, x, x, x, x])) μ := by
  simp [opMul, mkL, sz, reps] <;> (try decide)
theorem five_eq (b : Bool) : PyData.eqv (.list [.bool b, .bool b, .bool b, .bool b, .bool b]) (.list [.bool b, .bool b, .bool b, .bool b, .bool b]) = true := by cases b <;> decide +kernel
theorem five_sh (b : Bool) : SeqAt.shaped (.list [.bool b, .bool b, .bool b, .bool b, .bool b]) = true := by cases b <;> decide +kernel
section
variable {A0 l : List Sg} {s m : Sg}
theorem ways_right_eq (hl : ∀ x ∈ l, Dn 9 x) (hn : l.length ≤ 3) (hs : Dn 12 s) (hm : Dn 12 m) (h8 : A0.length ≤ 8) (u : ∀ x ∈ l ++ [s, m], Ua A0 x) (μ : Mem) : callF F_law_ways_right [.d (.list (Sg.ds l)), .d s.d, .d m.d] μ = .ok (.d (.bool true)) μ := by
  have ul : ∀ x ∈ l, Ua A0 x := fun x hx => u x (List.mem_append_left _ hx)
  have us : Ua A0 s := u s (by simp)
  have um : Ua A0 m := u m (by simp)
  obtain ⟨sb, bh, bz⟩ := sm_many (b := false) (H := 5) (Z := 9) (fun x hx => ⟨(hl x hx).sm, (hl x hx).ht, (hl x hx).sz⟩) (by omega : l.length ≤ 4) (by decide) (by decide)
  have ub : Ua A0 (.many false l) := ua_many ul
  have sh := hs.ht
  have sz := hs.sz
  have mh := hm.ht
  have mz := hm.sz
  have sn : Sm (.no s) := sm_no hs.sm (by omega) (by omega)
  have un : Ua A0 (.no s) := us
  have lot : ∀ {k : List Sg} {t : Sg}, (∀ x ∈ k, Sm x) → Sm t → k.length ≤ 6 → Lot k t := fun {k t} h1 h2 h3 => ⟨fun x hx => (List.mem_append.mp hx).elim (h1 x) fun z => List.mem_singleton.mp z ▸ h2, h3⟩
  have und : ∀ {k : List Sg} {t : Sg}, (∀ x ∈ k, Ua A0 x) → Ua A0 t → ∀ x ∈ k ++ [t], Ua A0 x := fun {k t} h1 h2 x hx => (List.mem_append.mp hx).elim (h1 x) fun z => List.mem_singleton.mp z ▸ h2
  have sl : ∀ x ∈ l, Sm x := fun x hx => (hl x hx).sm
  have ask : ∀ {k : List Sg} {t : Sg}, (∀ x ∈ k, Sm x) → Sm t → k.length ≤ 6 → (∀ x ∈ k, Ua A0 x) → Ua A0 t → ∀ μ, callF F_law_parts [.d (.list (Sg.ds k)), .d t.d] μ = .ok (.d (.bool (prt k t))) μ := fun a b c d e μ => prt_eq (lot a b c) (und d e) h8 μ
  have snoc : ∀ {k : List Sg} {t : Sg} {Q : Sg → Prop}, (∀ x ∈ k, Q x) → Q t → ∀ x ∈ k ++ [t], Q x := fun {k t Q} h1 h2 x hx => (List.mem_append.mp hx).elim (h1 x) fun z => List.mem_singleton.mp z ▸ h2
  have dsn : ∀ (k : List Sg) (t : Sg), Sg.ds k ++ [t.d] = Sg.ds (k ++ [t]) := fun k t => by rw [ds_app]; rfl
  have so0 : Sm (.many true []) := ⟨⟨trivial, by decide⟩, trivial, trivial, by simp [Sg.ht, Sg.hts], by simp [Sg.sz, Sg.szs]⟩
  have q0 : ∀ μ, callF F_law_parts [.d (.list (Sg.ds l)), .d s.d] μ = .ok (.d (.bool (prt l s))) μ := ask sl hs.sm (by omega) ul us
  have q1 : ∀ μ, callF F_law_parts [.d (.list [.tuple [.str "and", .tuple (Sg.ds l)]]), .d s.d] μ = .ok (.d (.bool (prt l s))) μ := fun μ => by
    rw [← way1]
    exact ask (k := [.many false l]) (by simpa using sb) hs.sm (by simp) (by simpa using ub) us μ
  have e0 : (Sg.many true []).d = .tuple [.str "or", .tuple []] := rfl
  have s2 : ∀ x ∈ l ++ [Sg.no s], Sm x := snoc sl sn
  have u2 : ∀ x ∈ l ++ [Sg.no s], Ua A0 x := snoc ul un
  have u20 : Ua A0 (.many true []) := ua_many fun x h => by cases h
  have l2 : (l ++ [Sg.no s]).length ≤ 6 := by rw [List.length_append, List.length_singleton]; omega
  have d2 : Sg.ds (l ++ [.no s]) = Sg.ds l ++ [.tuple [.str "not", s.d]] := (dsn l (.no s)).symm
  have q2 : ∀ μ, callF F_law_parts [.d (.list (Sg.ds l ++ [.tuple [.str "not", s.d]])), .d (.tuple [.str "or", .tuple []])] μ = .ok (.d (.bool (prt l s))) μ := fun μ => by
    have h := ask s2 so0 l2 u2 u20 μ
    rw [way2, d2, e0] at h
    exact h
  have nil_sm : ∀ x ∈ ([] : List Sg), Sm x := fun x h => by cases h
  have nil_ua : ∀ x ∈ ([] : List Sg), Ua A0 x := fun x h => by cases h
  have q3 : ∀ μ, callF F_law_parts [.d (.list []), .d (.tuple [.str "so", .tuple [.str "and", .tuple (Sg.ds l)], s.d])] μ = .ok (.d (.bool (prt l s))) μ := fun μ => by
    have h := ask (k := []) (t := .so (.many false l) s) nil_sm (sm_so sb hs.sm (by omega) (by omega) (by omega)) (Nat.zero_le _) nil_ua (ua_so ub us) μ
    rw [way3] at h
    exact h
  have s4 : Sm (.no (.many false [.many false l, .no s])) := by
    refine sm_no (sm_two sb sn ?_ ?_ ?_) ?_ ?_
    · omega
    · show s.ht + 1 ≤ 8
      omega
    · show (Sg.many false l).sz + (s.sz + 1) ≤ 59
      omega
    · show max (Sg.many false l).ht (max (s.ht + 1) 0) + 1 ≤ 8
      omega
    · show (Sg.many false l).sz + ((s.sz + 1) + 0) + 1 ≤ 59
      omega
  have u4 : Ua A0 (.no (.many false [.many false l, .no s])) := ua_many (b := false) (l := [.many false l, .no s]) fun x hx => by
    simp only [List.mem_cons, List.not_mem_nil, or_false] at hx
    rcases hx with rfl | rfl
    · exact ub
    · exact un
  have q4 : ∀ μ, callF F_law_parts [.d (.list []), .d (.tuple [.str "not", .tuple [.str "and", .tuple [.tuple [.str "and", .tuple (Sg.ds l)], .tuple [.str "not", s.d]]]])] μ = .ok (.d (.bool (prt l s))) μ := fun μ => by
    have h := ask (k := []) (t := .no (.many false [.many false l, .no s])) nil_sm s4 (Nat.zero_le _) nil_ua u4 μ
    rw [way4] at h
    exact h
  have q5 : ∀ μ, callF F_law_parts [.d (.list ((Sg.ds l).reverse ++ Sg.ds l)), .d s.d] μ = .ok (.d (.bool (prt l s))) μ := fun μ => by
    rw [← way5, show (Sg.ds l).reverse ++ Sg.ds l = Sg.ds (l.reverse ++ l) by rw [ds_app, ds_map l.reverse, List.map_reverse, ← ds_map]]
    exact ask (k := l.reverse ++ l) (fun x hx => sl x (by simpa using hx)) hs.sm (by simp; omega) (fun x hx => ul x (by simpa using hx)) us μ
  have q6 : ∀ μ, callF F_law_parts [.d (.list (Sg.ds l ++ [m.d])), .d s.d] μ = .ok (.d (.bool (prt (l ++ [m]) s))) μ := fun μ => by
    rw [dsn]
    exact ask (snoc sl hm.sm) hs.sm (by simp; omega) (snoc ul um) us μ
  have q7 : ∀ x ∈ l, ∀ μ, callF F_law_parts [.d (.list (Sg.ds l)), .d x.d] μ = .ok (.d (.bool false)) μ := fun x hx μ => by
    rw [← prt_in hx]
    exact ask sl (sl x hx) (by omega) ul (ul x hx) μ
  have q8 : ∀ μ, callF F_law_parts [.d (.list (Sg.ds l ++ [s.d])), .d s.d] μ = .ok (.d (.bool false)) μ := fun μ => by
    rw [dsn, ← prt_in (l := l ++ [s]) (x := s) (by simp)]
    exact ask (snoc sl hs.sm) hs.sm (by simp; omega) (snoc ul us) us μ
  have q9 : ∀ μ, callF F_law_parts [.d (.list (Sg.ds l)), .d (.tuple [.str "and", .tuple [s.d, m.d]])] μ = .ok (.d (.bool (prt l s || prt l m))) μ := fun μ => by
    rw [← prt_and]
    refine ask (t := .many false [s, m]) sl (sm_two hs.sm hm.sm (by omega) (by omega) (by omega)) (by omega) ul (ua_many fun x hx => ?_) μ
    simp only [List.mem_cons, List.not_mem_nil, or_false] at hx
    rcases hx with rfl | rfl
    · exact us
    · exact um
  have q10 : ∀ μ, callF F_law_parts [.d (.list (Sg.ds l)), .d m.d] μ = .ok (.d (.bool (prt l m))) μ := ask sl hm.sm (by omega) ul um
  have q11 : ∀ μ, callF (F_letters_put 30) [.d (.tuple [.str "and", .tuple (Sg.ds l)]), .d (.tuple [])] μ = .ok (.d (.tuple [.str "and", .tuple (Sg.ds l)])) μ := put_none (s := .many false l) (by omega) sb.sok
  have hz : l.length ≤ sizeLine := le_million (by omega)
  have z1 : (Sg.ds l).length ≤ sizeLine := by rw [ds_len]; exact hz
  have z2 : (Sg.ds l).length + 1 ≤ sizeLine := by rw [ds_len]; exact le_million (by omega)
  have z3 : (Sg.ds l).length + (Sg.ds l).length ≤ sizeLine := by rw [ds_len]; exact le_million (by omega)
  have z5 : (2 + 1 + 1 + 1 : Nat) ≤ sizeLine := by decide
  refine call_pure rfl ?_
  unfold F_law_ways_right B_law_ways_right B_law_ways_right_290
  simp [q0, z1]
  unfold B_law_ways_right_291
  simp [q1, q2, q3, z2]
  unfold B_law_ways_right_292
  simp [q4, q5, z3]
  rw [okO_revl]
  refine ⟨z1, ?_⟩
  have zr : (Sg.ds l).reverse.length + (Sg.ds l).length ≤ sizeLine := by rw [List.length_reverse]; exact z3
  simp [q5, zr, z3]
  unfold B_law_ways_right_293
  simp [okO_mul5, five_eq, five_sh, z2]
  have bd : (Sg.many false l).d = .tuple [.str "and", .tuple (Sg.ds l)] := rfl
  have cdep : (Sg.many false l).d.depth ≤ 64 := by
    have := sg_rp sb.sok
    have := sb.ht
    omega
  have shb : SeqAt.shaped (.tuple [.str "and", .tuple (Sg.ds l)]) = true := bd ▸ sg_shaped sb.sok cdep
  have eqb : PyData.eqv (.tuple [.str "and", .tuple (Sg.ds l)]) (.tuple [.str "and", .tuple (Sg.ds l)]) = true := bd ▸ (same_refl _ (sg_rp sb.sok).1).2
  have fin : Oks (B_law_ways_right_295 [some (W.d (PyData.list (Sg.ds l))), some (W.d s.d), some (W.d m.d), some (W.d (PyData.bool (prt l s))), some (W.d (PyData.tuple [PyData.str "and", PyData.tuple (Sg.ds l)])),
      some (W.d (PyData.list [PyData.bool (prt l s), PyData.bool (prt l s), PyData.bool (prt l s), PyData.bool (prt l s), PyData.bool (prt l s)])), none] []) (fun x μ1 => False) (fun w x => w = W.d (PyData.bool true)) (fun x μ1 => False) fun x μ1 => False := by
    unfold B_law_ways_right_295
    simp [ok_dLc, wipeE]
    refine lc_pure (s := (Sg.ds l, none)) (xs := Sg.ds l) (fun _ => false) (fun x => x) rfl trivial z1 (fun x hx => ?_) ?_
    · obtain ⟨y, hy, rfl⟩ := mem_ds.mp hx
      refine ⟨_, rfl, ?_⟩
      simp [q7 y hy]
    · have en : PyData.eqv (.list []) (.list []) = true := by decide +kernel
      have sn0 : SeqAt.shaped (.list []) = true := by decide +kernel
      have ef : (Sg.ds l).filter (fun _ => false) = [] := List.filter_eq_nil_iff.mpr (by simp)
      rw [ef]
      simp [en, sn0, z2, q8, q11, shb, eqb, q9]
      cases hp : prt l s with
      | true => simp
      | false => simp [q10]
  by_cases hp : prt l s = true
  · rw [if_pos hp]
    exact fin
  · rw [if_neg hp]
    simp [q6, prt_more (m := m) (Bool.eq_false_iff.mpr hp)]
    exact fin
end
end Mok09

set_option autoImplicit false
namespace Mok09
open PySem PySem.Spec PyProof.Rows L2
def SmJ (K : Int) (done acc : List PyData) (μ' : Mem) : Prop := ∃ l : List Sg, acc = Sg.ds l ∧ l.length = done.length ∧ (∀ s ∈ l, Dn 9 s) ∧ Mf (K + 26 * (done.length : Int)) μ'
def LawI (ns : List Int) (done : List PyData) (ρ : Env) (μ : Mem) : Prop := ∃ e2 e3 e4 e5 e6 e7, ρ = [some (.s ns), some (.r 0), e2, e3, e4, e5, e6, e7, none] ∧ Mf (400 * (done.length : Int)) μ
theorem dn_say {L : Int} {s : Sg} {Z : Nat} (h : SayS L false s) (h1 : 1 ≤ L) (hL : L ≤ 5) (hz : (L = 4 ∧ Z = 9) ∨ Z = 12) : Dn Z s := by
  have a := lv_int s
  have b := h.int
  have c := h.lv h1
  simp only [fL] at b
  exact ⟨sm_say h h1 hL, by omega, by omega⟩
section
variable {A0 l : List Sg} {s m : Sg}
theorem oat_two (hs : Sm s) (hm : Sm m) {A : List Sg} (r : Row 14 [m] s A) : Row 14 [m, s] s A := by
  have sm : ∀ x ∈ [m, s] ++ [s], Sm x := fun x hx => by
    simp only [List.cons_append, List.nil_append, List.mem_cons, List.not_mem_nil, or_false] at hx
    rcases hx with rfl | rfl | rfl
    · exact hm
    · exact hs
    · exact hs
  have os : Os 14 ([m, s] ++ [s]) := os_of sm (by simp)
  have mem : ∀ a, a ∈ outss (cores ([m, s] ++ [s])) ↔ a ∈ outss (cores ([m] ++ [s])) := fun a => by simp [cores, outss]
  have eq : oat ([m, s] ++ [s]) = oat ([m] ++ [s]) := by
    unfold oat
    refine rise_congr r.os.ord fun x => ?_
    rw [mem_ds, mem_ds]
    constructor
    · rintro ⟨a, h, e⟩
      exact ⟨a, (mem a).mp h, e⟩
    · rintro ⟨a, h, e⟩
      exact ⟨a, (mem a).mpr h, e⟩
  refine ⟨os, r.at_, by rw [eq]; exact r.eq, fun x hx => r.co x ?_, fun a => by rw [r.mem a, mem a], r.few⟩
  simp only [List.cons_append, List.nil_append, List.mem_cons, List.not_mem_nil, or_false] at hx ⊢
  rcases hx with rfl | rfl | rfl
  · exact .inl rfl
  · exact .inr rfl
  · exact .inr rfl
theorem body_ok {ns : List Int} {e2 e6 e7 : Option W} {μ : Mem} {N B C : Env → Mem → Prop} {R : W → Mem → Prop} (hl : ∀ x ∈ l, Dn 9 x) (hn : l.length ≤ 3) (hs : Dn 12 s) (hm : Dn 12 m)
    (q : ∀ e6 e7, N [some (.s ns), some (.r 0), e2, some (.d (.list (Sg.ds l))), some (.d s.d), some (.d m.d), e6, e7, none] μ) :
    Oks (B_law_303 [some (.s ns), some (.r 0), e2, some (.d (.list (Sg.ds l))), some (.d s.d), some (.d m.d), e6, e7, none] μ) N R B C := by
  have sl : ∀ x ∈ l, Sm x := fun x hx => (hl x hx).sm
  have sm : ∀ x ∈ l ++ [s, m], Sm x := fun x hx => by
    rcases List.mem_append.mp hx with hx | hx
    · exact sl x hx
    · simp only [List.mem_cons, List.not_mem_nil, or_false] at hx
      rcases hx with rfl | rfl
      · exact hs.sm
      · exact hm.sm
  have os : Os 14 (l ++ [s, m]) := os_of sm (by simp; omega)
  obtain ⟨A0, eA, hA, hco, mA⟩ := oat_of os fun x hx => (sm x hx).pl
  have u : ∀ x ∈ l ++ [s, m], Ua A0 x := fun x hx a ha => (mA a).mpr (mem_outss.mpr ⟨core x, by rw [cores_map]; exact List.mem_map_of_mem hx, ha⟩)
  have oa : ∀ μ, callF (oatomsF 14) [.d (.list (Sg.ds (l ++ [s, m])))] μ = .ok (.d (.tuple (Sg.ds A0))) μ := fun μ => by rw [← eA]; exact oatoms_eq (.inl rfl) os μ
  have happ : Sg.ds l ++ [s.d, m.d] = Sg.ds (l ++ [s, m]) := by rw [ds_app]; rfl
  have z2 : l.length + 2 ≤ sizeLine := le_million (by omega)
  have zA : A0.length ≤ sizeLine := le_million (by have := hA.few; omega)
  have lot : Lot l s := ⟨fun x hx => (List.mem_append.mp hx).elim (sl x) fun z => List.mem_singleton.mp z ▸ hs.sm, by omega⟩
  have lot1 : Lot [m] s := ⟨fun x hx => (List.mem_append.mp hx).elim (fun z => List.mem_singleton.mp z ▸ hm.sm) fun z => List.mem_singleton.mp z ▸ hs.sm, by simp⟩
  have lot2 : Lot [m, s] s := ⟨fun x hx => by
    simp only [List.cons_append, List.nil_append, List.mem_cons, List.not_mem_nil, or_false] at hx
    rcases hx with rfl | rfl | rfl
    · exact hm.sm
    · exact hs.sm
    · exact hs.sm, by simp⟩
  have u1 : ∀ x ∈ l ++ [s], Ua A0 x := fun x hx => u x (by
    rcases List.mem_append.mp hx with hx | hx
    · exact List.mem_append_left _ hx
    · rw [List.mem_singleton.mp hx]; simp)
  have u2 : ∀ x ∈ [m] ++ [s], Ua A0 x := fun x hx => u x (by
    simp only [List.cons_append, List.nil_append, List.mem_cons, List.not_mem_nil, or_false] at hx
    rcases hx with rfl | rfl <;> simp)
  have rest : ∀ {e7 : Option W} , A0.length ≤ 5 → Oks (B_law_309 [some (.s ns), some (.r 0), e2, some (.d (.list (Sg.ds l))), some (.d s.d), some (.d m.d), some (.d (.int (A0.length : Nat))), e7, none] μ) N R B C := by
    intro e7 h5
    obtain ⟨A, r, hA5⟩ := row_few lot1 u2 (by omega)
    obtain ⟨p, hp, ep⟩ := prow_eq (.inl rfl) lot1.os r.eq r.at_ r.co r.few
    have ep' : ∀ μ, callF (prowF 14) [.d (.list [m.d]), .d s.d] μ = .ok (.d p) μ := ep
    unfold B_law_309
    simp [ep']
    unfold B_law_310
    simp [okO_notNone]
    rcases hp with ⟨rfl, _⟩ | ⟨t, h3, h4, rfl⟩
    · simp
      exact q _ _
    · have r2 := oat_two hs.sm hm.sm r
      have le : ∀ μ, callF F_law_let [.d (.list [m.d, s.d]), .d s.d, .d (rowW A (rowB A.length t))] μ = .ok (.d (.bool false)) μ := fun μ => by
        have h := lot_let lot2 r2 (by omega) (ts := rowB A.length t) (rowB_len _ _) μ
        have : parts A [m, s] s (rowB A.length t) = false := by
          unfold parts
          cases hv : ev (vOf A (rowB A.length t)) (core s) <;> simp [hv]
        rw [this] at h
        exact h
      simp [le, rowW]
      have le' := fun μ => le μ
      unfold rowW at le'
      simp [le']
      exact q _ _
  have back : ∀ {e7 : Option W}, Oks (B_law_308 [some (.s ns), some (.r 0), e2, some (.d (.list (Sg.ds l))), some (.d s.d), some (.d m.d), some (.d (.int (A0.length : Nat))), e7, none] μ) N R B C := by
    intro e7
    unfold B_law_308
    simp
    by_cases h : A0.length ≤ 5
    · rw [if_pos (by omega)]
      exact rest h
    · rw [if_neg (by omega)]
      exact q _ _
  have mid : ∀ {e7 : Option W}, Oks (B_law_306 [some (.s ns), some (.r 0), e2, some (.d (.list (Sg.ds l))), some (.d s.d), some (.d m.d), some (.d (.int (A0.length : Nat))), e7, none] μ) N R B C := by
    intro e7
    unfold B_law_306
    simp
    by_cases h : A0.length ≤ 8
    · have w := ways_right_eq hl hn hs hm h u
      rw [if_pos (by omega)]
      simp [w]
      exact back
    · rw [if_neg (by omega)]
      exact back
  unfold B_law_303
  simp [happ, oa, ds_len, z2, zA]
  unfold B_law_304
  simp
  by_cases h : A0.length ≤ 5
  · obtain ⟨A, r, hA5⟩ := row_few lot u1 (by omega)
    have w := rows_right_eq lot r (by omega)
    rw [if_pos (by omega)]
    simp [w]
    exact mid
  · rw [if_neg (by omega)]
    exact mid
end
theorem law_true (ns : List Int) (hns : ns.length ≤ 63) : ∃ μ, F_law [.s ns] [] = .ok (.d (.bool true)) μ := by
  suffices main : Ok (F_law [.s ns] []) fun w _ => w = .d (.bool true) by
    obtain ⟨w, μ, e, rfl⟩ := main.ex
    exact ⟨μ, e⟩
  have feed : ∀ {P : W → Mem → Prop}, (∀ xs, FdOk 0 xs → P (.r 0) [.l xs]) → Ok (callF feedF [.s ns] []) P := by
    intro P q
    rw [ok_callR rfl]
    refine (feed_ok hns).mono ?_
    rintro w μ' ⟨xs, rfl, rfl, h⟩
    exact q xs h
  unfold F_law B_law B_law_299
  simp
  refine feed fun xs hf => ?_
  have hm : Mf 0 [MO.l xs] := ⟨xs, rfl, hf⟩
  unfold B_law_300
  simp
  refine ⟨inR_lit (by decide), ?_⟩
  refine for_inv (xs := intsOf 0 5) (s := (intsOf 0 5, none)) (LawI ns) rfl (fun _ _ _ _ _ => trivial) ⟨_, _, _, _, _, _, rfl, hm.mono (by simp)⟩ ?_ ?_
  · rintro done x r ρ μ e ⟨e2, e3, e4, e5, e6, e7, rfl, hm⟩
    obtain ⟨hd, rfl⟩ := done_at e
    unfold B_law_301
    simp [ok_dLc]
    refine call_draw0 hm (by omega) (by decide) (by decide) fun v μ2 hm2 hb2 v0 v1 => ?_
    obtain ⟨k, rfl⟩ : ∃ k : Nat, v = (k : Int) := ⟨v.toNat, by omega⟩
    simp
    refine ⟨inR_nat (by omega), ?_⟩
    refine lc_inv (s := (intsOf 0 k, none)) (xs := intsOf 0 k) (SmJ (400 * (done.length : Int) + 1)) rfl (fun _ _ _ _ _ => trivial) ⟨[], rfl, rfl, by simp, hm2.mono (by simp)⟩ ?_ ?_
    · rintro dn x r acc μ' e ⟨l2, rfl, h1, h2, h3⟩
      obtain ⟨hdn, rfl⟩ := done_at e
      rw [ok_lcOne]
      simp [wipeE, dYes]
      refine call_say h3 (by decide) (by decide) (by simp only [fL]; omega) fun s μ4 hs hm5 hb5 => ?_
      refine ⟨Nat.lt_of_le_of_lt (show (Sg.ds l2).length ≤ 12 by rw [ds_map, List.length_map]; omega) (by decide), l2 ++ [s], by rw [ds_app]; rfl, by simp [h1], ?_, hm5.mono (by simp only [fL, List.length_append, List.length_singleton]; omega)⟩
      intro x hx
      rcases List.mem_append.mp hx with hx | hx
      · exact h2 x hx
      · rw [List.mem_singleton.mp hx]
        exact dn_say hs (by decide) (by decide) (.inl ⟨rfl, rfl⟩)
    · rintro acc μ' ⟨l, rfl, h1, h2, h3⟩
      rw [intsOf_len] at h1 h3
      unfold B_law_302
      simp
      refine call_say h3 (by decide) (by decide) (by simp only [fL]; omega) fun s μ4 hs hm5 hb5 => ?_
      refine call_say hm5 (by decide) (by decide) (by simp only [fL]; omega) fun m μ6 hm' hm7 hb7 => ?_
      refine body_ok h2 (by omega) (dn_say hs (by decide) (by decide) (.inr rfl)) (dn_say hm' (by decide) (by decide) (.inr rfl)) fun e6 e7 => ?_
      exact ⟨_, _, _, _, _, _, rfl, hm7.mono (by simp only [fL, List.length_append, List.length_singleton]; omega)⟩
  · rintro ρ μ ⟨e2, e3, e4, e5, e6, e7, rfl, hm⟩
    simp
end Mok09

set_option autoImplicit false
namespace Mok09
open PySem PySem.Spec PyProof.Rows L2
set_option maxHeartbeats 0 in
theorem all_mk {l : PySem.W.OpenLaw} {w : World} {K : PySem.W.Frag} {h : Heap} {mg : Str → Option Value} (X : K.In h) (G : h.Ns mainGlobals mg)
    {f1 f2 f3 f4 f5 f7_0 f7_1 f7_2 f7_3 f8 f9 f10 f11 f12 f13 f14 f16 f17 f18 f19 f25 f26 f27 f28 f29 f31 f32 f33 f34 f36 f38 f39 f40 f42 f44 f45 f46 f47 f48 f49 f50 f51 f52 f53 f54 Kl7 Kx22 fx22 Kk_NoPaper : Addr} {od1 an1 od2 an2 od3 an3 od4 an4 od5 an5 od7_0 an7_0 od7_1 an7_1 od7_2 an7_2 od7_3 an7_3 od8 an8 od9 an9 od10 an10 od11 an11 od12 an12 od13 an13 od14 an14 od16 an16 od17 an17 od18 an18 od19 an19 od25 an25 od26 an26 od27 an27 od28 an28 od29 an29 od31 an31 od32 an32 od33 an33 od34 an34 od36 an36 od38 an38 od39 an39 od40 an40 od42 an42 od44 an44 od45 an45 od46 an46 od47 an47 od48 an48 od49 an49 od50 an50 od51 an51 od52 an52 od53 an53 od54 an54 odx22 anx22 : Option Addr} {sl1 sl2 sl3 sl4 sl5 sl7_0 sl7_1 sl7_2 sl7_3 sl8 sl9 sl10 sl11 sl12 sl13 sl14 sl16 sl17 sl18 sl19 sl25 sl26 sl27 sl28 sl29 sl31 sl32 sl33 sl34 sl36 sl38 sl39 sl40 sl42 sl44 sl45 sl46 sl47 sl48 sl49 sl50 sl51 sl52 sl53 sl54 slx22 : Array (Option Value)} {oc1 kV1 dc1 pm1 cd1 ct1 oc2 kV2 dc2 pm2 cd2 ct2 oc3 kV3 dc3 pm3 cd3 ct3 oc4 kV4 dc4 pm4 cd4 ct4 oc5 kV5 dc5 pm5 cd5 ct5 oc7_0 kV7_0 dc7_0 pm7_0 cd7_0 ct7_0 oc7_1 kV7_1 dc7_1 pm7_1 cd7_1 ct7_1 oc7_2 kV7_2 dc7_2 pm7_2 cd7_2 ct7_2 oc7_3 kV7_3 dc7_3 pm7_3 cd7_3 ct7_3 oc8 kV8 dc8 pm8 cd8 ct8 oc9 kV9 dc9 pm9 cd9 ct9 oc10 kV10 dc10 pm10 cd10 ct10 oc11 kV11 dc11 pm11 cd11 ct11 oc12 kV12 dc12 pm12 cd12 ct12 oc13 kV13 dc13 pm13 cd13 ct13 oc14 kV14 dc14 pm14 cd14 ct14 oc16 kV16 dc16 pm16 cd16 ct16 oc17 kV17 dc17 pm17 cd17 ct17 oc18 kV18 dc18 pm18 cd18 ct18 oc19 kV19 dc19 pm19 cd19 ct19 oc25 kV25 dc25 pm25 cd25 ct25 oc26 kV26 dc26 pm26 cd26 ct26 oc27 kV27 dc27 pm27 cd27 ct27 oc28 kV28 dc28 pm28 cd28 ct28 oc29 kV29 dc29 pm29 cd29 ct29 oc31 kV31 dc31 pm31 cd31 ct31 oc32 kV32 dc32 pm32 cd32 ct32 oc33 kV33 dc33 pm33 cd33 ct33 oc34 kV34 dc34 pm34 cd34 ct34 oc36 kV36 dc36 pm36 cd36 ct36 oc38 kV38 dc38 pm38 cd38 ct38 oc39 kV39 dc39 pm39 cd39 ct39 oc40 kV40 dc40 pm40 cd40 ct40 oc42 kV42 dc42 pm42 cd42 ct42 oc44 kV44 dc44 pm44 cd44 ct44 oc45 kV45 dc45 pm45 cd45 ct45 oc46 kV46 dc46 pm46 cd46 ct46 oc47 kV47 dc47 pm47 cd47 ct47 oc48 kV48 dc48 pm48 cd48 ct48 oc49 kV49 dc49 pm49 cd49 ct49 oc50 kV50 dc50 pm50 cd50 ct50 oc51 kV51 dc51 pm51 cd51 ct51 oc52 kV52 dc52 pm52 cd52 ct52 oc53 kV53 dc53 pm53 cd53 ct53 oc54 kV54 dc54 pm54 cd54 ct54 ocx22 kVx22 dcx22 pmx22 cdx22 ctx22 : Value}
    (aC7 : PySem.W.nsIn K mainGlobals "TruthTable" = some (some (.ref Kl7))) (pg7 : PySem.W.plainGet K Kl7 Str.empty = true) (hd7 : PySem.W.hasDictIn K Kl7 = true) (po7 : PySem.W.plainOver K Kl7 = true) (sa7 : PySem.W.findIn K (.ref Kl7) "__setattr__" = some (some (.builtin "object.__setattr__")))
    (mk7 : PySem.W.makesIn K Kl7 = true) (kC7 : PySem.W.keepIn K (.ref Kl7) = true)
    (n7_0 : PySem.W.findIn K (.ref Kl7) "atoms" = some none)
    (n7_1 : PySem.W.findIn K (.ref Kl7) "columns" = some none)
    (n7_2 : PySem.W.findIn K (.ref Kl7) "many" = some none)
    (n7_3 : PySem.W.findIn K (.ref Kl7) "full" = some none)
    (a1 : PySem.W.nsIn K mainGlobals "parts_of_saying" = some (some (.ref f1))) (l1 : K.lookup f1 = some ⟨oc1, od1, .func (PySem.W.fnOf "parts_of_saying" "parts_of_saying" (C8.fnArgs (topS 1)) (C8.fnBody (topS 1)) (C8.fnScope (topS 1)) .none kV1 dc1 pm1 an1 cd1 ct1), sl1⟩) (c1 : PySem.W.codeIn K cd1 "parts_of_saying" = true) (k1 : PySem.W.keepIn K (.ref f1) = true)
    (a2 : PySem.W.nsIn K mainGlobals "inner_sayings" = some (some (.ref f2))) (l2 : K.lookup f2 = some ⟨oc2, od2, .func (PySem.W.fnOf "inner_sayings" "inner_sayings" (C8.fnArgs (topS 2)) (C8.fnBody (topS 2)) (C8.fnScope (topS 2)) .none kV2 dc2 pm2 an2 cd2 ct2), sl2⟩) (c2 : PySem.W.codeIn K cd2 "inner_sayings" = true) (k2 : PySem.W.keepIn K (.ref f2) = true)
    (a3 : PySem.W.nsIn K mainGlobals "with_inner" = some (some (.ref f3))) (l3 : K.lookup f3 = some ⟨oc3, od3, .func (PySem.W.fnOf "with_inner" "with_inner" (C8.fnArgs (topS 3)) (C8.fnBody (topS 3)) (C8.fnScope (topS 3)) .none kV3 dc3 pm3 an3 cd3 ct3), sl3⟩) (c3 : PySem.W.codeIn K cd3 "with_inner" = true) (k3 : PySem.W.keepIn K (.ref f3) = true)
    (a4 : PySem.W.nsIn K mainGlobals "every_part" = some (some (.ref f4))) (l4 : K.lookup f4 = some ⟨oc4, od4, .func (PySem.W.fnOf "every_part" "every_part" (C8.fnArgs (topS 4)) (C8.fnBody (topS 4)) (C8.fnScope (topS 4)) .none kV4 dc4 pm4 an4 cd4 ct4), sl4⟩) (c4 : PySem.W.codeIn K cd4 "every_part" = true) (k4 : PySem.W.keepIn K (.ref f4) = true)
    (a5 : PySem.W.nsIn K mainGlobals "rising" = some (some (.ref f5))) (l5 : K.lookup f5 = some ⟨oc5, od5, .func (PySem.W.fnOf "rising" "rising" (C8.fnArgs (topS 5)) (C8.fnBody (topS 5)) (C8.fnScope (topS 5)) .none kV5 dc5 pm5 an5 cd5 ct5), sl5⟩) (c5 : PySem.W.codeIn K cd5 "rising" = true) (k5 : PySem.W.keepIn K (.ref f5) = true)
    (a7_0 : PySem.W.findIn K (.ref Kl7) "__init__" = some (some (.ref f7_0))) (i7_0 : PySem.W.isFn K (.ref f7_0) = true) (l7_0 : K.lookup f7_0 = some ⟨oc7_0, od7_0, .func (PySem.W.fnOf "__init__" "TruthTable.__init__" (C8.fnArgs (inClass (topS 7) 0)) (C8.fnBody (inClass (topS 7) 0)) (C8.fnScope (inClass (topS 7) 0)) .none kV7_0 dc7_0 pm7_0 an7_0 cd7_0 ct7_0), sl7_0⟩) (c7_0 : PySem.W.codeIn K cd7_0 "TruthTable.__init__" = true) (k7_0 : PySem.W.keepIn K (.ref f7_0) = true)
    (a7_1 : PySem.W.findIn K (.ref Kl7) "where_true" = some (some (.ref f7_1))) (i7_1 : PySem.W.isFn K (.ref f7_1) = true) (l7_1 : K.lookup f7_1 = some ⟨oc7_1, od7_1, .func (PySem.W.fnOf "where_true" "TruthTable.where_true" (C8.fnArgs (inClass (topS 7) 1)) (C8.fnBody (inClass (topS 7) 1)) (C8.fnScope (inClass (topS 7) 1)) .none kV7_1 dc7_1 pm7_1 an7_1 cd7_1 ct7_1), sl7_1⟩) (c7_1 : PySem.W.codeIn K cd7_1 "TruthTable.where_true" = true) (k7_1 : PySem.W.keepIn K (.ref f7_1) = true)
    (a7_2 : PySem.W.findIn K (.ref Kl7) "where_false" = some (some (.ref f7_2))) (i7_2 : PySem.W.isFn K (.ref f7_2) = true) (l7_2 : K.lookup f7_2 = some ⟨oc7_2, od7_2, .func (PySem.W.fnOf "where_false" "TruthTable.where_false" (C8.fnArgs (inClass (topS 7) 2)) (C8.fnBody (inClass (topS 7) 2)) (C8.fnScope (inClass (topS 7) 2)) .none kV7_2 dc7_2 pm7_2 an7_2 cd7_2 ct7_2), sl7_2⟩) (c7_2 : PySem.W.codeIn K cd7_2 "TruthTable.where_false" = true) (k7_2 : PySem.W.keepIn K (.ref f7_2) = true)
    (a7_3 : PySem.W.findIn K (.ref Kl7) "truths_in" = some (some (.ref f7_3))) (i7_3 : PySem.W.isFn K (.ref f7_3) = true) (l7_3 : K.lookup f7_3 = some ⟨oc7_3, od7_3, .func (PySem.W.fnOf "truths_in" "TruthTable.truths_in" (C8.fnArgs (inClass (topS 7) 3)) (C8.fnBody (inClass (topS 7) 3)) (C8.fnScope (inClass (topS 7) 3)) .none kV7_3 dc7_3 pm7_3 an7_3 cd7_3 ct7_3), sl7_3⟩) (c7_3 : PySem.W.codeIn K cd7_3 "TruthTable.truths_in" = true) (k7_3 : PySem.W.keepIn K (.ref f7_3) = true)
    (a8 : PySem.W.nsIn K mainGlobals "whole_table" = some (some (.ref f8))) (l8 : K.lookup f8 = some ⟨oc8, od8, .func (PySem.W.fnOf "whole_table" "whole_table" (C8.fnArgs (topS 8)) (C8.fnBody (topS 8)) (C8.fnScope (topS 8)) .none kV8 dc8 pm8 an8 cd8 ct8), sl8⟩) (c8 : PySem.W.codeIn K cd8 "whole_table" = true) (k8 : PySem.W.keepIn K (.ref f8) = true)
    (a9 : PySem.W.nsIn K mainGlobals "table_of_rows" = some (some (.ref f9))) (l9 : K.lookup f9 = some ⟨oc9, od9, .func (PySem.W.fnOf "table_of_rows" "table_of_rows" (C8.fnArgs (topS 9)) (C8.fnBody (topS 9)) (C8.fnScope (topS 9)) .none kV9 dc9 pm9 an9 cd9 ct9), sl9⟩) (c9 : PySem.W.codeIn K cd9 "table_of_rows" = true) (k9 : PySem.W.keepIn K (.ref f9) = true)
    (a10 : PySem.W.nsIn K mainGlobals "joined_mask" = some (some (.ref f10))) (l10 : K.lookup f10 = some ⟨oc10, od10, .func (PySem.W.fnOf "joined_mask" "joined_mask" (C8.fnArgs (topS 10)) (C8.fnBody (topS 10)) (C8.fnScope (topS 10)) .none kV10 dc10 pm10 an10 cd10 ct10), sl10⟩) (c10 : PySem.W.codeIn K cd10 "joined_mask" = true) (k10 : PySem.W.keepIn K (.ref f10) = true)
    (a11 : PySem.W.nsIn K mainGlobals "has_bit" = some (some (.ref f11))) (l11 : K.lookup f11 = some ⟨oc11, od11, .func (PySem.W.fnOf "has_bit" "has_bit" (C8.fnArgs (topS 11)) (C8.fnBody (topS 11)) (C8.fnScope (topS 11)) .none kV11 dc11 pm11 an11 cd11 ct11), sl11⟩) (c11 : PySem.W.codeIn K cd11 "has_bit" = true) (k11 : PySem.W.keepIn K (.ref f11) = true)
    (a12 : PySem.W.nsIn K mainGlobals "first_bit" = some (some (.ref f12))) (l12 : K.lookup f12 = some ⟨oc12, od12, .func (PySem.W.fnOf "first_bit" "first_bit" (C8.fnArgs (topS 12)) (C8.fnBody (topS 12)) (C8.fnScope (topS 12)) .none kV12 dc12 pm12 an12 cd12 ct12), sl12⟩) (c12 : PySem.W.codeIn K cd12 "first_bit" = true) (k12 : PySem.W.keepIn K (.ref f12) = true)
    (a13 : PySem.W.nsIn K mainGlobals "mask_of" = some (some (.ref f13))) (l13 : K.lookup f13 = some ⟨oc13, od13, .func (PySem.W.fnOf "mask_of" "mask_of" (C8.fnArgs (topS 13)) (C8.fnBody (topS 13)) (C8.fnScope (topS 13)) .none kV13 dc13 pm13 an13 cd13 ct13), sl13⟩) (c13 : PySem.W.codeIn K cd13 "mask_of" = true) (k13 : PySem.W.keepIn K (.ref f13) = true)
    (a14 : PySem.W.nsIn K mainGlobals "repeated" = some (some (.ref f14))) (l14 : K.lookup f14 = some ⟨oc14, od14, .func (PySem.W.fnOf "repeated" "repeated" (C8.fnArgs (topS 14)) (C8.fnBody (topS 14)) (C8.fnScope (topS 14)) .none kV14 dc14 pm14 an14 cd14 ct14), sl14⟩) (c14 : PySem.W.codeIn K cd14 "repeated" = true) (k14 : PySem.W.keepIn K (.ref f14) = true)
    (a16 : PySem.W.nsIn K mainGlobals "core_of" = some (some (.ref f16))) (l16 : K.lookup f16 = some ⟨oc16, od16, .func (PySem.W.fnOf "core_of" "core_of" (C8.fnArgs (topS 16)) (C8.fnBody (topS 16)) (C8.fnScope (topS 16)) .none kV16 dc16 pm16 an16 cd16 ct16), sl16⟩) (c16 : PySem.W.codeIn K cd16 "core_of" = true) (k16 : PySem.W.keepIn K (.ref f16) = true)
    (a17 : PySem.W.nsIn K mainGlobals "atoms_of" = some (some (.ref f17))) (l17 : K.lookup f17 = some ⟨oc17, od17, .func (PySem.W.fnOf "atoms_of" "atoms_of" (C8.fnArgs (topS 17)) (C8.fnBody (topS 17)) (C8.fnScope (topS 17)) .none kV17 dc17 pm17 an17 cd17 ct17), sl17⟩) (c17 : PySem.W.codeIn K cd17 "atoms_of" = true) (k17 : PySem.W.keepIn K (.ref f17) = true)
    (a18 : PySem.W.nsIn K mainGlobals "sort_tells" = some (some (.ref f18))) (l18 : K.lookup f18 = some ⟨oc18, od18, .func (PySem.W.fnOf "sort_tells" "sort_tells" (C8.fnArgs (topS 18)) (C8.fnBody (topS 18)) (C8.fnScope (topS 18)) .none kV18 dc18 pm18 an18 cd18 ct18), sl18⟩) (c18 : PySem.W.codeIn K cd18 "sort_tells" = true) (k18 : PySem.W.keepIn K (.ref f18) = true)
    (a19 : PySem.W.nsIn K mainGlobals "told_by" = some (some (.ref f19))) (l19 : K.lookup f19 = some ⟨oc19, od19, .func (PySem.W.fnOf "told_by" "told_by" (C8.fnArgs (topS 19)) (C8.fnBody (topS 19)) (C8.fnScope (topS 19)) .none kV19 dc19 pm19 an19 cd19 ct19), sl19⟩) (c19 : PySem.W.codeIn K cd19 "told_by" = true) (k19 : PySem.W.keepIn K (.ref f19) = true)
    (a25 : PySem.W.nsIn K mainGlobals "is_word" = some (some (.ref f25))) (l25 : K.lookup f25 = some ⟨oc25, od25, .func (PySem.W.fnOf "is_word" "is_word" (C8.fnArgs (topS 25)) (C8.fnBody (topS 25)) (C8.fnScope (topS 25)) .none kV25 dc25 pm25 an25 cd25 ct25), sl25⟩) (c25 : PySem.W.codeIn K cd25 "is_word" = true) (k25 : PySem.W.keepIn K (.ref f25) = true)
    (a26 : PySem.W.nsIn K mainGlobals "is_saying" = some (some (.ref f26))) (l26 : K.lookup f26 = some ⟨oc26, od26, .func (PySem.W.fnOf "is_saying" "is_saying" (C8.fnArgs (topS 26)) (C8.fnBody (topS 26)) (C8.fnScope (topS 26)) .none kV26 dc26 pm26 an26 cd26 ct26), sl26⟩) (c26 : PySem.W.codeIn K cd26 "is_saying" = true) (k26 : PySem.W.keepIn K (.ref f26) = true)
    (a27 : PySem.W.nsIn K mainGlobals "is_built" = some (some (.ref f27))) (l27 : K.lookup f27 = some ⟨oc27, od27, .func (PySem.W.fnOf "is_built" "is_built" (C8.fnArgs (topS 27)) (C8.fnBody (topS 27)) (C8.fnScope (topS 27)) .none kV27 dc27 pm27 an27 cd27 ct27), sl27⟩) (c27 : PySem.W.codeIn K cd27 "is_built" = true) (k27 : PySem.W.keepIn K (.ref f27) = true)
    (a28 : PySem.W.nsIn K mainGlobals "things_within" = some (some (.ref f28))) (l28 : K.lookup f28 = some ⟨oc28, od28, .func (PySem.W.fnOf "things_within" "things_within" (C8.fnArgs (topS 28)) (C8.fnBody (topS 28)) (C8.fnScope (topS 28)) .none kV28 dc28 pm28 an28 cd28 ct28), sl28⟩) (c28 : PySem.W.codeIn K cd28 "things_within" = true) (k28 : PySem.W.keepIn K (.ref f28) = true)
    (a29 : PySem.W.nsIn K mainGlobals "things_within_pair" = some (some (.ref f29))) (l29 : K.lookup f29 = some ⟨oc29, od29, .func (PySem.W.fnOf "things_within_pair" "things_within_pair" (C8.fnArgs (topS 29)) (C8.fnBody (topS 29)) (C8.fnScope (topS 29)) .none kV29 dc29 pm29 an29 cd29 ct29), sl29⟩) (c29 : PySem.W.codeIn K cd29 "things_within_pair" = true) (k29 : PySem.W.keepIn K (.ref f29) = true)
    (a31 : PySem.W.nsIn K mainGlobals "outer_atoms" = some (some (.ref f31))) (l31 : K.lookup f31 = some ⟨oc31, od31, .func (PySem.W.fnOf "outer_atoms" "outer_atoms" (C8.fnArgs (topS 31)) (C8.fnBody (topS 31)) (C8.fnScope (topS 31)) .none kV31 dc31 pm31 an31 cd31 ct31), sl31⟩) (c31 : PySem.W.codeIn K cd31 "outer_atoms" = true) (k31 : PySem.W.keepIn K (.ref f31) = true)
    (a32 : PySem.W.nsIn K mainGlobals "outer_parts" = some (some (.ref f32))) (l32 : K.lookup f32 = some ⟨oc32, od32, .func (PySem.W.fnOf "outer_parts" "outer_parts" (C8.fnArgs (topS 32)) (C8.fnBody (topS 32)) (C8.fnScope (topS 32)) .none kV32 dc32 pm32 an32 cd32 ct32), sl32⟩) (c32 : PySem.W.codeIn K cd32 "outer_parts" = true) (k32 : PySem.W.keepIn K (.ref f32) = true)
    (a33 : PySem.W.nsIn K mainGlobals "parting_row" = some (some (.ref f33))) (l33 : K.lookup f33 = some ⟨oc33, od33, .func (PySem.W.fnOf "parting_row" "parting_row" (C8.fnArgs (topS 33)) (C8.fnBody (topS 33)) (C8.fnScope (topS 33)) .none kV33 dc33 pm33 an33 cd33 ct33), sl33⟩) (c33 : PySem.W.codeIn K cd33 "parting_row" = true) (k33 : PySem.W.keepIn K (.ref f33) = true)
    (a34 : PySem.W.nsIn K mainGlobals "parting_mask" = some (some (.ref f34))) (l34 : K.lookup f34 = some ⟨oc34, od34, .func (PySem.W.fnOf "parting_mask" "parting_mask" (C8.fnArgs (topS 34)) (C8.fnBody (topS 34)) (C8.fnScope (topS 34)) .none kV34 dc34 pm34 an34 cd34 ct34), sl34⟩) (c34 : PySem.W.codeIn K cd34 "parting_mask" = true) (k34 : PySem.W.keepIn K (.ref f34) = true)
    (a36 : PySem.W.nsIn K mainGlobals "is_pair" = some (some (.ref f36))) (l36 : K.lookup f36 = some ⟨oc36, od36, .func (PySem.W.fnOf "is_pair" "is_pair" (C8.fnArgs (topS 36)) (C8.fnBody (topS 36)) (C8.fnScope (topS 36)) .none kV36 dc36 pm36 an36 cd36 ct36), sl36⟩) (c36 : PySem.W.codeIn K cd36 "is_pair" = true) (k36 : PySem.W.keepIn K (.ref f36) = true)
    (a38 : PySem.W.nsIn K mainGlobals "lets_parting_row" = some (some (.ref f38))) (l38 : K.lookup f38 = some ⟨oc38, od38, .func (PySem.W.fnOf "lets_parting_row" "lets_parting_row" (C8.fnArgs (topS 38)) (C8.fnBody (topS 38)) (C8.fnScope (topS 38)) .none kV38 dc38 pm38 an38 cd38 ct38), sl38⟩) (c38 : PySem.W.codeIn K cd38 "lets_parting_row" = true) (k38 : PySem.W.keepIn K (.ref f38) = true)
    (a39 : PySem.W.nsIn K mainGlobals "row_fault" = some (some (.ref f39))) (l39 : K.lookup f39 = some ⟨oc39, od39, .func (PySem.W.fnOf "row_fault" "row_fault" (C8.fnArgs (topS 39)) (C8.fnBody (topS 39)) (C8.fnScope (topS 39)) .none kV39 dc39 pm39 an39 cd39 ct39), sl39⟩) (c39 : PySem.W.codeIn K cd39 "row_fault" = true) (k39 : PySem.W.keepIn K (.ref f39) = true)
    (a40 : PySem.W.nsIn K mainGlobals "is_row_kind" = some (some (.ref f40))) (l40 : K.lookup f40 = some ⟨oc40, od40, .func (PySem.W.fnOf "is_row_kind" "is_row_kind" (C8.fnArgs (topS 40)) (C8.fnBody (topS 40)) (C8.fnScope (topS 40)) .none kV40 dc40 pm40 an40 cd40 ct40), sl40⟩) (c40 : PySem.W.codeIn K cd40 "is_row_kind" = true) (k40 : PySem.W.keepIn K (.ref f40) = true)
    (a42 : PySem.W.nsIn K mainGlobals "letters_put" = some (some (.ref f42))) (l42 : K.lookup f42 = some ⟨oc42, od42, .func (PySem.W.fnOf "letters_put" "letters_put" (C8.fnArgs (topS 42)) (C8.fnBody (topS 42)) (C8.fnScope (topS 42)) .none kV42 dc42 pm42 an42 cd42 ct42), sl42⟩) (c42 : PySem.W.codeIn K cd42 "letters_put" = true) (k42 : PySem.W.keepIn K (.ref f42) = true)
    (a44 : PySem.W.nsIn K mainGlobals "_law_feed" = some (some (.ref f44))) (l44 : K.lookup f44 = some ⟨oc44, od44, .func (PySem.W.fnOf "_law_feed" "_law_feed" (C8.fnArgs (topS 44)) (C8.fnBody (topS 44)) (C8.fnScope (topS 44)) .none kV44 dc44 pm44 an44 cd44 ct44), sl44⟩) (c44 : PySem.W.codeIn K cd44 "_law_feed" = true) (k44 : PySem.W.keepIn K (.ref f44) = true)
    (a45 : PySem.W.nsIn K mainGlobals "_law_draw" = some (some (.ref f45))) (l45 : K.lookup f45 = some ⟨oc45, od45, .func (PySem.W.fnOf "_law_draw" "_law_draw" (C8.fnArgs (topS 45)) (C8.fnBody (topS 45)) (C8.fnScope (topS 45)) .none kV45 dc45 pm45 an45 cd45 ct45), sl45⟩) (c45 : PySem.W.codeIn K cd45 "_law_draw" = true) (k45 : PySem.W.keepIn K (.ref f45) = true)
    (a46 : PySem.W.nsIn K mainGlobals "_law_saying" = some (some (.ref f46))) (l46 : K.lookup f46 = some ⟨oc46, od46, .func (PySem.W.fnOf "_law_saying" "_law_saying" (C8.fnArgs (topS 46)) (C8.fnBody (topS 46)) (C8.fnScope (topS 46)) .none kV46 dc46 pm46 an46 cd46 ct46), sl46⟩) (c46 : PySem.W.codeIn K cd46 "_law_saying" = true) (k46 : PySem.W.keepIn K (.ref f46) = true)
    (a47 : PySem.W.nsIn K mainGlobals "_law_let" = some (some (.ref f47))) (l47 : K.lookup f47 = some ⟨oc47, od47, .func (PySem.W.fnOf "_law_let" "_law_let" (C8.fnArgs (topS 47)) (C8.fnBody (topS 47)) (C8.fnScope (topS 47)) .none kV47 dc47 pm47 an47 cd47 ct47), sl47⟩) (c47 : PySem.W.codeIn K cd47 "_law_let" = true) (k47 : PySem.W.keepIn K (.ref f47) = true)
    (a48 : PySem.W.nsIn K mainGlobals "_law_flat" = some (some (.ref f48))) (l48 : K.lookup f48 = some ⟨oc48, od48, .func (PySem.W.fnOf "_law_flat" "_law_flat" (C8.fnArgs (topS 48)) (C8.fnBody (topS 48)) (C8.fnScope (topS 48)) .none kV48 dc48 pm48 an48 cd48 ct48), sl48⟩) (c48 : PySem.W.codeIn K cd48 "_law_flat" = true) (k48 : PySem.W.keepIn K (.ref f48) = true)
    (a49 : PySem.W.nsIn K mainGlobals "_law_is_true" = some (some (.ref f49))) (l49 : K.lookup f49 = some ⟨oc49, od49, .func (PySem.W.fnOf "_law_is_true" "_law_is_true" (C8.fnArgs (topS 49)) (C8.fnBody (topS 49)) (C8.fnScope (topS 49)) .none kV49 dc49 pm49 an49 cd49 ct49), sl49⟩) (c49 : PySem.W.codeIn K cd49 "_law_is_true" = true) (k49 : PySem.W.keepIn K (.ref f49) = true)
    (a50 : PySem.W.nsIn K mainGlobals "_law_truths" = some (some (.ref f50))) (l50 : K.lookup f50 = some ⟨oc50, od50, .func (PySem.W.fnOf "_law_truths" "_law_truths" (C8.fnArgs (topS 50)) (C8.fnBody (topS 50)) (C8.fnScope (topS 50)) .none kV50 dc50 pm50 an50 cd50 ct50), sl50⟩) (c50 : PySem.W.codeIn K cd50 "_law_truths" = true) (k50 : PySem.W.keepIn K (.ref f50) = true)
    (a51 : PySem.W.nsIn K mainGlobals "_law_rows_right" = some (some (.ref f51))) (l51 : K.lookup f51 = some ⟨oc51, od51, .func (PySem.W.fnOf "_law_rows_right" "_law_rows_right" (C8.fnArgs (topS 51)) (C8.fnBody (topS 51)) (C8.fnScope (topS 51)) .none kV51 dc51 pm51 an51 cd51 ct51), sl51⟩) (c51 : PySem.W.codeIn K cd51 "_law_rows_right" = true) (k51 : PySem.W.keepIn K (.ref f51) = true)
    (a52 : PySem.W.nsIn K mainGlobals "_law_parts" = some (some (.ref f52))) (l52 : K.lookup f52 = some ⟨oc52, od52, .func (PySem.W.fnOf "_law_parts" "_law_parts" (C8.fnArgs (topS 52)) (C8.fnBody (topS 52)) (C8.fnScope (topS 52)) .none kV52 dc52 pm52 an52 cd52 ct52), sl52⟩) (c52 : PySem.W.codeIn K cd52 "_law_parts" = true) (k52 : PySem.W.keepIn K (.ref f52) = true)
    (a53 : PySem.W.nsIn K mainGlobals "_law_ways_right" = some (some (.ref f53))) (l53 : K.lookup f53 = some ⟨oc53, od53, .func (PySem.W.fnOf "_law_ways_right" "_law_ways_right" (C8.fnArgs (topS 53)) (C8.fnBody (topS 53)) (C8.fnScope (topS 53)) .none kV53 dc53 pm53 an53 cd53 ct53), sl53⟩) (c53 : PySem.W.codeIn K cd53 "_law_ways_right" = true) (k53 : PySem.W.keepIn K (.ref f53) = true)
    (a54 : PySem.W.nsIn K mainGlobals "law" = some (some (.ref f54))) (l54 : K.lookup f54 = some ⟨oc54, od54, .func (PySem.W.fnOf "law" "law" (C8.fnArgs (topS 54)) (C8.fnBody (topS 54)) (C8.fnScope (topS 54)) .none kV54 dc54 pm54 an54 cd54 ct54), sl54⟩) (c54 : PySem.W.codeIn K cd54 "law" = true) (k54 : PySem.W.keepIn K (.ref f54) = true)
    (aX22 : PySem.W.nsIn K mainGlobals "NoPaper" = some (some (.ref Kx22))) (qX22 : oexB K Kx22 = true) (saX22 : PySem.W.findIn K (.ref Kx22) "__setattr__" = some (some (.builtin "object.__setattr__"))) (eX22 : PySem.W.subIn K (.ref Kx22) (.type "BaseException") = some true) (tX22 : PySem.W.typeIn K (.ref Kx22) = some (.type "type")) (kX22 : PySem.W.keepIn K (.ref Kx22) = true)
    (iX22 : PySem.W.findIn K (.ref Kx22) "__init__" = some (some (.ref fx22))) (uX22 : PySem.W.typeIn K (.ref fx22) = some (.type "function")) (lX22 : K.lookup fx22 = some ⟨ocx22, odx22, .func (PySem.W.fnOf "__init__" "NoPaper.__init__" (C8.fnArgs (inClass (topS 22) 0)) (C8.fnBody (inClass (topS 22) 0)) (C8.fnScope (inClass (topS 22) 0)) .none kVx22 dcx22 pmx22 anx22 cdx22 ctx22), slx22⟩) (cX22 : PySem.W.codeIn K cdx22 "NoPaper.__init__" = true)
    (gaX22 : PySem.W.findIn K (.ref Kx22) "__getattribute__" = some (some (.builtin "BaseException.__getattribute__"))) (ggX22 : PySem.W.findIn K (.ref Kx22) "__getattr__" = some none) (hdX22 : PySem.W.hasDictIn K Kx22 = true)
    (nX22_0 : PySem.W.findIn K (.ref Kx22) "word" = some none)
    (nX22_1 : PySem.W.findIn K (.ref Kx22) "at" = some none)
    (aK_NoPaper : PySem.W.nsIn K mainGlobals "NoPaper" = some (some (.ref Kk_NoPaper)))
    (xm_NoPaper_NoPaper : PySem.W.exmOne K (.ref Kx22) (.ref Kk_NoPaper) = some true)
    {tM : Nat}
    (aM : PySem.W.nsIn K mainGlobals "MOST_SIGNS" = some (some (.int 8 tM)))
    (z_all : PySem.W.nsIn K mainGlobals "all" = some none) (z_bool : PySem.W.nsIn K mainGlobals "bool" = some none) (z_dict : PySem.W.nsIn K mainGlobals "dict" = some none) (z_enumerate : PySem.W.nsIn K mainGlobals "enumerate" = some none) (z_int : PySem.W.nsIn K mainGlobals "int" = some none) (z_isinstance : PySem.W.nsIn K mainGlobals "isinstance" = some none) (z_len : PySem.W.nsIn K mainGlobals "len" = some none) (z_range : PySem.W.nsIn K mainGlobals "range" = some none) (z_repr : PySem.W.nsIn K mainGlobals "repr" = some none) (z_sorted : PySem.W.nsIn K mainGlobals "sorted" = some none) (z_str : PySem.W.nsIn K mainGlobals "str" = some none) (z_tuple : PySem.W.nsIn K mainGlobals "tuple" = some none) (z_zip : PySem.W.nsIn K mainGlobals "zip" = some none) : Facts w K mg :=
  { c7 := class_mk X G aC7 ⟨pg7, hd7, po7, sa7⟩ (by intro f hf; simp only [List.mem_cons, List.not_mem_nil, or_false] at hf; rcases hf with rfl | rfl | rfl | rfl; exact n7_0; exact n7_1; exact n7_2; exact n7_3),
    d1 := def_at X G a1 l1 c1 k1 fun _ _ _ _ _ _ us hl => match us, hl with | [_], _ => rfl,
    d2 := def_at X G a2 l2 c2 k2 fun _ _ _ _ _ _ us hl => match us, hl with | [_], _ => rfl,
    d3 := def_at X G a3 l3 c3 k3 fun _ _ _ _ _ _ us hl => match us, hl with | [_, _], _ => rfl,
    d4 := def_at X G a4 l4 c4 k4 fun _ _ _ _ _ _ us hl => match us, hl with | [_], _ => rfl,
    d5 := def_at X G a5 l5 c5 k5 fun _ _ _ _ _ _ us hl => match us, hl with | [_], _ => rfl,
    i7 := ini_mk X G aC7 mk7 a7_0 i7_0 l7_0 c7_0 kC7 (fun _ _ _ _ _ _ us hl => match us, hl with | [_, _, _, _], _ => rfl),
    m7_1 := mth_mk aC7 ⟨pg7, hd7, po7, sa7⟩ a7_1 i7_1 l7_1 c7_1 k7_1 (fun _ _ _ _ _ _ us hl => match us, hl with | [_, _], _ => rfl),
    m7_2 := mth_mk aC7 ⟨pg7, hd7, po7, sa7⟩ a7_2 i7_2 l7_2 c7_2 k7_2 (fun _ _ _ _ _ _ us hl => match us, hl with | [_, _], _ => rfl),
    m7_3 := mth_mk aC7 ⟨pg7, hd7, po7, sa7⟩ a7_3 i7_3 l7_3 c7_3 k7_3 (fun _ _ _ _ _ _ us hl => match us, hl with | [_, _], _ => rfl),
    d8 := def_at X G a8 l8 c8 k8 fun _ _ _ _ _ _ us hl => match us, hl with | [_], _ => rfl,
    d9 := def_at X G a9 l9 c9 k9 fun _ _ _ _ _ _ us hl => match us, hl with | [_, _], _ => rfl,
    d10 := def_at X G a10 l10 c10 k10 fun _ _ _ _ _ _ us hl => match us, hl with | [_, _, _], _ => rfl,
    d11 := def_at X G a11 l11 c11 k11 fun _ _ _ _ _ _ us hl => match us, hl with | [_, _], _ => rfl,
    d12 := def_at X G a12 l12 c12 k12 fun _ _ _ _ _ _ us hl => match us, hl with | [_], _ => rfl,
    d13 := def_at X G a13 l13 c13 k13 fun _ _ _ _ _ _ us hl => match us, hl with | [_], _ => rfl,
    d14 := def_at X G a14 l14 c14 k14 fun _ _ _ _ _ _ us hl => match us, hl with | [_, _, _], _ => rfl,
    d16 := def_at X G a16 l16 c16 k16 fun _ _ _ _ _ _ us hl => match us, hl with | [_], _ => rfl,
    d17 := def_at X G a17 l17 c17 k17 fun _ _ _ _ _ _ us hl => match us, hl with | [_], _ => rfl,
    d18 := def_at X G a18 l18 c18 k18 fun _ _ _ _ _ _ us hl => match us, hl with | [_, _], _ => rfl,
    d19 := def_at X G a19 l19 c19 k19 fun _ _ _ _ _ _ us hl => match us, hl with | [_, _, _], _ => rfl,
    d25 := def_at X G a25 l25 c25 k25 fun _ _ _ _ _ _ us hl => match us, hl with | [_], _ => rfl,
    d26 := def_at X G a26 l26 c26 k26 fun _ _ _ _ _ _ us hl => match us, hl with | [_], _ => rfl,
    d27 := def_at X G a27 l27 c27 k27 fun _ _ _ _ _ _ us hl => match us, hl with | [_, _], _ => rfl,
    d28 := def_at X G a28 l28 c28 k28 fun _ _ _ _ _ _ us hl => match us, hl with | [_, _], _ => rfl,
    d29 := def_at X G a29 l29 c29 k29 fun _ _ _ _ _ _ us hl => match us, hl with | [_, _], _ => rfl,
    d31 := def_at X G a31 l31 c31 k31 fun _ _ _ _ _ _ us hl => match us, hl with | [_], _ => rfl,
    d32 := def_at X G a32 l32 c32 k32 fun _ _ _ _ _ _ us hl => match us, hl with | [_], _ => rfl,
    d33 := def_at X G a33 l33 c33 k33 fun _ _ _ _ _ _ us hl => match us, hl with | [_, _], _ => rfl,
    d34 := def_at X G a34 l34 c34 k34 fun _ _ _ _ _ _ us hl => match us, hl with | [_, _, _], _ => rfl,
    d36 := def_at X G a36 l36 c36 k36 fun _ _ _ _ _ _ us hl => match us, hl with | [_], _ => rfl,
    d38 := def_at X G a38 l38 c38 k38 fun _ _ _ _ _ _ us hl => match us, hl with | [_, _, _], _ => rfl,
    d39 := def_at X G a39 l39 c39 k39 fun _ _ _ _ _ _ us hl => match us, hl with | [_, _, _], _ => rfl,
    d40 := def_at X G a40 l40 c40 k40 fun _ _ _ _ _ _ us hl => match us, hl with | [_], _ => rfl,
    d42 := def_at X G a42 l42 c42 k42 fun _ _ _ _ _ _ us hl => match us, hl with | [_, _], _ => rfl,
    d44 := def_at X G a44 l44 c44 k44 fun _ _ _ _ _ _ us hl => match us, hl with | [_], _ => rfl,
    d45 := def_at X G a45 l45 c45 k45 fun _ _ _ _ _ _ us hl => match us, hl with | [_, _], _ => rfl,
    d46 := def_at X G a46 l46 c46 k46 fun _ _ _ _ _ _ us hl => match us, hl with | [_, _, _], _ => rfl,
    d47 := def_at X G a47 l47 c47 k47 fun _ _ _ _ _ _ us hl => match us, hl with | [_, _, _], _ => rfl,
    d48 := def_at X G a48 l48 c48 k48 fun _ _ _ _ _ _ us hl => match us, hl with | [_, _], _ => rfl,
    d49 := def_at X G a49 l49 c49 k49 fun _ _ _ _ _ _ us hl => match us, hl with | [_, _], _ => rfl,
    d50 := def_at X G a50 l50 c50 k50 fun _ _ _ _ _ _ us hl => match us, hl with | [_], _ => rfl,
    d51 := def_at X G a51 l51 c51 k51 fun _ _ _ _ _ _ us hl => match us, hl with | [_, _], _ => rfl,
    d52 := def_at X G a52 l52 c52 k52 fun _ _ _ _ _ _ us hl => match us, hl with | [_, _], _ => rfl,
    d53 := def_at X G a53 l53 c53 k53 fun _ _ _ _ _ _ us hl => match us, hl with | [_, _, _], _ => rfl,
    d54 := def_at X G a54 l54 c54 k54 fun _ _ _ _ _ _ us hl => match us, hl with | [_], _ => rfl,
    x22 := xc_mk X G aX22 qX22 saX22 eX22 tX22 kX22 iX22 uX22 lX22 cX22 gaX22 ggX22 hdX22 (by intro f hf; simp only [List.mem_cons, List.not_mem_nil, or_false] at hf; rcases hf with rfl | rfl; exact nX22_0; exact nX22_1) (fun _ _ _ _ _ _ us hl => match us, hl with | [_, _, _], _ => rfl),
    k_NoPaper := cla_mk X G aK_NoPaper,
    e_NoPaper_NoPaper := exm_mk aX22 aK_NoPaper xm_NoPaper_NoPaper,
    z_all := PySem.W.mg_none_of X G z_all,
    z_bool := PySem.W.mg_none_of X G z_bool,
    z_dict := PySem.W.mg_none_of X G z_dict,
    z_enumerate := PySem.W.mg_none_of X G z_enumerate,
    z_int := PySem.W.mg_none_of X G z_int,
    z_isinstance := PySem.W.mg_none_of X G z_isinstance,
    z_len := PySem.W.mg_none_of X G z_len,
    z_range := PySem.W.mg_none_of X G z_range,
    z_repr := PySem.W.mg_none_of X G z_repr,
    z_sorted := PySem.W.mg_none_of X G z_sorted,
    z_str := PySem.W.mg_none_of X G z_str,
    z_tuple := PySem.W.mg_none_of X G z_tuple,
    z_zip := PySem.W.mg_none_of X G z_zip,
    g_MOST_SIGNS := glob_int X G aM }
end Mok09
open PySem PySem.W PyProof.Rows
set_option maxRecDepth 100000 in
set_option maxHeartbeats 0 in
theorem PySem.Challenge.cw_mustmays_k09_whole_any_parting_row_holds : PySem.Challenge.rw_mustmays_k09_whole_any_parting_row.Holds := by
  w_on; o_law; k_head; (case hw => w_witness2)
  k_fill
  refine Mok09.walkX (l := PySem.Challenge.rw_mustmays_k09_whole_any_parting_row) (k := 67) (F := Mok09.F_law) (nm := "law") (p := "_law_script") rfl rfl (fun w h Y => PySem.W.kIn_of Y) (by decide) rfl ?F Mok09.law_true
  case F =>
    intro w mg h base KX G
    refine' Mok09.c_law (Mok09.all_mk (l := PySem.Challenge.rw_mustmays_k09_whole_any_parting_row) (w := w) KX G ?aC7 ?pg7 ?hd7 ?po7 ?sa7 ?mk7 ?kC7 ?n7_0 ?n7_1 ?n7_2 ?n7_3 ?a1 ?l1 ?c1 ?k1 ?a2 ?l2 ?c2 ?k2 ?a3 ?l3 ?c3 ?k3 ?a4 ?l4 ?c4 ?k4 ?a5 ?l5 ?c5 ?k5 ?a7_0 ?i7_0 ?l7_0 ?c7_0 ?k7_0 ?a7_1 ?i7_1 ?l7_1 ?c7_1 ?k7_1 ?a7_2 ?i7_2 ?l7_2 ?c7_2 ?k7_2 ?a7_3 ?i7_3 ?l7_3 ?c7_3 ?k7_3 ?a8 ?l8 ?c8 ?k8 ?a9 ?l9 ?c9 ?k9 ?a10 ?l10 ?c10 ?k10 ?a11 ?l11 ?c11 ?k11 ?a12 ?l12 ?c12 ?k12 ?a13 ?l13 ?c13 ?k13 ?a14 ?l14 ?c14 ?k14 ?a16 ?l16 ?c16 ?k16 ?a17 ?l17 ?c17 ?k17 ?a18 ?l18 ?c18 ?k18 ?a19 ?l19 ?c19 ?k19 ?a25 ?l25 ?c25 ?k25 ?a26 ?l26 ?c26 ?k26 ?a27 ?l27 ?c27 ?k27 ?a28 ?l28 ?c28 ?k28 ?a29 ?l29 ?c29 ?k29 ?a31 ?l31 ?c31 ?k31 ?a32 ?l32 ?c32 ?k32 ?a33 ?l33 ?c33 ?k33 ?a34 ?l34 ?c34 ?k34 ?a36 ?l36 ?c36 ?k36 ?a38 ?l38 ?c38 ?k38 ?a39 ?l39 ?c39 ?k39 ?a40 ?l40 ?c40 ?k40 ?a42 ?l42 ?c42 ?k42 ?a44 ?l44 ?c44 ?k44 ?a45 ?l45 ?c45 ?k45 ?a46 ?l46 ?c46 ?k46 ?a47 ?l47 ?c47 ?k47 ?a48 ?l48 ?c48 ?k48 ?a49 ?l49 ?c49 ?k49 ?a50 ?l50 ?c50 ?k50 ?a51 ?l51 ?c51 ?k51 ?a52 ?l52 ?c52 ?k52 ?a53 ?l53 ?c53 ?k53 ?a54 ?l54 ?c54 ?k54 ?aX22 ?qX22 ?saX22 ?eX22 ?tX22 ?kX22 ?iX22 ?uX22 ?lX22 ?cX22 ?gaX22 ?ggX22 ?hdX22 ?nX22_0 ?nX22_1 ?aK_NoPaper ?xm_NoPaper_NoPaper ?aM ?z_all ?z_bool ?z_dict ?z_enumerate ?z_int ?z_isinstance ?z_len ?z_range ?z_repr ?z_sorted ?z_str ?z_tuple ?z_zip)
    (case aC7 => k_is)
    (case pg7 => k_is)
    (case hd7 => k_is)
    (case po7 => k_is)
    (case sa7 => k_is)
    (case mk7 => k_is)
    (case kC7 => k_is)
    (case n7_0 => k_is)
    (case n7_1 => k_is)
    (case n7_2 => k_is)
    (case n7_3 => k_is)
    (case a1 => k_is)
    (case l1 => k_is)
    (case c1 => k_is)
    (case k1 => k_is)
    (case a2 => k_is)
    (case l2 => k_is)
    (case c2 => k_is)
    (case k2 => k_is)
    (case a3 => k_is)
    (case l3 => k_is)
    (case c3 => k_is)
    (case k3 => k_is)
    (case a4 => k_is)
    (case l4 => k_is)
    (case c4 => k_is)
    (case k4 => k_is)
    (case a5 => k_is)
    (case l5 => k_is)
    (case c5 => k_is)
    (case k5 => k_is)
    (case a7_0 => k_is)
    (case i7_0 => k_is)
    (case l7_0 => k_is)
    (case c7_0 => k_is)
    (case k7_0 => k_is)
    (case a7_1 => k_is)
    (case i7_1 => k_is)
    (case l7_1 => k_is)
    (case c7_1 => k_is)
    (case k7_1 => k_is)
    (case a7_2 => k_is)
    (case i7_2 => k_is)
    (case l7_2 => k_is)
    (case c7_2 => k_is)
    (case k7_2 => k_is)
    (case a7_3 => k_is)
    (case i7_3 => k_is)
    (case l7_3 => k_is)
    (case c7_3 => k_is)
    (case k7_3 => k_is)
    (case a8 => k_is)
    (case l8 => k_is)
    (case c8 => k_is)
    (case k8 => k_is)
    (case a9 => k_is)
    (case l9 => k_is)
    (case c9 => k_is)
    (case k9 => k_is)
    (case a10 => k_is)
    (case l10 => k_is)
    (case c10 => k_is)
    (case k10 => k_is)
    (case a11 => k_is)
    (case l11 => k_is)
    (case c11 => k_is)
    (case k11 => k_is)
    (case a12 => k_is)
    (case l12 => k_is)
    (case c12 => k_is)
    (case k12 => k_is)
    (case a13 => k_is)
    (case l13 => k_is)
    (case c13 => k_is)
    (case k13 => k_is)
    (case a14 => k_is)
    (case l14 => k_is)
    (case c14 => k_is)
    (case k14 => k_is)
    (case a16 => k_is)
    (case l16 => k_is)
    (case c16 => k_is)
    (case k16 => k_is)
    (case a17 => k_is)
    (case l17 => k_is)
    (case c17 => k_is)
    (case k17 => k_is)
    (case a18 => k_is)
    (case l18 => k_is)
    (case c18 => k_is)
    (case k18 => k_is)
    (case a19 => k_is)
    (case l19 => k_is)
    (case c19 => k_is)
    (case k19 => k_is)
    (case a25 => k_is)
    (case l25 => k_is)
    (case c25 => k_is)
    (case k25 => k_is)
    (case a26 => k_is)
    (case l26 => k_is)
    (case c26 => k_is)
    (case k26 => k_is)
    (case a27 => k_is)
    (case l27 => k_is)
    (case c27 => k_is)
    (case k27 => k_is)
    (case a28 => k_is)
    (case l28 => k_is)
    (case c28 => k_is)
    (case k28 => k_is)
    (case a29 => k_is)
    (case l29 => k_is)
    (case c29 => k_is)
    (case k29 => k_is)
    (case a31 => k_is)
    (case l31 => k_is)
    (case c31 => k_is)
    (case k31 => k_is)
    (case a32 => k_is)
    (case l32 => k_is)
    (case c32 => k_is)
    (case k32 => k_is)
    (case a33 => k_is)
    (case l33 => k_is)
    (case c33 => k_is)
    (case k33 => k_is)
    (case a34 => k_is)
    (case l34 => k_is)
    (case c34 => k_is)
    (case k34 => k_is)
    (case a36 => k_is)
    (case l36 => k_is)
    (case c36 => k_is)
    (case k36 => k_is)
    (case a38 => k_is)
    (case l38 => k_is)
    (case c38 => k_is)
    (case k38 => k_is)
    (case a39 => k_is)
    (case l39 => k_is)
    (case c39 => k_is)
    (case k39 => k_is)
    (case a40 => k_is)
    (case l40 => k_is)
    (case c40 => k_is)
    (case k40 => k_is)
    (case a42 => k_is)
    (case l42 => k_is)
    (case c42 => k_is)
    (case k42 => k_is)
    (case a44 => k_is)
    (case l44 => k_is)
    (case c44 => k_is)
    (case k44 => k_is)
    (case a45 => k_is)
    (case l45 => k_is)
    (case c45 => k_is)
    (case k45 => k_is)
    (case a46 => k_is)
    (case l46 => k_is)
    (case c46 => k_is)
    (case k46 => k_is)
    (case a47 => k_is)
    (case l47 => k_is)
    (case c47 => k_is)
    (case k47 => k_is)
    (case a48 => k_is)
    (case l48 => k_is)
    (case c48 => k_is)
    (case k48 => k_is)
    (case a49 => k_is)
    (case l49 => k_is)
    (case c49 => k_is)
    (case k49 => k_is)
    (case a50 => k_is)
    (case l50 => k_is)
    (case c50 => k_is)
    (case k50 => k_is)
    (case a51 => k_is)
    (case l51 => k_is)
    (case c51 => k_is)
    (case k51 => k_is)
    (case a52 => k_is)
    (case l52 => k_is)
    (case c52 => k_is)
    (case k52 => k_is)
    (case a53 => k_is)
    (case l53 => k_is)
    (case c53 => k_is)
    (case k53 => k_is)
    (case a54 => k_is)
    (case l54 => k_is)
    (case c54 => k_is)
    (case k54 => k_is)
    (case aX22 => k_is)
    (case qX22 => first | k_is | exact rfl | decide +kernel)
    (case saX22 => k_is)
    (case eX22 => k_is)
    (case tX22 => k_is)
    (case kX22 => k_is)
    (case iX22 => k_is)
    (case uX22 => k_is)
    (case lX22 => k_is)
    (case cX22 => k_is)
    (case gaX22 => k_is)
    (case ggX22 => k_is)
    (case hdX22 => k_is)
    (case nX22_0 => k_is)
    (case nX22_1 => k_is)
    (case aK_NoPaper => k_is)
    (case xm_NoPaper_NoPaper => first | k_is | exact rfl | decide +kernel)
    (case aM => k_is)
    (case z_all => k_is)
    (case z_bool => k_is)
    (case z_dict => k_is)
    (case z_enumerate => k_is)
    (case z_int => k_is)
    (case z_isinstance => k_is)
    (case z_len => k_is)
    (case z_range => k_is)
    (case z_repr => k_is)
    (case z_sorted => k_is)
    (case z_str => k_is)
    (case z_tuple => k_is)
    (case z_zip => k_is)
