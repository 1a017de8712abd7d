import PyProof.Rows.All
import HandS.TupSets
import KE.KSortTupUse
import Wide.All
import OpenK.AllK
import Wide.FinOn
import HandS.ForMost
import HandS.Exc
import HandS.ExcOwn
import HandS.WordsExc
import HandS.Wide
import HandS.WideBits
import HandS.Flow
import HandS.Deep
import HandS.TupAny
import HandS.IsInst
import PyProof.Rows.InDataRows
import KE.SortData
import KE.KDictPairs
import PyProof.ReprRoads
import PyProof.CallFns
import HandS.Lambda
import HandS.TupMul
import HandS.SetTxtIn
import HandS.TupLe
import HandS.SortRule
import KE.DatumOrd
import PyProof.AutoSeq1
import HandS.Small
import HandS.More
import HandS.Codes
import HandS.CallSlots
import HandS.Star
import HandS.Style
import HandS.Text
import HandS.Strs
import HandS.SetTxt0
import HandS.Set
import HandS.SetBool
import HandS.Zip
import HandS.MapObj
import KE.KDictZip
import KE.BitLaws
import KE.GoesMore
import HandS.DictComp
import KE.GoesEnum
import HandS.Conv
import HandS.ExcInit
import HandS.TryOnly
import HandS.TryMany
import HandS.ExcField
import HandS.ExcIs
import KE.KTryMore
import KE.KExcIs
import KE.KIsAll
import PyProof.Rows.CountFlat
import HandS.EndBits
import HandS.EndTab
import KE.KExcInit
import PyProof.ExcBaseAll.LookupError
import HandS.SetFor
import PyProof.SetRoads
import PyProof.Rows.SortShellAny
import HandS.SortInts
import HandS.SetKeys
import KE.DataMinMax
import KE.KDictMeth
import HandS.DictEq
import HandS.Iter
import HandS.TupLen
import PyProof.DictMoreH
import HandS.Defaults
import HandS.MakeKwOnly
import HandS.SortKw
import PyProof.StrLawsIn
import PySem.Challenge.RW_mustmays_k05_whole_texts_there_and_back
set_option Elab.async false
set_option linter.all false
set_option maxRecDepth 100000
set_option autoImplicit false
namespace Mok05
open PySem PySem.Spec PyProof.Rows L2
def geo : Nat → Nat
  | 0 => 0
  | k + 1 => 5 * geo k + 1
theorem geo_add (a : Nat) : ∀ b, geo (a + b) = 5 ^ b * geo a + geo b
  | 0 => by simp [geo]
  | b + 1 => by
    rw [← Nat.add_assoc, geo, geo_add a b, geo, Nat.pow_succ, Nat.mul_add, Nat.mul_comm (5 ^ b) 5, Nat.mul_assoc, Nat.add_assoc]
theorem geo_par : ∀ k, geo k % 2 = k % 2
  | 0 => rfl
  | k + 1 => by have := geo_par k; rw [geo]; omega
theorem five_par : ∀ k, 5 ^ k % 4 = 1
  | 0 => rfl
  | k + 1 => by have := five_par k; rw [Nat.pow_succ]; omega
theorem odd_out {o : Nat} (ho : o % 2 = 1) : ∀ (k x : Nat), 2 ^ k ∣ x * o → 2 ^ k ∣ x
  | 0, x, _ => by simp
  | k + 1, x, h => by
    obtain ⟨c, hc⟩ := h
    have e : x % 2 = 0 := by
      have h1 : (x * o) % 2 = 0 := by rw [hc, Nat.pow_succ, Nat.mul_assoc, Nat.mul_left_comm]; omega
      rw [Nat.mul_mod, ho] at h1
      omega
    obtain ⟨y, rfl⟩ : ∃ y, x = 2 * y := ⟨x / 2, by omega⟩
    have h2 : 2 ^ k ∣ y * o := ⟨c, by
      have : 2 * (y * o) = 2 * (2 ^ k * c) := by rw [← Nat.mul_assoc, hc, Nat.pow_succ]; simp [Nat.mul_comm, Nat.mul_left_comm]
      omega⟩
    obtain ⟨d, hd⟩ := odd_out ho k y h2
    exact ⟨d, by rw [hd, Nat.pow_succ]; simp [Nat.mul_comm, Nat.mul_left_comm]⟩
theorem geo_two : ∀ (k d : Nat), 2 ^ k ∣ geo d → 2 ^ k ∣ d
  | 0, d, _ => by simp
  | k + 1, d, h => by
    have e : d % 2 = 0 := by
      rw [← geo_par]
      obtain ⟨c, hc⟩ := h
      rw [hc, Nat.pow_succ, Nat.mul_assoc, Nat.mul_left_comm]
      omega
    obtain ⟨y, rfl⟩ : ∃ y, d = y + y := ⟨d / 2, by omega⟩
    have f := five_par y
    obtain ⟨o, ho, o1⟩ : ∃ o, 5 ^ y + 1 = 2 * o ∧ o % 2 = 1 := ⟨(5 ^ y + 1) / 2, by omega, by omega⟩
    have g : geo (y + y) = geo y * o * 2 := by
      rw [geo_add, show 5 ^ y * geo y + geo y = geo y * (5 ^ y + 1) by rw [Nat.mul_add, Nat.mul_one, Nat.mul_comm], ho]
      simp [Nat.mul_comm, Nat.mul_left_comm, Nat.mul_assoc]
    obtain ⟨c, hc⟩ := h
    have h2 : 2 ^ k ∣ geo y * o := ⟨c, by rw [g, Nat.pow_succ] at hc; have : 2 ^ k * 2 * c = 2 ^ k * c * 2 := by simp [Nat.mul_comm, Nat.mul_left_comm]
                                          omega⟩
    obtain ⟨d, hd⟩ := geo_two k y (odd_out o1 k _ h2)
    exact ⟨d, by rw [Nat.pow_succ]; have : 2 ^ k * 2 * d = 2 * (2 ^ k * d) := by simp [Nat.mul_comm, Nat.mul_left_comm]
                 omega⟩
theorem lcg_lin {m i : Nat} (hi : i ≤ m) : ∀ k, lcgI m i k = (i + (4 * i + 1) * geo k) % (m + 1)
  | 0 => by
    rw [geo, Nat.mul_zero, Nat.add_zero, Nat.mod_eq_of_lt (Nat.lt_succ_of_le hi)]
    rfl
  | k + 1 => by
    rw [lcgI, lcg_lin hi k, Nat.add_mod, Nat.mul_mod, Nat.mod_mod, ← Nat.mul_mod, ← Nat.add_mod]
    refine congrArg (· % (m + 1)) ?_
    rw [geo, Nat.mul_add, Nat.add_mul, Nat.mul_one, show (4 * i + 1) * (5 * geo k) = (4 * i + 1) * geo k * 5 by rw [Nat.mul_comm 5, Nat.mul_assoc]]
    omega
def Msk (m : Nat) : Prop := ∃ k, m + 1 = 2 ^ k
theorem lcg_inj {m i a b : Nat} (hm : Msk m) (hi : i ≤ m) (h : a < b) (hb : b ≤ m) : lcgI m i a ≠ lcgI m i b := by
  obtain ⟨k, hk⟩ := hm
  rw [lcg_lin hi, lcg_lin hi]
  intro e
  have g : geo b = 5 ^ a * geo (b - a) + geo a := by
    have := geo_add (b - a) a
    rwa [Nat.sub_add_cancel (Nat.le_of_lt h)] at this
  have h1 : i + (4 * i + 1) * geo a ≤ i + (4 * i + 1) * geo b := Nat.add_le_add_left (Nat.mul_le_mul_left _ (by rw [g]; omega)) _
  have d : m + 1 ∣ (i + (4 * i + 1) * geo b) - (i + (4 * i + 1) * geo a) := Nat.dvd_of_mod_eq_zero (Nat.sub_mod_eq_zero_of_mod_eq e.symm)
  rw [Nat.add_sub_add_left, ← Nat.mul_sub, g, Nat.add_sub_cancel, hk] at d
  have p1 : (5 ^ a) % 2 = 1 := by have := five_par a; omega
  rw [Nat.mul_comm] at d
  have d2 := odd_out (o := 4 * i + 1) (by omega) k _ d
  rw [Nat.mul_comm] at d2
  have d3 := geo_two k _ (odd_out p1 k _ d2)
  have := Nat.le_of_dvd (by omega) d3
  omega
theorem lcg_to {m i j : Nat} (hm : Msk m) (hi : i ≤ m) (hj : j ≤ m) : ∃ k, k ≤ m ∧ lcgI m i k = j := by
  refine Classical.byContradiction fun c => ?_
  have lt : ∀ k, lcgI m i k ≤ m := fun k => by rw [lcg_lin hi]; exact Nat.le_of_lt_succ (Nat.mod_lt _ (Nat.succ_pos _))
  have nd : ((List.range (m + 1)).map (lcgI m i)).Nodup := List.pairwise_map.mpr (List.Pairwise.imp_of_mem (fun {a b} ha hb h => lcg_inj hm hi h (Nat.le_of_lt_succ (List.mem_range.mp hb))) List.pairwise_lt_range)
  have := nat_nodup_len _ ((List.range (m + 1)).erase j) nd fun x hx => by
    obtain ⟨k, hk, rfl⟩ := List.mem_map.mp hx
    have hk := List.mem_range.mp hk
    exact (List.mem_erase_of_ne fun e => c ⟨k, by omega, e⟩).mpr (List.mem_range.mpr (Nat.lt_succ_of_le (lt k)))
  rw [List.length_map, List.length_range, List.length_erase_of_mem (List.mem_range.mpr (Nat.lt_succ_of_le hj)), List.length_range] at this
  omega
theorem meets_run {m : Nat} (hm : Msk m) (h : Int) {j : Nat} (hj : j ≤ m) : ∃ n, n ≤ m + 12 ∧ runI m (SetTable.bits h) n = j := by
  obtain ⟨k, hk, e⟩ := lcg_to hm (runI_le m (SetTable.bits h) 12) hj
  exact ⟨12 + k, by omega, (runI_tail (bits_lt h) k).trans e⟩
theorem way_in (m : Nat) (h : Int) (k : Nat) : way m h k ≤ m := by
  have r := runEnd_bd (m := m) (i := SetTable.bits h % (m + 1)) (Nat.le_of_lt_succ (Nat.mod_lt _ (Nat.succ_pos m)))
  have q := nth_in (m := m) k (runAt m (SetTable.bits h % (m + 1)) (SetTable.bits h)) (by unfold runAt; dsimp only; omega)
  exact Nat.le_trans (Nat.le_add_right _ _) q
end Mok05
set_option autoImplicit false
namespace Mok05
open PySem PySem.Spec PyProof.Rows L2
structure TbB (t : SetTable) (hs : List Int) : Prop where
  up : Ris t.place.toList
  dm : t.dummies = #[]
  sz : t.place.size = hs.length
  msk : Msk t.mask
  m7 : 7 ≤ t.mask
  mx : t.mask ≤ 8191
  bd : ∀ x ∈ t.place.toList, x ≤ t.mask
  rc : ∀ (i : Nat) (h : Int) (j : Nat), hs[i]? = some h → t.place.toList[i]? = some j → ∃ k, way t.mask h k = j ∧ ∀ c, c < k → way t.mask h c ∈ t.place.toList
section
variable {t : SetTable} {hs : List Int}
end
theorem free_at {m : Nat} (hm : Msk m) (ow : Array (Option Nat)) (h : Int) {j : Nat} (hj : j ≤ m) (fr : oAt ow j = none) :
    ∃ K, SetTable.layClean.free m ow (SetTable.turns m) (SetTable.bits h % (m + 1)) (SetTable.bits h) = some (way m h K) ∧ oAt ow (way m h K) = none ∧ ∀ c, c < K → oAt ow (way m h c) ≠ none := by
  obtain ⟨n, hn, e⟩ := meets_run hm h hj
  have w : way m h (off m (SetTable.bits h % (m + 1)) (SetTable.bits h) n) = j := by
    unfold way
    rw [nth_off, itL_run]
    exact e
  obtain ⟨K, le, k2, k3⟩ := st_least (p := fun c => oAt ow (way m h c) = none) _ (w.symm ▸ fr)
  refine ⟨K, free_spec m ow _ n _ _ K (by unfold SetTable.turns; omega) le (fun c hc => ?_) ?_, k2, k3⟩
  · cases z : oAt ow (way m h c) with
    | none => exact (k3 c hc z).elim
    | some _ => rfl
  · exact (congrArg Option.isNone k2).trans rfl
theorem sit_one {m : Nat} (hm : Msk m) {dn : List Int} {ow : Array (Option Nat)} (W : Own m dn ow) (room : dn.length ≤ m) (h : Int) :
    ∃ j, SetTable.layClean.free m ow (SetTable.turns m) (SetTable.bits h % (m + 1)) (SetTable.bits h) = some j ∧ Own m (dn ++ [h]) (ow.setIfInBounds j (some dn.length)) := by
  obtain ⟨ps, lp, inp⟩ := W.ps
  obtain ⟨x, hx, nx⟩ := st_missing ps (m + 1) (by omega)
  have fx : oAt ow x = none := Classical.byContradiction fun c => nx (inp x (Nat.le_of_lt_succ hx) c)
  obtain ⟨K, e, fr, oc⟩ := free_at hm ow h (Nat.le_of_lt_succ hx) fx
  obtain ⟨j, ej⟩ : ∃ j, j = way m h K := ⟨_, rfl⟩
  have jm : j ≤ m := ej ▸ way_in m h K
  have me := oAt_set_self (some dn.length) (show j < ow.size by rw [W.sz]; omega)
  have ot : ∀ i, i ≠ j → oAt (ow.setIfInBounds j (some dn.length)) i = oAt ow i := fun i ne => oAt_set_ne _ ne
  have st : ∀ i, oAt ow i ≠ none → oAt (ow.setIfInBounds j (some dn.length)) i ≠ none := fun i hi => by
    rcases Classical.em (i = j) with rfl | ne
    · rw [me]; exact Option.some_ne_none _
    · rw [ot i ne]; exact hi
  rw [← ej] at e fr
  refine ⟨j, e, by rw [Array.size_setIfInBounds]; exact W.sz, fun i k hi ek => ?_, fun k hk => ?_, j :: ps, by simp [lp], fun i hi ne => ?_⟩
  · rcases Classical.em (i = j) with rfl | ne
    · rw [me] at ek
      cases ek
      exact ⟨h, K, by simp, ej.symm, fun c hc => st _ (oc c hc)⟩
    · rw [ot i ne] at ek
      obtain ⟨g, C, a, b, z⟩ := W.at_ i k hi ek
      exact ⟨g, C, by rw [List.getElem?_append_left (List.getElem?_eq_some_iff.mp a).1]; exact a, b, fun c hc => st _ (z c hc)⟩
  · rw [List.length_append, List.length_singleton] at hk
    rcases Nat.lt_or_ge k dn.length with lt | ge
    · obtain ⟨i, hi, ek⟩ := W.all k lt
      exact ⟨i, hi, by rw [ot i (fun z => by rw [z, fr] at ek; cases ek)]; exact ek⟩
    · exact ⟨j, jm, by rw [me, show k = dn.length by omega]⟩
  · rcases Classical.em (i = j) with rfl | nj
    · exact List.mem_cons_self
    · exact List.mem_cons_of_mem _ (inp i hi (by rw [← ot i nj]; exact ne))
theorem sit_all {m : Nat} (hm : Msk m) : ∀ (rest dn : List Int) (ow : Array (Option Nat)), Own m dn ow → dn.length + rest.length ≤ m →
    ∃ ow', rest.foldl (stepF m) (some (ow, dn.length)) = some (ow', (dn ++ rest).length) ∧ Own m (dn ++ rest) ow'
  | [], dn, ow, W, _ => ⟨ow, by simp, by simpa using W⟩
  | h :: rest, dn, ow, W, room => by
    rw [List.length_cons] at room
    obtain ⟨j, e, W1⟩ := sit_one hm W (by omega) h
    have ln : (dn ++ [h]).length = dn.length + 1 := by simp
    obtain ⟨ow', f, W2⟩ := sit_all hm rest _ _ W1 (by rw [ln]; omega)
    rw [List.append_assoc, List.singleton_append] at f W2
    rw [ln] at f
    exact ⟨ow', by rw [List.foldl_cons, stepF_some e]; exact f, W2⟩
theorem lay_all {m : Nat} (hm : Msk m) {hs : Array Int} (room : hs.size ≤ m) : ∃ ow, SetTable.layClean m hs = some ow ∧ Own m hs.toList ow := by
  obtain ⟨ow, f, W⟩ := sit_all hm hs.toList [] _ (Own.init m) (by simpa using room)
  rw [List.nil_append] at W
  exact ⟨ow, by rw [layClean_eq, show List.foldl (stepF m) (some (Array.replicate (m + 1) none, 0)) hs.toList = _ from f]; rfl, W⟩
theorem laid_anew (t : SetTable) {hs : Array Int} {wanted M : Nat} (hw : SetTable.sizeAbove wanted - 1 = M) (hM : Msk M) (M7 : 7 ≤ M) (Mx : M ≤ 8191) (room : hs.size ≤ M) :
    ∃ u order, t.relaid hs wanted = some (u, order) ∧ order.toList.Perm (List.range hs.size) ∧ TbB u (order.toList.map fun i => hs.getD i 0) ∧ u.mask = M ∧ u.led = t.led ∧ u.plain = t.plain := by
  obtain ⟨ow, e, W⟩ := lay_all hM room
  obtain ⟨up, inr⟩ := ris_live (fun j => ow.getD j none) (List.range (M + 1)) (by unfold Ris; exact List.pairwise_lt_range)
  change Ris ((liveOf M ow).map (·.1)) at up
  change ∀ x ∈ (liveOf M ow).map (·.1), x ∈ List.range (M + 1) at inr
  have lv : ∀ j k, (j, k) ∈ liveOf M ow ↔ j ≤ M ∧ oAt ow j = some k := fun j k => mem_live W.sz
  have got : ∀ k, k < hs.size → k ∈ (liveOf M ow).map (·.2) := fun k hk => by
    obtain ⟨j, hj, ek⟩ := W.all k hk
    exact List.mem_map.mpr ⟨(j, k), (lv j k).mpr ⟨hj, ek⟩, rfl⟩
  have len : (liveOf M ow).length = hs.size := by
    obtain ⟨ps, lp, inp⟩ := W.ps
    have nd : ((liveOf M ow).map (·.1)).Nodup := List.Pairwise.imp (fun h => Nat.ne_of_lt h) up
    have a := nat_nodup_len ((liveOf M ow).map (·.1)) ps nd fun x hx => by
      obtain ⟨⟨y, k⟩, hq, rfl⟩ := List.mem_map.mp hx
      obtain ⟨hy, ek⟩ := (lv y k).mp hq
      exact inp y hy (by rw [ek]; exact Option.some_ne_none _)
    have b := nat_nodup_len (List.range hs.size) ((liveOf M ow).map (·.2)) List.nodup_range fun k hk => got k (List.mem_range.mp hk)
    rw [List.length_map] at a b
    rw [List.length_range] at b
    rw [lp] at a
    have zz : hs.toList.length = hs.size := rfl
    omega
  refine ⟨tabOf t M ow, ((liveOf M ow).map (·.2)).toArray, by rw [relaid_eq, hw, e]; rfl, ?_, ⟨up, rfl, ?_, hM, M7, Mx, fun x hx => Nat.le_of_lt_succ (List.mem_range.mp (inr x hx)), fun i h j h1 h2 => ?_⟩, rfl, rfl, rfl⟩
  · exact perm_range hs.size _ (by simpa using len) got
  · simp [tabOf]
  · have h2 : ((liveOf M ow).map (·.1))[i]? = some j := h2
    have h1 : (((liveOf M ow).map (·.2)).map fun i => hs.getD i 0)[i]? = some h := h1
    simp only [List.getElem?_map, Option.map_eq_some_iff] at h1 h2
    obtain ⟨⟨y, k⟩, hq, rfl⟩ := h2
    obtain ⟨k', ⟨q, hq', ek'⟩, eh⟩ := h1
    rw [hq] at hq'
    cases hq'
    subst ek'
    obtain ⟨hy, ek⟩ := (lv y k).mp (List.mem_of_getElem? hq)
    obtain ⟨g, K, a, b, z⟩ := W.at_ y k hy ek
    have eg : hs.getD k 0 = g := by
      rw [Array.getD_eq_getD_getElem?, ← Array.getElem?_toList, a]
      rfl
    have : g = h := eg.symm.trans eh
    subst this
    refine ⟨K, b, fun c hc => ?_⟩
    show way M g c ∈ (liveOf M ow).map (·.1)
    cases zz : oAt ow (way M g c) with
    | none => exact (z c hc zz).elim
    | some k2 => exact List.mem_map.mpr ⟨(way M g c, k2), (lv _ _).mpr ⟨way_in M g c, zz⟩, rfl⟩
theorem size_go : ∀ (f k n : Nat), n < 2 ^ (k + f) → ∃ j, k ≤ j ∧ SetTable.sizeAbove.go n f (2 ^ k) = 2 ^ j ∧ n < 2 ^ j ∧ (j = k ∨ 2 ^ j ≤ 2 * n)
  | 0, k, n, h => ⟨k, Nat.le_refl _, rfl, h, .inl rfl⟩
  | f + 1, k, n, h => by
    unfold SetTable.sizeAbove.go
    split
    · rename_i le
      obtain ⟨j, a, b, c, d⟩ := size_go f (k + 1) n (by rw [show k + 1 + f = k + (f + 1) by omega]; exact h)
      refine ⟨j, by omega, by rw [← Nat.pow_succ]; exact b, c, .inr ?_⟩
      rcases d with rfl | d
      · rw [Nat.pow_succ]; omega
      · exact d
    · rename_i gt
      exact ⟨k, Nat.le_refl _, rfl, by omega, .inl rfl⟩
theorem size_for {n : Nat} (h : n < 100000) : ∃ j, 3 ≤ j ∧ SetTable.sizeAbove n = 2 ^ j ∧ n < 2 ^ j ∧ (j = 3 ∨ 2 ^ j ≤ 2 * n) :=
  size_go 64 3 n (Nat.lt_of_lt_of_le h (by decide))
end Mok05
set_option autoImplicit false
namespace Mok05
open PySem PySem.Spec PyProof.Rows L2
structure SetB (P : Program) (w : World) (hp : Heap) (a : Addr) (L : List (Addr × List Int)) (es : Array (Int × Value)) (ep : Nat) (t : SetTable) : Prop where
  obj : ∃ z, hp.get? a = some z ∧ z.data = .set es ep t ∧ z.ExactSet
  ent : es.toList = rowsOf P w L
  tab : TbB t (L.map fun q => thash P w q.2)
  one : (L.map Prod.snd).Nodup
  tup : ∀ q ∈ L, IsT P w hp q.2 q.1
  pl : t.plain = true
  ld : w.params.followText "set-order" = true ∨ t.led = true
  room : 5 * L.length < 3 * t.mask
  few : L.length < 2048
section
variable {P : Program} {w : World} {A : Around} {E : Value → Shared → Prop} {s : Shared} {a : Addr} {L : List (Addr × List Int)} {es : Array (Int × Value)} {ep : Nat} {t : SetTable}
theorem ent_len {hs : List (Int × Value)} (h : hs = rowsOf P w L) : hs.length = L.length := by rw [h]; exact List.length_map _
end
end Mok05
set_option autoImplicit false
namespace Mok05
open PySem PySem.Spec PyProof.Rows L2
section
variable {P : Program} {w : World} {A : Around} {E : Value → Shared → Prop} {s : Shared} {a : Addr} {L : List (Addr × List Int)} {es : Array (Int × Value)} {ep : Nat} {t : SetTable}
theorem wider {z : Obj} (hz : s.heap.get? a = some z) (zx : z.ExactSet) (zd : z.data = .set es ep t) (ent : es.toList = rowsOf P w L) (ps : t.place.size = es.size) (dm : t.dummies = #[]) (fl : es.size ≤ t.mask)
    (one : (L.map Prod.snd).Nodup) (tup : ∀ q ∈ L, IsT P w s.heap q.2 q.1) (pl : t.plain = true) (ld : w.params.followText "set-order" = true ∨ t.led = true) (few : L.length < 2048) (l1 : 0 < L.length) {n : Nat} (en : n = 4 * L.length)
    {Q : Unit → Shared → Prop} (q : ∀ hp L1 es1 ep1 t1, Heap.SameBut a s.heap hp → SetB P w hp a L1 es1 ep1 t1 → L1.Perm L → Q () { s with heap := hp }) : wpAny (model P w) A (setRelay a n) Q E s := by
  have el : es.size = L.length := ent_len ent
  obtain ⟨j, j3, sj, lt, up⟩ := size_for (n := n) (by omega)
  have p8 : (2 : Nat) ^ 3 ≤ 2 ^ j := Nat.pow_le_pow_right (by decide) j3
  have mx : 2 ^ j ≤ 8192 := by
    rcases up with rfl | up
    · decide
    · refine Nat.le_of_not_lt fun c => ?_
      have : 14 ≤ j := Nat.le_of_not_lt fun c2 => by
        have := Nat.pow_le_pow_right (n := 2) (by decide) (show j ≤ 13 by omega)
        omega
      have := Nat.pow_le_pow_right (n := 2) (by decide) this
      omega
  have fits : t.fits es.size = true := by
    simp only [SetTable.fits, SetTable.fill, dm, Bool.and_eq_true, beq_iff_eq, decide_eq_true_eq]
    exact ⟨ps, by show t.place.size + 0 ≤ t.mask; omega⟩
  obtain ⟨u, order, e, pm, T, um, ul, up⟩ := laid_anew t (hs := es.map (·.1)) (wanted := n) (M := 2 ^ j - 1) (by rw [sj]) ⟨j, by omega⟩ (by omega) (by omega) (by rw [Array.size_map]; omega)
  rw [Array.size_map, el] at pm
  obtain ⟨L1, r1, r2, r3⟩ := order_rows L es order ent pm
  rw [← r3] at T
  have sz : (order.filterMap (es[·]?)).size = es.size := by
    rw [el, ← r2.length_eq]
    exact ent_len r1
  rw [setRelay_eq]
  refine wpAny_bind (wpAny_setState_of hz zd fits ?_)
  dsimp only
  refine wp_if_neg (by rw [sizeLine_eq, sj]; omega) ?_
  try refine wpAny_bind (wpAny_pure ?_)
  rw [e]
  dsimp only
  refine wpAny_bind (wp_if_neg (by simp [sz]) ?_)
  try refine wpAny_bind (wpAny_pure ?_)
  refine wpAny_pure ?_
  dsimp only
  refine wpAny_storeSet_of hz zd ?_ (by rw [sz, sizeLine_eq]; omega)
  have sb : Heap.SameBut a s.heap (s.heap.update a (Obj.putSet (order.filterMap (es[·]?)) u)) := Heap.SameBut.update ..
  refine q _ L1 _ (ep + 1) u sb ⟨⟨_, store_at hz zd, rfl, zx.1, zx.2.1, zx.2.2⟩, r1, T, (r2.map Prod.snd).nodup_iff.mpr one, fun q hq => isT_same (tup q (r2.mem_iff.mp hq)) hz zd sb, up.trans pl, by rw [ul]; exact ld, ?_, r2.length_eq ▸ few⟩ r2
  rw [r2.length_eq, um]
  omega
end
end Mok05
set_option autoImplicit false
namespace Mok05
open PySem PySem.Spec PyProof.Rows L2
open PyProof.Rows.G (tupKeyC tupKindC TupsOf.length tupKeyC_of)
section
variable {P : Program} {w : World} {A : Around} {E : Value → Shared → Prop} {s : Shared}
variable {a : Addr} {L : List (Addr × List Int)} {es : Array (Int × Value)} {ep : Nat} {t : SetTable}
end
structure SetB0 (P : Program) (w : World) (hp : Heap) (a : Addr) (L : List (Addr × List Int)) : Prop where
  ex : ∃ (es : Array (Int × Value)) (ep : Nat) (t : SetTable), (∃ z, hp.get? a = some z ∧ z.data = .set es ep t ∧ z.ExactSet) ∧ es.toList = rowsOf P w L ∧ TbB t (L.map fun q => thash P w q.2) ∧ (L.map Prod.snd).Nodup ∧ t.plain = true ∧
    (w.params.followText "set-order" = true ∨ t.led = true) ∧ 5 * L.length < 3 * t.mask ∧ L.length < 2048
def SetBO (P : Program) (w : World) (a : Addr) (L : List (Addr × List Int)) : HO := .ext fun hp => SetB0 P w hp a L
section
variable {P : Program} {w : World} {hp : Heap} {a : Addr} {L : List (Addr × List Int)}
end
end Mok05
set_option autoImplicit false
namespace Mok05
open PySem PySem.Spec PyProof.Rows L2
class Wd where
  P : Program
  w : World
  T : List (Addr × Str)
variable [Wd]
structure Xc where
  cls : Str
  fs : List (Str × PyData)
inductive Oth where
  | fn (f c : Addr) (q : Str) (ρ : List (Option PyData)) (σ : L2.St)
  | st (xs : List PyData)
    | gf (x : Str)
inductive W where
  | d (x : PyData)
  | r (n : Nat)
    | s (ns : List Int)
    | e (a d C : Addr) (x : Xc)
    | o (t : Oth)
inductive FV where
  | d (x : PyData)
  | r (k : Nat)
inductive MO where
    | dead
  | l (xs : List PyData)
  | k (kvs : List (PyData × PyData))
    | o (x : Str) (fs : List (Str × PyData))
    | kl (kvs : List (PyData × List PyData))
    | q (x : Str) (gs : List (Str × FV))
    | emp
    | kt (kvs : List (List Int × PyData))
    | ll (xss : List (List PyData))
abbrev Mem := List MO
inductive Res (α : Type) where
  | ok (a : α) (μ : Mem)
  | exc (x : Xc) (μ : Mem)
  | bad
def bnd {α β : Type} (r : Res α) (f : α → Mem → Res β) : Res β := match r with
  | .ok a μ => f a μ
  | .exc x μ => .exc x μ
  | .bad => .bad
@[simp] theorem bnd_ok {α β : Type} {a : α} {μ : Mem} {f : α → Mem → Res β} : bnd (.ok a μ) f = f a μ := rfl
@[simp] theorem bnd_exc {α β : Type} {x : Xc} {μ : Mem} {f : α → Mem → Res β} : bnd (.exc x μ) f = .exc x μ := rfl
@[simp] theorem bnd_bad {α β : Type} {f : α → Mem → Res β} : bnd .bad f = .bad := rfl
abbrev Env := List (Option W)
abbrev DE := Env → Mem → Res W
abbrev DT := Env → Mem → Res Bool
abbrev DA := Env → Mem → Res (List W)
inductive SR where
  | nx (ρ : Env) (μ : Mem)
  | rt (w : W) (μ : Mem)
  | bk (ρ : Env) (μ : Mem)
  | ct (ρ : Env) (μ : Mem)
  | exc (x : Xc) (ρ : Env) (μ : Mem)
  | bad
abbrev DS := Env → Mem → SR
abbrev Fp := Option (List Addr)
def fps (m : List Fp) : List Addr := (m.filterMap id).flatten
structure Ms where
  v : List Fp
  h : List Addr
abbrev VL (m : Ms) : Addr → Prop := fun a => a ∈ fps m.v
abbrev Live (m : Ms) : Addr → Prop := fun a => a ∈ fps m.v ∨ a ∈ m.h
def Ms.add (m : Ms) (p : Addr) : Ms := { m with v := m.v ++ [some [p]] }
def Ms.del (m : Ms) (n : Nat) : Ms := { m with v := m.v.set n none }
def Ms.cut (m : Ms) (n : Nat) : Ms := { m with v := m.v.take n }
def Ms.hide (m : Ms) (p : Addr) : Ms := { m with h := p :: m.h }
theorem fps_iff {m : List Fp} {a : Addr} : a ∈ fps m ↔ ∃ l, some l ∈ m ∧ a ∈ l := by
  unfold fps
  simp only [List.mem_flatten, List.mem_filterMap, id_eq, exists_eq_right]
theorem fps_append (m t : List Fp) : fps (m ++ t) = fps m ++ fps t := by simp [fps]
theorem fps_one (l : List Addr) : fps [some l] = l := by simp [fps]
def Chg : HO → Prop
  | .lst _ => True
  | .dK _ => True
  | .dT _ => True
  | .set _ _ => True
  | .ins _ _ _ => True
  | .ext _ => True
  | _ => False
def Nt (o : HO) : Prop := ∀ ps, o ≠ .tbl ps
theorem nt_lst {xs : List V} : Nt (.lst xs) := fun _ z => nomatch z
theorem nt_tup {xs : List V} : Nt (.tup xs) := fun _ z => nomatch z
theorem nt_frz {o : Obj} {u : HO} : Nt (.frz o u) := fun _ z => nomatch z
theorem nt_dK {us : List (Key × V)} : Nt (.dK us) := fun _ z => nomatch z
theorem nt_xd {us : List (Str × V)} : Nt (.xd us) := fun _ z => nomatch z
theorem nt_ins {C d : Addr} {us : List (Str × V)} : Nt (.ins C d us) := fun _ z => nomatch z
theorem nt_ext {φ : Heap → Prop} : Nt (.ext φ) := fun _ z => nomatch z
theorem nt_set {S : Int → Bool} {n : Nat} : Nt (.set S n) := fun _ z => nomatch z
theorem Chg.nt {o : HO} (h : Chg o) : Nt o := fun _ z => by
  subst z
  exact h
theorem nt_or (o : HO) : Nt o ∨ ∃ ps, o = .tbl ps := by
  cases o with
  | tbl ps => exact .inr ⟨ps, rfl⟩
  | _ => exact .inl fun _ z => nomatch z
structure Keeps (L : Addr → Prop) (H : Hp) (L' : Addr → Prop) (H' : Hp) : Prop where
  keep : ∀ b o, H b = some o → (L b → ¬ Chg o) → Nt o → H' b = some o
  new : ∀ b, L' b → ¬ L b → H b = none
  tbk : ∀ b ps, H b = some (.tbl ps) → ∃ qs, H' b = some (.tbl qs)
structure Ext (m : Ms) (H : Hp) (m' : Ms) (H' : Hp) : Prop where
  pre : ∀ n : Nat, ∀ l, l ≠ [] → m.v[n]? = some (some l) → m'.v[n]? = some none ∨ ∃ l', m'.v[n]? = some (some l') ∧ l'.head? = l.head?
  pre0 : ∀ n : Nat, m.v[n]? = some none → m'.v[n]? = some none
  hid : m'.h = m.h
  keep : ∀ b o, H b = some o → (VL m b → ¬ Chg o) → Nt o → H' b = some o
  new : ∀ b, VL m' b → ¬ VL m b → H b = none
  tbk : ∀ b ps, H b = some (.tbl ps) → ∃ qs, H' b = some (.tbl qs)
structure Exw (m : Ms) (H : Hp) (m' : Ms) (H' : Hp) : Prop where
  pre : ∀ n : Nat, ∀ l, l ≠ [] → m.v[n]? = some (some l) → m'.v[n]? = some none ∨ ∃ l', m'.v[n]? = some (some l') ∧ l'.head? = l.head?
  pre0 : ∀ n : Nat, m.v[n]? = some none → m'.v[n]? = some none
  ks : Keeps (Live m) H (Live m') H'
theorem Ext.ks {m m' : Ms} {H H' : Hp} (e : Ext m H m' H') : Keeps (Live m) H (Live m') H' :=
  ⟨fun b o h n nt => e.keep b o h (fun q => n (.inl q)) nt, fun b h n => by
    rcases h with h | h
    · exact e.new b h fun q => n (.inl q)
    · rw [e.hid] at h
      exact (n (.inr h)).elim, e.tbk⟩
theorem Ext.refl (m : Ms) (H : Hp) : Ext m H m H := ⟨fun n l _ h => .inr ⟨l, h, rfl⟩, fun _ h => h, rfl, fun _ _ h _ _ => h, fun _ h n => (n h).elim, fun _ ps h => ⟨ps, h⟩⟩
theorem Keeps.notlive {L L' : Addr → Prop} {H H' : Hp} (e : Keeps L H L' H') {b : Addr} {o : HO} (h : H b = some o) (n : ¬ L b) : ¬ L' b := fun q => by
  have := e.new b q n
  rw [h] at this
  cases this
theorem Ext.w {m m' : Ms} {H H' : Hp} (e : Ext m H m' H') : Exw m H m' H' := ⟨e.pre, e.pre0, e.ks⟩
theorem Keeps.trans {L L1 L2 : Addr → Prop} {H H1 H2 : Hp} (a : Keeps L H L1 H1) (b : Keeps L1 H1 L2 H2) : Keeps L H L2 H2 where
  keep := fun c o h n nt => b.keep c o (a.keep c o h n nt) (fun q => by
    by_cases hc : L c
    · exact n hc
    · exact (a.notlive h hc q).elim) nt
  new := fun c hc n => by
    by_cases h1 : L1 c
    · exact a.new c h1 n
    · have z := b.new c hc h1
      cases q : H c with
      | none => rfl
      | some o =>
        rcases nt_or o with nt | ⟨ps, rfl⟩
        · rw [a.keep c o q (fun k => (n k).elim) nt] at z
          cases z
        · obtain ⟨qs, w⟩ := a.tbk c ps q
          rw [w] at z
          cases z
  tbk := fun c ps h => let ⟨qs, w⟩ := a.tbk c ps h; b.tbk c qs w
theorem Exw.refl (m : Ms) (H : Hp) : Exw m H m H := (Ext.refl m H).w
theorem Exw.trans {m m1 m2 : Ms} {H H1 H2 : Hp} (a : Exw m H m1 H1) (b : Exw m1 H1 m2 H2) : Exw m H m2 H2 where
  pre := fun n l nl h => by
    rcases a.pre n l nl h with h1 | ⟨l1, h1, e1⟩
    · exact .inl (b.pre0 n h1)
    · rcases b.pre n l1 (fun z => by subst z; cases l with | nil => exact nl rfl | cons => simp at e1) h1 with h2 | ⟨l2, h2, e2⟩
      · exact .inl h2
      · exact .inr ⟨l2, h2, e2.trans e1⟩
  pre0 := fun n h => b.pre0 n (a.pre0 n h)
  ks := a.ks.trans b.ks
theorem tbk_put {H : Hp} {p : Addr} {o u : HO} (h : H p = some o) (c : Chg o) : ∀ b ps, H b = some (.tbl ps) → ∃ qs, upd H p u b = some (.tbl qs) := fun b ps q => by
  have e : b ≠ p := fun z => by
    rw [z, h] at q
    cases q
    exact c
  exact ⟨ps, by rw [upd_ne e]; exact q⟩
theorem Exw.hide {m : Ms} {H : Hp} {p : Addr} (hp : H p = none) (o : HO) : Exw m H (m.hide p) (upd H p o) :=
  ⟨fun n l _ h => .inr ⟨l, h, rfl⟩, fun _ h => h, fun b u h _ _ => by rw [upd_ne (ne_of_none h hp)]; exact h, (fun b h n => by
    rcases h with h | h
    · exact (n (.inl h)).elim
    · rcases List.mem_cons.mp h with h | h
      · rw [h]
        exact hp
      · exact (n (.inr h)).elim), fun b ps h => ⟨ps, by rw [upd_ne (ne_of_none h hp)]; exact h⟩⟩
theorem Exw.puth {m : Ms} {H : Hp} {p : Addr} {o u : HO} (hp : p ∈ m.h) (h : H p = some o) (c : Chg o) : Exw m H m (upd H p u) :=
  ⟨fun n l _ h => .inr ⟨l, h, rfl⟩, fun _ h => h, (fun b v q n _ => by
    by_cases e : b = p
    · subst e
      rw [h] at q
      cases q
      exact (n (.inr hp) c).elim
    · rw [upd_ne e]
      exact q), fun _ h n => (n h).elim, tbk_put h c⟩
section
variable {m m' m1 m2 : Ms} {H H' H1 H2 : Hp}
theorem Ext.notvl (e : Ext m H m' H') {b : Addr} {o : HO} (h : H b = some o) (n : ¬ VL m b) : ¬ VL m' b := fun q => by
  have := e.new b q n
  rw [h] at this
  cases this
theorem Ext.trans (a : Ext m H m1 H1) (b : Ext m1 H1 m2 H2) : Ext m H m2 H2 where
  pre := fun n l nl h => by
    rcases a.pre n l nl h with h1 | ⟨l1, h1, e1⟩
    · exact .inl (b.pre0 n h1)
    · rcases b.pre n l1 (fun z => by subst z; cases l with | nil => exact nl rfl | cons => simp at e1) h1 with h2 | ⟨l2, h2, e2⟩
      · exact .inl h2
      · exact .inr ⟨l2, h2, e2.trans e1⟩
  pre0 := fun n h => b.pre0 n (a.pre0 n h)
  hid := b.hid.trans a.hid
  keep := fun c o h n nt => b.keep c o (a.keep c o h n nt) (fun q => by
    by_cases hc : VL m c
    · exact n hc
    · exact (a.notvl h hc q).elim) nt
  tbk := fun c ps h => let ⟨qs, w⟩ := a.tbk c ps h; b.tbk c qs w
  new := fun c hc n => by
    by_cases h1 : VL m1 c
    · exact a.new c h1 n
    · have z := b.new c hc h1
      cases q : H c with
      | none => rfl
      | some o =>
        rcases nt_or o with nt | ⟨ps, rfl⟩
        · rw [a.keep c o q (fun k => (n k).elim) nt] at z
          cases z
        · obtain ⟨qs, w⟩ := a.tbk c ps q
          rw [w] at z
          cases z
theorem Ext.laid {p : Addr} (hp : H p = none) (o : HO) : Ext m H m (upd H p o) :=
  ⟨fun n l _ h => .inr ⟨l, h, rfl⟩, fun _ h => h, rfl, fun b u h _ _ => by rw [upd_ne (ne_of_none h hp)]; exact h, fun _ h n => (n h).elim, fun b ps h => ⟨ps, by rw [upd_ne (ne_of_none h hp)]; exact h⟩⟩
theorem mem_get {α : Type} {l : List α} {n : Nat} {x : α} (t : List α) (h : l[n]? = some x) : (l ++ t)[n]? = some x := by
  rw [List.getElem?_append_left]
  · exact h
  · exact (List.getElem?_eq_some_iff.mp h).1
theorem Ext.made {p : Addr} (hp : H p = none) (o : HO) : Ext m H (m.add p) (upd H p o) :=
  ⟨fun n l _ h => .inr ⟨l, mem_get _ h, rfl⟩, fun n h => mem_get _ h, rfl, fun b u h _ _ => by rw [upd_ne (ne_of_none h hp)]; exact h, (fun b h n => by
    unfold VL Ms.add at h
    rw [fps_append, List.mem_append] at h
    rcases h with h | h
    · exact (n h).elim
    · rw [fps_one, List.mem_singleton] at h
      rw [h]
      exact hp), fun b ps h => ⟨ps, by rw [upd_ne (ne_of_none h hp)]; exact h⟩⟩
theorem Ext.put {p : Addr} {o u : HO} (hp : VL m p) (h : H p = some o) (c : Chg o) : Ext m H m (upd H p u) :=
  ⟨fun n l _ h => .inr ⟨l, h, rfl⟩, fun _ h => h, rfl, (fun b v q n _ => by
    by_cases e : b = p
    · subst e
      rw [h] at q
      cases q
      exact (n hp c).elim
    · rw [upd_ne e]
      exact q), fun _ h n => (n h).elim, tbk_put h c⟩
theorem fps_set_mem {m : List Fp} {n : Nat} {a : Addr} (h : a ∈ fps (m.set n none)) : a ∈ fps m := by
  rw [fps_iff] at h ⊢
  obtain ⟨l, h, q⟩ := h
  rw [List.mem_iff_getElem?] at h
  obtain ⟨i, h⟩ := h
  rw [List.getElem?_set] at h
  split at h
  · split at h <;> cases h
  · exact ⟨l, List.mem_of_getElem? h, q⟩
theorem Ext.letgo (n : Nat) : Ext m H (m.del n) H where
  pre := fun j l _ h => by
    have hj := (List.getElem?_eq_some_iff.mp h).1
    unfold Ms.del
    by_cases e : n = j
    · subst e
      exact .inl (by rw [List.getElem?_set_self hj])
    · exact .inr ⟨l, by rw [List.getElem?_set_ne e]; exact h, rfl⟩
  pre0 := fun j h => by
    have hj := (List.getElem?_eq_some_iff.mp h).1
    unfold Ms.del
    by_cases e : n = j
    · subst e
      rw [List.getElem?_set_self hj]
    · rw [List.getElem?_set_ne e]
      exact h
  hid := rfl
  keep := fun _ _ h _ _ => h
  tbk := fun _ ps h => ⟨ps, h⟩
  new := fun b h k => (k (fps_set_mem h)).elim
theorem fps_take_mem {m : List Fp} {n : Nat} {a : Addr} (h : a ∈ fps (m.take n)) : a ∈ fps m := by
  rw [fps_iff] at h ⊢
  obtain ⟨l, h, q⟩ := h
  exact ⟨l, List.mem_of_mem_take h, q⟩
theorem Ext.drop (e : Ext m H m' H') : Ext m H (m'.cut m.v.length) H' where
  pre := fun n l nl h => by
    have hn : n < m.v.length := (List.getElem?_eq_some_iff.mp h).1
    unfold Ms.cut
    rw [List.getElem?_take_of_lt hn]
    exact e.pre n l nl h
  pre0 := fun n h => by
    have hn : n < m.v.length := (List.getElem?_eq_some_iff.mp h).1
    unfold Ms.cut
    rw [List.getElem?_take_of_lt hn]
    exact e.pre0 n h
  hid := e.hid
  keep := e.keep
  tbk := e.tbk
  new := fun b h n => e.new b (fps_take_mem h) n
end
def LsV (L : Addr → Prop) (H : Hp) (a : Addr) (xs : List V) : Prop := H a = some (.lst xs) ∧ ¬ L a
theorem LsV.sq {K : PySem.W.Frag} {L : Addr → Prop} {H : Hp} {a : Addr} {xs : List V} (h : LsV L H a xs) : SqL K H a xs := .inl (.inl h.1)
def LsR (K : PySem.W.Frag) (H : Hp) (a : Addr) (xs : List V) : Prop := (∃ o, H a = some (.frz o (.lst xs))) ∨
    ∃ (o : Obj) (its : Array Value) (n : Nat), K.lookup a = some o ∧ o.cls = .type "list" ∧ o.dict = none ∧ o.data = .seq its n ∧ its.size ≤ sizeLine ∧ Vals xs its.toList
theorem LsR.sq {K : PySem.W.Frag} {H : Hp} {a : Addr} {xs : List V} (h : LsR K H a xs) : SqL K H a xs := h.elim (fun h => .inl (.inr h)) .inr
theorem rd_keeps {L L' : Addr → Prop} {H H' : Hp} {a : Addr} {u : HO} (e : Keeps L H L' H') (h : Rd H a u) (n : L a → ¬ Chg u) (nt : Nt u) : Rd H' a u := by
  rcases h with h | ⟨o, h⟩
  · exact .inl (e.keep a _ h n nt)
  · exact .inr ⟨o, e.keep a _ h (fun _ z => z) nt_frz⟩
theorem rd_notlive {L L' : Addr → Prop} {H H' : Hp} {a : Addr} {u : HO} (e : Keeps L H L' H') (h : Rd H a u) (n : ¬ L a) : ¬ L' a := by
  rcases h with h | ⟨o, h⟩
  · exact e.notlive h n
  · exact e.notlive h n
theorem LsV.stay {L L' : Addr → Prop} {H H' : Hp} {a : Addr} {xs : List V} (e : Keeps L H L' H') (h : LsV L H a xs) : LsV L' H' a xs := ⟨e.keep _ _ h.1 (fun z => (h.2 z).elim) nt_lst, e.notlive h.1 h.2⟩
theorem LsR.stay {K : PySem.W.Frag} {L L' : Addr → Prop} {H H' : Hp} {a : Addr} {xs : List V} (e : Keeps L H L' H') (h : LsR K H a xs) : LsR K H' a xs := by
  rcases h with ⟨o, h⟩ | h
  · exact .inl ⟨o, e.keep a _ h (fun _ z => z) nt_frz⟩
  · exact .inr h
theorem sqT_stay {K : PySem.W.Frag} {L L' : Addr → Prop} {H H' : Hp} {a : Addr} {xs : List V} (e : Keeps L H L' H') (h : SqT K H a xs) : SqT K H' a xs := h.elim (fun h => .inl (rd_keeps e h (fun _ z => z) nt_tup)) .inr
def TpR (K : PySem.W.Frag) (H : Hp) (a : Addr) (xs : List V) : Prop := (∃ o : Obj, H a = some (.frz o (.tup xs)) ∧ o.dict = none) ∨
    ∃ (o : Obj) (its : Array Value) (n : Nat), K.lookup a = some o ∧ o.cls = .type "tuple" ∧ o.dict = none ∧ o.data = .seq its n ∧ its.size ≤ sizeLine ∧ Vals xs its.toList
theorem TpR.sq {K : PySem.W.Frag} {H : Hp} {a : Addr} {xs : List V} (h : TpR K H a xs) : SqT K H a xs := by
  rcases h with ⟨o, h, _⟩ | ⟨o, its, n, h1, h2, _, h3⟩
  · exact .inl (.inr ⟨o, h⟩)
  · exact .inr ⟨o, its, n, h1, h2, h3⟩
theorem TpR.stay {K : PySem.W.Frag} {L L' : Addr → Prop} {H H' : Hp} {a : Addr} {xs : List V} (e : Keeps L H L' H') (h : TpR K H a xs) : TpR K H' a xs := by
  rcases h with ⟨o, h, n⟩ | h
  · exact .inl ⟨o, e.keep a _ h (fun _ z => z) nt_frz, n⟩
  · exact .inr h
theorem TpR.new {K : PySem.W.Frag} {H : Hp} {p : Addr} {xs : List V} {o : Obj} (n : o.dict = none) : TpR K (upd H p (.frz o (.tup xs))) p xs := .inl ⟨o, upd_same, n⟩
def keyD : PyData → Option Key
  | .int i => some (.inl i)
  | .str x => some (.inr x)
  | _ => none
mutual
inductive Dv (K : PySem.W.Frag) (L : Addr → Prop) (H : Hp) : V → PyData → Prop
  | non : Dv K L H .non .none
  | bl (b : Bool) : Dv K L H (.bl b) (.bool b)
  | int (i : Int) : Dv K L H (.int i) (.int i)
  | str (x : Str) : Dv K L H (.str x) (.str x)
  | lst {a : Addr} {xs : List V} {ds : List PyData} : LsV L H a xs → DvAll K L H xs ds → Dv K L H (.ref a) (.list ds)
  | tup {a : Addr} {xs : List V} {ds : List PyData} : TpR K H a xs → DvAll K L H xs ds → Dv K L H (.ref a) (.tuple ds)
  | dK {a : Addr} {us : List (Key × V)} {kvs : List (PyData × PyData)} : Rd H a (.dK us) → ¬ L a → DvK K L H us kvs → Dv K L H (.ref a) (.dict kvs)
inductive DvAll (K : PySem.W.Frag) (L : Addr → Prop) (H : Hp) : List V → List PyData → Prop
  | nil : DvAll K L H [] []
  | cons {v : V} {vs : List V} {d : PyData} {ds : List PyData} : Dv K L H v d → DvAll K L H vs ds → DvAll K L H (v :: vs) (d :: ds)
inductive DvK (K : PySem.W.Frag) (L : Addr → Prop) (H : Hp) : List (Key × V) → List (PyData × PyData) → Prop
  | nil : DvK K L H [] []
  | cons {k : Key} {v : V} {us : List (Key × V)} {x y : PyData} {kvs : List (PyData × PyData)} : keyD x = some k → Dv K L H v y → DvK K L H us kvs → DvK K L H ((k, v) :: us) ((x, y) :: kvs)
end
mutual
theorem Dv.dp {K : PySem.W.Frag} {L : Addr → Prop} {H : Hp} {v : V} {d : PyData} (h : Dv K L H v d) (nd : PyData.canLay0 d = true) : Dp K H v d := by
  cases h with
  | non => exact .non
  | bl b => exact .bl b
  | int i => exact .int i
  | str x => exact .str x
  | lst hs ha => exact .lst hs.sq (DvAll.dp ha (by simpa [PyData.canLay0] using nd))
  | tup hs ha => exact .tup hs.sq (DvAll.dp ha (by simpa [PyData.canLay0] using nd))
  | dK _ _ _ => simp [PyData.canLay0] at nd
theorem DvAll.dp {K : PySem.W.Frag} {L : Addr → Prop} {H : Hp} {vs : List V} {ds : List PyData} (h : DvAll K L H vs ds) (nd : PyData.canLayAll0 ds = true) : DpAll K H vs ds := by
  cases h with
  | nil => exact .nil
  | cons h1 h2 =>
    simp [PyData.canLayAll0] at nd
    exact .cons (Dv.dp h1 nd.1) (DvAll.dp h2 nd.2)
end
mutual
theorem Dv.stay' {K : PySem.W.Frag} {L L' : Addr → Prop} {H H' : Hp} (e : Keeps L H L' H') {v : V} {d : PyData} (h : Dv K L H v d) : Dv K L' H' v d := by
  cases h with
  | non => exact .non
  | bl b => exact .bl b
  | int i => exact .int i
  | str x => exact .str x
  | lst hs ha => exact .lst (hs.stay e) (DvAll.stay' e ha)
  | tup hs ha => exact .tup (hs.stay e) (DvAll.stay' e ha)
  | dK r n hk => exact .dK (rd_keeps e r (fun z => (n z).elim) nt_dK) (rd_notlive e r n) (DvK.stay' e hk)
theorem DvAll.stay' {K : PySem.W.Frag} {L L' : Addr → Prop} {H H' : Hp} (e : Keeps L H L' H') {vs : List V} {ds : List PyData} (h : DvAll K L H vs ds) : DvAll K L' H' vs ds := by
  cases h with
  | nil => exact .nil
  | cons h1 h2 => exact .cons (Dv.stay' e h1) (DvAll.stay' e h2)
theorem DvK.stay' {K : PySem.W.Frag} {L L' : Addr → Prop} {H H' : Hp} (e : Keeps L H L' H') {us : List (Key × V)} {ds : List (PyData × PyData)} (h : DvK K L H us ds) : DvK K L' H' us ds := by
  cases h with
  | nil => exact .nil
  | cons h0 h1 h2 => exact .cons h0 (Dv.stay' e h1) (DvK.stay' e h2)
end
mutual
theorem Dv.less' {K : PySem.W.Frag} {L L' : Addr → Prop} {H : Hp} (e : ∀ b, L' b → L b) {v : V} {d : PyData} (h : Dv K L H v d) : Dv K L' H v d := Dv.stay' ⟨fun _ _ h _ _ => h, fun b h n => (n (e b h)).elim, fun _ ps h => ⟨ps, h⟩⟩ h
end
section
variable {K : PySem.W.Frag} {L L' : Addr → Prop} {H H' : Hp}
theorem Dv.stay {d : PyData} {v : V} (h : Dv K L H v d) (e : Keeps L H L' H') : Dv K L' H' v d := Dv.stay' e h
theorem DvAll.stay {ds : List PyData} {vs : List V} (h : DvAll K L H vs ds) (e : Keeps L H L' H') : DvAll K L' H' vs ds := DvAll.stay' e h
theorem keeps_less (e : ∀ b, L' b → L b) : Keeps L H L' H := ⟨fun _ _ h _ _ => h, fun b h n => (n (e b h)).elim, fun _ ps h => ⟨ps, h⟩⟩
theorem DvAll.len {ds : List PyData} {vs : List V} (h : DvAll K L H vs ds) : vs.length = ds.length := by
  induction ds generalizing vs with
  | nil => cases h; rfl
  | cons d ds ih =>
    cases h with
    | cons h1 h2 => simp [ih h2]
theorem DvAll.get {ds : List PyData} {vs : List V} {i : Nat} {d : PyData} (h : DvAll K L H vs ds) (e : ds[i]? = some d) : ∃ v, vs[i]? = some v ∧ Dv K L H v d := by
  induction ds generalizing vs i with
  | nil => simp at e
  | cons x ds ih =>
    cases h with
    | cons h1 h2 =>
      cases i with
      | zero =>
        simp only [List.getElem?_cons_zero, Option.some.injEq] at e
        subst e
        exact ⟨_, rfl, h1⟩
      | succ i => exact ih (i := i) h2 (by simpa using e)
theorem DvAll.get' {ds : List PyData} {vs : List V} {i : Nat} {v : V} (h : DvAll K L H vs ds) (e : vs[i]? = some v) : ∃ d, ds[i]? = some d ∧ Dv K L H v d := by
  have hl := h.len
  have hi : i < vs.length := (List.getElem?_eq_some_iff.mp e).1
  have hd : ds[i]? = some (ds[i]'(by omega)) := List.getElem?_eq_getElem (by omega)
  obtain ⟨v', e', r⟩ := h.get hd
  rw [e] at e'
  cases e'
  exact ⟨_, hd, r⟩
theorem DvAll.app {ds es : List PyData} {us vs : List V} (h : DvAll K L H us ds) (k : DvAll K L H vs es) : DvAll K L H (us ++ vs) (ds ++ es) := by
  induction ds generalizing us with
  | nil => cases h; exact k
  | cons d ds ih =>
    cases h with
    | cons a b => exact .cons a (ih b)
theorem DvAll.one {v : V} {d : PyData} (h : Dv K L H v d) : DvAll K L H [v] [d] := .cons h .nil
theorem DvAll.take {ds : List PyData} {vs : List V} (n : Nat) (h : DvAll K L H vs ds) : DvAll K L H (vs.take n) (ds.take n) := by
  induction ds generalizing vs n with
  | nil => cases h; simpa using DvAll.nil
  | cons d ds ih =>
    cases h with
    | cons a b =>
      cases n with
      | zero => simpa using DvAll.nil
      | succ n => exact .cons a (ih n b)
theorem DvAll.drop {ds : List PyData} {vs : List V} (n : Nat) (h : DvAll K L H vs ds) : DvAll K L H (vs.drop n) (ds.drop n) := by
  induction ds generalizing vs n with
  | nil => cases h; simpa using DvAll.nil
  | cons d ds ih =>
    cases n with
    | zero => simpa using h
    | succ n =>
      cases h with
      | cons a b => exact ih n b
theorem DvAll.rev {ds : List PyData} {vs : List V} (h : DvAll K L H vs ds) : DvAll K L H vs.reverse ds.reverse := by
  induction ds generalizing vs with
  | nil => cases h; exact .nil
  | cons d ds ih =>
    cases h with
    | cons a b =>
      rw [List.reverse_cons, List.reverse_cons]
      exact (ih b).app (.one a)
theorem DvAll.set {ds : List PyData} {vs : List V} {d : PyData} {v : V} (n : Nat) (h : DvAll K L H vs ds) (r : Dv K L H v d) : DvAll K L H (vs.set n v) (ds.set n d) := by
  induction ds generalizing vs n with
  | nil => cases h; exact .nil
  | cons x ds ih =>
    cases h with
    | cons a b =>
      cases n with
      | zero => exact .cons r b
      | succ n => exact .cons a (ih n b)
end
def tupI (k : List Int) : PyData := .tuple (k.map PyData.int)
def OthR (K : PySem.W.Frag) (m : Ms) (H : Hp) : Oth → V → Prop
  | .fn f c q ρ σ, v => v = .ref f ∧ H c = some (LamX.CodeO c q) ∧ ¬ Live m c ∧ ρ.length = σ.length ∧ ∀ (i : Nat) (x : PyData), ρ[i]? = some (some x) → ∃ u : V, σ[i]? = some (some u) ∧ Dv K (Live m) H u x
  | .st xs, v => ∃ (a : Addr) (L : List (Addr × List Int)), v = .ref a ∧ H a = some (SetBO Wd.P Wd.w a L) ∧ ¬ Live m a ∧ (∀ p ∈ L, SqT K H p.1 (p.2.map V.int)) ∧ (∀ x, x ∈ xs ↔ ∃ p ∈ L, x = tupI p.2)
  | .gf x, v => ∃ f, v = .ref f ∧ PySem.W.nsIn K mainGlobals x = some (some (.ref f))
theorem OthR.stay {K : PySem.W.Frag} {m m' : Ms} {H H' : Hp} {t : Oth} {v : V} (h : OthR K m H t v) (e : Keeps (Live m) H (Live m') H') : OthR K m' H' t v := by
  cases t with
  | fn f c q ρ σ =>
    obtain ⟨h1, h2, h3, h4, h5⟩ := h
    exact ⟨h1, e.keep _ _ h2 (fun z => (h3 z).elim) nt_ext, e.notlive h2 h3, h4, fun i x hx => let ⟨u, k1, k2⟩ := h5 i x hx; ⟨u, k1, Dv.stay k2 e⟩⟩
  | st xs =>
    obtain ⟨a, L, h1, h2, h3, h4, h5⟩ := h
    exact ⟨a, L, h1, e.keep _ _ h2 (fun z => (h3 z).elim) nt_ext, e.notlive h2 h3, fun p hp => sqT_stay e (h4 p hp), h5⟩
  | gf x => exact h
def RV (K : PySem.W.Frag) (m : Ms) (H : Hp) : W → V → Prop
  | .d x, v => Dv K (Live m) H v x
  | .r n, v => m.v[n]? = some none ∨ ∃ l a, m.v[n]? = some (some l) ∧ l.head? = some a ∧ v = .ref a
  | .s ns, v => ∃ a, v = .ref a ∧ LsR K H a (ns.map V.int)
  | .o t, v => OthR K m H t v
  | .e a d C x, v => v = .ref a ∧ PySem.W.nsIn K mainGlobals x.cls = some (some (.ref C)) ∧ ∃ us, H d = some (.xd us) ∧ Paired (fun (p : Str × V) (q : Str × PyData) => p.1 = q.1 ∧ Dv K (Live m) H p.2 q.2) us x.fs
abbrev RVs (K : PySem.W.Frag) (m : Ms) (H : Hp) : List W → List V → Prop := Paired (RV K m H)
theorem RV.extw {K : PySem.W.Frag} {m m' : Ms} {H H' : Hp} {w : W} {v : V} (h : RV K m H w v) (e : Exw m H m' H') : RV K m' H' w v := by
  cases w with
  | d x => exact Dv.stay h e.ks
  | r n =>
    rcases h with h | ⟨l, a, h1, h2, h3⟩
    · exact .inl (e.pre0 n h)
    · rcases e.pre n l (fun z => by rw [z] at h2; cases h2) h1 with h4 | ⟨l', h4, h5⟩
      · exact .inl h4
      · exact .inr ⟨l', a, h4, h5.trans h2, h3⟩
  | s ns =>
    obtain ⟨a, h1, h2⟩ := h
    exact ⟨a, h1, h2.stay e.ks⟩
  | o t => exact OthR.stay h e.ks
  | e a d C x =>
    obtain ⟨h1, h0, us, h2, h3⟩ := h
    exact ⟨h1, h0, us, e.ks.keep d _ h2 (fun _ z => z) nt_xd, Paired.mapP h3 fun _ _ q => ⟨q.1, Dv.stay q.2 e.ks⟩⟩
theorem RVs.extw {K : PySem.W.Frag} {m m' : Ms} {H H' : Hp} {ws : List W} {vs : List V} (h : RVs K m H ws vs) (e : Exw m H m' H') : RVs K m' H' ws vs := Paired.mapP h fun _ _ r => RV.extw r e
theorem RV.ext {K : PySem.W.Frag} {m m' : Ms} {H H' : Hp} {w : W} {v : V} (h : RV K m H w v) (e : Ext m H m' H') : RV K m' H' w v := RV.extw h e.w
theorem RVs.ext {K : PySem.W.Frag} {m m' : Ms} {H H' : Hp} {ws : List W} {vs : List V} (h : RVs K m H ws vs) (e : Ext m H m' H') : RVs K m' H' ws vs := RVs.extw h e.w
def DkR (K : PySem.W.Frag) (m : Ms) (H : Hp) (a : Addr) (kvs : List (PyData × PyData)) : Prop := ∃ us, H a = some (.dK us) ∧ DvK K (Live m) H us kvs
def FsR (K : PySem.W.Frag) (m : Ms) (H : Hp) (us : List (Str × V)) (fs : List (Str × PyData)) : Prop := Paired (fun (p : Str × V) (q : Str × PyData) => p.1 = q.1 ∧ Dv K (Live m) H p.2 q.2) us fs
theorem FsR.keeps {K : PySem.W.Frag} {m m' : Ms} {H H' : Hp} {us : List (Str × V)} {fs : List (Str × PyData)} (h : FsR K m H us fs) (e : Keeps (Live m) H (Live m') H') : FsR K m' H' us fs := Paired.mapP h fun _ _ q => ⟨q.1, Dv.stay' e q.2⟩
def DicTO (P : Program) (w : World) (a : Addr) (L : List (List Int × Addr × Value)) : HO := .ext fun h => (a == sysModules) = false ∧ L.length ≤ sizeLine ∧ ∃ o es ep, h.get? a = some o ∧ o.ExactDict ∧ o.data = .dict es ep ∧ es.toList = L.map (entryOfKey (tupleKind (intKind P w))) ∧ (L.map (·.1)).Nodup
def KtR (K : PySem.W.Frag) (m : Ms) (H : Hp) (L : List (List Int × Addr × Value)) (kvs : List (List Int × PyData)) : Prop := Paired (fun (p : List Int × Addr × Value) (q : List Int × PyData) => p.1 = q.1 ∧ SqT K H p.2.1 (p.1.map V.int) ∧ ∃ v : V, RelV v p.2.2 ∧ Dv K (Live m) H v q.2) L kvs
theorem KtR.keeps {K : PySem.W.Frag} {m m' : Ms} {H H' : Hp} {L : List (List Int × Addr × Value)} {kvs : List (List Int × PyData)} (h : KtR K m H L kvs) (e : Keeps (Live m) H (Live m') H') : KtR K m' H' L kvs := Paired.mapP h fun _ _ q => ⟨q.1, sqT_stay e q.2.1, let ⟨v, h1, h2⟩ := q.2.2; ⟨v, h1, Dv.stay' e h2⟩⟩
def RefR (m : Ms) (k : Nat) (v : V) : Prop := m.v[k]? = some none ∨ ∃ l a, m.v[k]? = some (some l) ∧ l.head? = some a ∧ v = .ref a
theorem RefR.app {m : Ms} {k : Nat} {v : V} (h : RefR m k v) (t : List Fp) (h' : List Addr) : RefR ⟨m.v ++ t, h'⟩ k v := by
  rcases h with h | ⟨l, a, h1, h2⟩
  · exact .inl (mem_get _ h)
  · exact .inr ⟨l, a, mem_get _ h1, h2⟩
theorem RefR.extw {m m' : Ms} {H H' : Hp} {k : Nat} {v : V} (h : RefR m k v) (e : Exw m H m' H') : RefR m' k v := by
  rcases h with h | ⟨l, a, h1, h2, h3⟩
  · exact .inl (e.pre0 k h)
  · rcases e.pre k l (fun z => by rw [z] at h2; cases h2) h1 with h4 | ⟨l', h4, h5⟩
    · exact .inl h4
    · exact .inr ⟨l', a, h4, h5.trans h2, h3⟩
def GsR (K : PySem.W.Frag) (m : Ms) (H : Hp) (us : List (Str × V)) (gs : List (Str × FV)) : Prop := Paired (fun (p : Str × V) (q : Str × FV) => p.1 = q.1 ∧ match q.2 with
  | .d y => Dv K (Live m) H p.2 y
  | .r k => RefR m k p.2) us gs
def FRef (gs : List (Str × FV)) (k : Nat) : Prop := ∃ f, (f, FV.r k) ∈ gs
theorem GsR.keeps {K : PySem.W.Frag} {m m' : Ms} {H H' : Hp} {us : List (Str × V)} {gs : List (Str × FV)} (h : GsR K m H us gs) (e : Keeps (Live m) H (Live m') H') (hr : ∀ k, FRef gs k → ∀ v, RefR m k v → RefR m' k v) : GsR K m' H' us gs := by
  unfold GsR at h ⊢
  induction h with
  | nil => exact .nil
  | @cons p q us gs h1 _ ih =>
    refine .cons ⟨h1.1, ?_⟩ (ih fun k hk => hr k (let ⟨f, hf⟩ := hk; ⟨f, List.mem_cons_of_mem _ hf⟩))
    obtain ⟨g, z⟩ := q
    cases z with
    | d y => exact Dv.stay' e h1.2
    | r k => exact hr k ⟨g, by simp⟩ _ h1.2
inductive KlR (K : PySem.W.Frag) (m : Ms) (H : Hp) : List (Key × V) → List (PyData × List PyData) → List Addr → Prop
  | nil : KlR K m H [] [] []
  | cons {k : Key} {b : Addr} {x : PyData} {vs : List V} {xs : List PyData} {us : List (Key × V)} {kvs : List (PyData × List PyData)} {bs : List Addr} : keyD x = some k → H b = some (.lst vs) → DvAll K (Live m) H vs xs → KlR K m H us kvs bs → KlR K m H ((k, .ref b) :: us) ((x, xs) :: kvs) (b :: bs)
theorem KlR.keeps {K : PySem.W.Frag} {m m' : Ms} {H H' : Hp} {us : List (Key × V)} {kvs : List (PyData × List PyData)} {bs : List Addr} (h : KlR K m H us kvs bs) (e : Keeps (Live m) H (Live m') H') (hh : ∀ b ∈ bs, ∀ u, H b = some u → H' b = some u) : KlR K m' H' us kvs bs := by
  induction h with
  | nil => exact .nil
  | cons h0 h1 h2 _ ih => exact .cons h0 (hh _ (by simp) _ h1) (DvAll.stay' e h2) (ih fun b hb => hh b (List.mem_cons_of_mem _ hb))
theorem KlR.there {K : PySem.W.Frag} {m : Ms} {H : Hp} {us : List (Key × V)} {kvs : List (PyData × List PyData)} {bs : List Addr} (h : KlR K m H us kvs bs) : ∀ b ∈ bs, ∃ vs, H b = some (.lst vs) := by
  induction h with
  | nil => intro b hb; cases hb
  | cons h0 h1 h2 _ ih =>
    intro b hb
    rcases List.mem_cons.mp hb with rfl | hb
    · exact ⟨_, h1⟩
    · exact ih b hb
inductive LlR (K : PySem.W.Frag) (m : Ms) (H : Hp) : List (List PyData) → List Addr → Prop
  | nil : LlR K m H [] []
  | cons {b : Addr} {vs : List V} {xs : List PyData} {xss : List (List PyData)} {bs : List Addr} : H b = some (.lst vs) → DvAll K (Live m) H vs xs → LlR K m H xss bs → LlR K m H (xs :: xss) (b :: bs)
theorem LlR.keeps {K : PySem.W.Frag} {m m' : Ms} {H H' : Hp} {xss : List (List PyData)} {bs : List Addr} (h : LlR K m H xss bs) (e : Keeps (Live m) H (Live m') H') (hh : ∀ b ∈ bs, ∀ u, H b = some u → H' b = some u) : LlR K m' H' xss bs := by
  induction h with
  | nil => exact .nil
  | cons h1 h2 _ ih => exact .cons (hh _ (by simp) _ h1) (DvAll.stay' e h2) (ih fun b hb => hh b (List.mem_cons_of_mem _ hb))
theorem LlR.there {K : PySem.W.Frag} {m : Ms} {H : Hp} {xss : List (List PyData)} {bs : List Addr} (h : LlR K m H xss bs) : ∀ b ∈ bs, ∃ vs, H b = some (.lst vs) := by
  induction h with
  | nil => intro b hb; cases hb
  | cons h1 h2 _ ih =>
    intro b hb
    rcases List.mem_cons.mp hb with rfl | hb
    · exact ⟨_, h1⟩
    · exact ih b hb
def ObR (K : PySem.W.Frag) (m : Ms) (H : Hp) (p : Fp) : MO → Prop
  | .dead => p = none
  | .l xs => ∃ a vs, p = some [a] ∧ H a = some (.lst vs) ∧ DvAll K (Live m) H vs xs
  | .k kvs => ∃ a, p = some [a] ∧ DkR K m H a kvs
  | .o x fs => ∃ a C dx us, p = some [a] ∧ PySem.W.nsIn K mainGlobals x = some (some (.ref C)) ∧ H a = some (.ins C dx us) ∧ FsR K m H us fs
  | .kl kvs => ∃ a us bs, p = some (a :: bs) ∧ H a = some (.dK us) ∧ KlR K m H us kvs bs
  | .q x gs => ∃ a C dx us, p = some [a] ∧ PySem.W.nsIn K mainGlobals x = some (some (.ref C)) ∧ H a = some (.ins C dx us) ∧ GsR K m H us gs
  | .emp => p = some []
  | .kt kvs => ∃ a L, p = some [a] ∧ H a = some (DicTO Wd.P Wd.w a L) ∧ KtR K m H L kvs
  | .ll xss => ∃ a bs, p = some (a :: bs) ∧ H a = some (.lst (bs.map V.ref)) ∧ LlR K m H xss bs
def TbR (m : Ms) (H : Hp) (p : Addr × Str) : Prop := ∃ ps : Array Value, H p.1 = some (.tbl ps) ∧ ¬ Live m p.1 ∧ TriplesOk ps.toList ∧ ∀ (pos : Pos) (cv : Value), codeAmong pos ps.toList = some cv → ∃ c, cv = .ref c ∧ H c = some (LamX.CodeO c p.2) ∧ ¬ Live m c
theorem TbR.go {m m' : Ms} {H H' : Hp} {p : Addr × Str} (h : TbR m H p) (e : Keeps (Live m) H (Live m') H') (k : ∀ ps, H p.1 = some (.tbl ps) → H' p.1 = some (.tbl ps)) : TbR m' H' p := by
  obtain ⟨ps, h1, h2, h3, h4⟩ := h
  refine ⟨ps, k ps h1, e.notlive h1 h2, h3, fun pos cv hc => ?_⟩
  obtain ⟨c, e1, e2, e3⟩ := h4 pos cv hc
  exact ⟨c, e1, e.keep _ _ e2 (fun z => (e3 z).elim) nt_ext, e.notlive e2 e3⟩
theorem TbR.upd {m m' : Ms} {H : Hp} {a : Addr} {u : HO} {p : Addr × Str} (h : TbR m H p) (e : Keeps (Live m) H (Live m') (upd H a u)) (k : H a = none ∨ Live m a) : TbR m' (upd H a u) p := by
  refine h.go e fun ps q => ?_
  have ne : p.1 ≠ a := fun z => by
    rcases k with k | k
    · rw [z, k] at q
      cases q
    · obtain ⟨_, _, n, _⟩ := h
      exact n (z ▸ k)
  rw [upd_ne ne]
  exact q
structure RH (K : PySem.W.Frag) (m : Ms) (H : Hp) (μ : Mem) : Prop where
  tb : ∀ p ∈ Wd.T, TbR m H p
  nd : (fps m.v).Nodup
  len : m.v.length = μ.length
  hid : ∀ b ∈ m.h, (∃ o, H b = some o) ∧ b ∉ fps m.v
  at_ : ∀ (n : Nat) (p : Fp) (o : MO), m.v[n]? = some p → μ[n]? = some o → ObR K m H p o
  rf : ∀ (n : Nat) (x : Str) (gs : List (Str × FV)), μ[n]? = some (.q x gs) → ∀ k, FRef gs k → k < n
structure EnvR (K : PySem.W.Frag) (m : Ms) (H : Hp) (ρ : Env) (σ : L2.St) : Prop where
  len : ρ.length = σ.length
  at_ : ∀ (i : Nat) (w : W), ρ[i]? = some (some w) → ∃ v : V, σ[i]? = some (some v) ∧ RV K m H w v
section
variable {K : PySem.W.Frag} {m m' : Ms} {H H' : Hp} {μ μ' : Mem} {ρ : Env} {σ : L2.St}
theorem EnvR.extw (h : EnvR K m H ρ σ) (e : Exw m H m' H') : EnvR K m' H' ρ σ := ⟨h.len, fun i w q => by
  obtain ⟨v, h1, h2⟩ := h.at_ i w q
  exact ⟨v, h1, h2.extw e⟩⟩
theorem EnvR.ext (h : EnvR K m H ρ σ) (e : Ext m H m' H') : EnvR K m' H' ρ σ := h.extw e.w
theorem EnvR.set (h : EnvR K m H ρ σ) {w : W} {v : V} (r : RV K m H w v) (i : Nat) : EnvR K m H (ρ.set i (some w)) (σ.set i (some v)) := ⟨by simp [h.len], fun j w' q => by
  by_cases e : i = j
  · subst e
    have hi : i < ρ.length := by
      have := (List.getElem?_eq_some_iff.mp q).1
      simpa using this
    rw [List.getElem?_set_self hi] at q
    cases q
    exact ⟨v, by rw [List.getElem?_set_self (by rw [← h.len]; exact hi)], r⟩
  · rw [List.getElem?_set_ne e] at q
    rw [List.getElem?_set_ne e]
    exact h.at_ j w' q⟩
theorem EnvR.forget (h : EnvR K m H ρ σ) (i : Nat) (x : Option V) : EnvR K m H (ρ.set i none) (σ.set i x) := ⟨by simp [h.len], fun j w' q => by
  by_cases e : i = j
  · subst e
    have hi : i < ρ.length := by
      have := (List.getElem?_eq_some_iff.mp q).1
      simpa using this
    rw [List.getElem?_set_self hi] at q
    cases q
  · rw [List.getElem?_set_ne e] at q
    rw [List.getElem?_set_ne e]
    exact h.at_ j w' q⟩
theorem RH.get (h : RH K m H μ) {n : Nat} {o : MO} (e : μ[n]? = some o) : ∃ p, m.v[n]? = some p ∧ ObR K m H p o := by
  have hn : n < m.v.length := by
    have := (List.getElem?_eq_some_iff.mp e).1
    rw [h.len]
    exact this
  exact ⟨m.v[n], List.getElem?_eq_getElem hn, h.at_ n _ o (List.getElem?_eq_getElem hn) e⟩
theorem DkR.keeps {a : Addr} {kvs : List (PyData × PyData)} (h : DkR K m H a kvs) (e : Keeps (Live m) H (Live m') H') (hh : ∀ u, H a = some u → H' a = some u) : DkR K m' H' a kvs := by
  obtain ⟨us, h1, h2⟩ := h
  exact ⟨us, hh _ h1, DvK.stay' e h2⟩
theorem ObR.keeps {p : Fp} {o : MO} (h : ObR K m H p o) (e : Keeps (Live m) H (Live m') H') (hr : ∀ x gs, o = .q x gs → ∀ k, FRef gs k → ∀ v, RefR m k v → RefR m' k v) (hh : ∀ l, p = some l → ∀ a ∈ l, ∀ u, H a = some u → H' a = some u) : ObR K m' H' p o := by
  cases o with
  | dead => exact h
  | emp => exact h
  | l xs =>
    obtain ⟨a, vs, h0, h1, h2⟩ := h
    exact ⟨a, vs, h0, hh _ h0 a (by simp) _ h1, h2.stay e⟩
  | k kvs =>
    obtain ⟨a, h0, h1⟩ := h
    exact ⟨a, h0, h1.keeps e (hh _ h0 a (by simp))⟩
  | o x fs =>
    obtain ⟨a, C, dx, us, h0, h1, h2, h3⟩ := h
    exact ⟨a, C, dx, us, h0, h1, hh _ h0 a (by simp) _ h2, h3.keeps e⟩
  | kl kvs =>
    obtain ⟨a, us, bs, h0, h1, h2⟩ := h
    exact ⟨a, us, bs, h0, hh _ h0 a (by simp) _ h1, h2.keeps e fun b hb => hh _ h0 b (List.mem_cons_of_mem _ hb)⟩
  | q x gs =>
    obtain ⟨a, C, dx, us, h0, h1, h2, h3⟩ := h
    exact ⟨a, C, dx, us, h0, h1, hh _ h0 a (by simp) _ h2, h3.keeps e (hr x gs rfl)⟩
  | kt kvs =>
    obtain ⟨a, us, h0, h1, h2⟩ := h
    exact ⟨a, us, h0, hh _ h0 a (by simp) _ h1, h2.keeps e⟩
  | ll xss =>
    obtain ⟨a, bs, h0, h1, h2⟩ := h
    exact ⟨a, bs, h0, hh _ h0 a (by simp) _ h1, h2.keeps e fun b hb => hh _ h0 b (List.mem_cons_of_mem _ hb)⟩
theorem ObR.keepsw {p : Fp} {o : MO} (h : ObR K m H p o) (e : Exw m H m' H') (hh : ∀ l, p = some l → ∀ a ∈ l, ∀ u, H a = some u → H' a = some u) : ObR K m' H' p o := h.keeps e.ks (fun _ _ _ _ _ _ r => r.extw e) hh
theorem ObR.there {p : Fp} {o : MO} {l : List Addr} (h : ObR K m H p o) (e : p = some l) : ∀ a ∈ l, ∃ u, H a = some u ∧ Chg u := by
  cases o with
  | dead => rw [show p = none from h] at e; cases e
  | emp =>
    rw [show p = some [] from h] at e
    cases e
    intro b hb
    cases hb
  | l xs =>
    obtain ⟨a, vs, h0, h1, h2⟩ := h
    rw [h0] at e
    cases e
    intro b hb
    rw [List.mem_singleton.mp hb]
    exact ⟨_, h1, trivial⟩
  | k kvs =>
    obtain ⟨a, h0, h1⟩ := h
    rw [h0] at e
    cases e
    intro b hb
    rw [List.mem_singleton.mp hb]
    obtain ⟨us, h1, _⟩ := h1
    exact ⟨_, h1, trivial⟩
  | o x fs =>
    obtain ⟨a, C, dx, us, h0, h1, h2, h3⟩ := h
    rw [h0] at e
    cases e
    intro b hb
    rw [List.mem_singleton.mp hb]
    exact ⟨_, h2, trivial⟩
  | kl kvs =>
    obtain ⟨a, us, bs, h0, h1, h2⟩ := h
    rw [h0] at e
    cases e
    intro b hb
    rcases List.mem_cons.mp hb with rfl | hb
    · exact ⟨_, h1, trivial⟩
    · obtain ⟨vs, z⟩ := h2.there b hb
      exact ⟨_, z, trivial⟩
  | q x gs =>
    obtain ⟨a, C, dx, us, h0, h1, h2, h3⟩ := h
    rw [h0] at e
    cases e
    intro b hb
    rw [List.mem_singleton.mp hb]
    exact ⟨_, h2, trivial⟩
  | kt kvs =>
    obtain ⟨a, us, h0, h1, h2⟩ := h
    rw [h0] at e
    cases e
    intro b hb
    rw [List.mem_singleton.mp hb]
    exact ⟨_, h1, trivial⟩
  | ll xss =>
    obtain ⟨a, bs, h0, h1, h2⟩ := h
    rw [h0] at e
    cases e
    intro b hb
    rcases List.mem_cons.mp hb with rfl | hb
    · exact ⟨_, h1, trivial⟩
    · obtain ⟨vs, z⟩ := h2.there b hb
      exact ⟨_, z, trivial⟩
theorem RH.there (h : RH K m H μ) {a : Addr} (ha : VL m a) : ∃ u, H a = some u ∧ Chg u := by
  obtain ⟨l, hl, q⟩ := fps_iff.mp ha
  obtain ⟨n, hn⟩ := List.mem_iff_getElem?.mp hl
  have hlt : n < μ.length := by
    rw [← h.len]
    exact (List.getElem?_eq_some_iff.mp hn).1
  exact (h.at_ n _ _ hn (List.getElem?_eq_getElem hlt)).there rfl a q
theorem RH.notin (h : RH K m H μ) {p : Addr} (hp : H p = none) : ¬ Live m p := fun hm => by
  rcases hm with hm | hm
  · obtain ⟨u, q, _⟩ := h.there hm
    rw [hp] at q
    cases q
  · obtain ⟨⟨u, q⟩, _⟩ := h.hid p hm
    rw [hp] at q
    cases q
theorem RH.notvl (h : RH K m H μ) {p : Addr} (hp : H p = none) : ¬ VL m p := fun q => h.notin hp (.inl q)
theorem RH.hide (h : RH K m H μ) {p : Addr} (hp : H p = none) (o : HO) : RH K (m.hide p) (upd H p o) μ :=
  ⟨fun q hq => (h.tb q hq).upd (Exw.hide hp o).ks (.inl hp), h.nd, h.len, fun b hb => by
    rcases List.mem_cons.mp hb with hb | hb
    · rw [hb]
      exact ⟨⟨_, upd_same⟩, fun z => h.notin hp (.inl z)⟩
    · refine ⟨?_, (h.hid b hb).2⟩
      obtain ⟨u, q⟩ := (h.hid b hb).1
      exact ⟨u, by rw [upd_ne (ne_of_none q hp)]; exact q⟩, fun n q u h1 h2 => (h.at_ n q u h1 h2).keepsw (Exw.hide hp o) fun l _ a _ u q => by rw [upd_ne (ne_of_none q hp)]; exact q, h.rf⟩
theorem upd_there {p b : Addr} {o : HO} (h : ∃ u, H b = some u) : ∃ u, upd H p o b = some u := by
  by_cases e : b = p
  · subst e
    exact ⟨_, upd_same⟩
  · rw [upd_ne e]
    exact h
theorem RH.laid (h : RH K m H μ) {p : Addr} (hp : H p = none) (o : HO) : RH K m (upd H p o) μ :=
  ⟨fun q hq => (h.tb q hq).upd (Ext.laid hp o).ks (.inl hp), h.nd, h.len, fun b hb => ⟨upd_there (h.hid b hb).1, (h.hid b hb).2⟩, fun n q u h1 h2 => (h.at_ n q u h1 h2).keepsw (Ext.laid hp o).w fun l _ a _ u q => by rw [upd_ne (ne_of_none q hp)]; exact q, h.rf⟩
theorem rf_app {μ : Mem} {o : MO} (h : ∀ (n : Nat) (x : Str) (gs : List (Str × FV)), μ[n]? = some (.q x gs) → ∀ k, FRef gs k → k < n) (hq : ∀ x gs, o = .q x gs → ∀ k, FRef gs k → k < μ.length) {n : Nat} {x : Str} {gs : List (Str × FV)} (e : (μ ++ [o])[n]? = some (.q x gs)) : ∀ k, FRef gs k → k < n := by
  by_cases hn : n < μ.length
  · rw [List.getElem?_append_left hn] at e
    exact h n x gs e
  · have hl := (List.getElem?_eq_some_iff.mp e).1
    have en : n = μ.length := by simp at hl; omega
    subst en
    rw [List.getElem?_append_right (Nat.le_refl _)] at e
    simp only [Nat.sub_self, List.getElem?_cons_zero, Option.some.injEq] at e
    exact hq x gs e
theorem rf_set {μ : Mem} {o : MO} {i : Nat} (h : ∀ (n : Nat) (x : Str) (gs : List (Str × FV)), μ[n]? = some (.q x gs) → ∀ k, FRef gs k → k < n) (hq : ∀ x gs, o = .q x gs → ∀ k, FRef gs k → k < i) {n : Nat} {x : Str} {gs : List (Str × FV)} (e : (μ.set i o)[n]? = some (.q x gs)) : ∀ k, FRef gs k → k < n := by
  by_cases hn : i = n
  · subst hn
    have hl := (List.getElem?_eq_some_iff.mp e).1
    rw [List.length_set] at hl
    rw [List.getElem?_set_self hl] at e
    cases e
    exact hq x gs rfl
  · rw [List.getElem?_set_ne hn] at e
    exact h n x gs e
theorem rf_take {μ : Mem} {i : Nat} (h : ∀ (n : Nat) (x : Str) (gs : List (Str × FV)), μ[n]? = some (.q x gs) → ∀ k, FRef gs k → k < n) {n : Nat} {x : Str} {gs : List (Str × FV)} (e : (μ.take i)[n]? = some (.q x gs)) : ∀ k, FRef gs k → k < n := by
  rw [List.getElem?_take] at e
  split at e
  · exact h n x gs e
  · cases e
theorem RH.made (h : RH K m H μ) {p : Addr} (hp : H p = none) {u : HO} {o : MO} (ho : ObR K (m.add p) (upd H p u) (some [p]) o) (hq : ∀ x gs, o = .q x gs → ∀ k, FRef gs k → k < μ.length := by intro x gs z; cases z) : RH K (m.add p) (upd H p u) (μ ++ [o]) := by
  have np := h.notvl hp
  refine ⟨fun q hq => (h.tb q hq).upd (Ext.made hp u).ks (.inl hp), ?_, by simp [Ms.add, h.len], fun b hb => ⟨upd_there (h.hid b hb).1, fun z => ?_⟩, fun n q o' h1 h2 => ?_, fun n x gs h1 => ?_⟩
  · unfold Ms.add
    rw [fps_append, fps_one, List.nodup_append]
    exact ⟨h.nd, by simp, fun a ha b hb => by
      rw [List.mem_singleton.mp hb]
      rintro rfl
      exact np ha⟩
  · unfold Ms.add at z
    rw [fps_append, fps_one, List.mem_append] at z
    rcases z with z | z
    · exact (h.hid b hb).2 z
    · rw [List.mem_singleton.mp z] at hb
      exact h.notin hp (.inr hb)
  rotate_left
  · exact rf_app h.rf hq h1
  · unfold Ms.add at h1
    by_cases hn : n < m.v.length
    · rw [List.getElem?_append_left hn] at h1
      rw [List.getElem?_append_left (by rw [← h.len]; exact hn)] at h2
      refine (h.at_ n q o' h1 h2).keepsw (Ext.made hp u).w fun l hl a ha v e => ?_
      rw [upd_ne (ne_of_none e hp)]
      exact e
    · have e : n = m.v.length := by
        have := (List.getElem?_eq_some_iff.mp h1).1
        simp at this
        omega
      subst e
      rw [List.getElem?_append_right (Nat.le_refl _)] at h1
      rw [h.len, List.getElem?_append_right (Nat.le_refl _)] at h2
      simp only [Nat.sub_self, List.getElem?_cons_zero, Option.some.injEq] at h1 h2
      subst h1
      subst h2
      exact ho
theorem nodup_apart : ∀ {m : List Fp} {i j : Nat} {l k : List Addr} {a : Addr}, (fps m).Nodup → m[i]? = some (some l) → m[j]? = some (some k) → a ∈ l → a ∈ k → i = j
  | [], _, _, _, _, _, _, h, _, _, _ => by simp at h
  | x :: m, 0, 0, _, _, _, _, _, _, _, _ => rfl
  | x :: m, 0, j + 1, l, k, a, n, h1, h2, h3, h4 => by
    simp only [List.getElem?_cons_zero, Option.some.injEq] at h1
    simp only [List.getElem?_cons_succ] at h2
    subst h1
    have e : fps (some l :: m) = l ++ fps m := by simp [fps]
    rw [e, List.nodup_append] at n
    exact absurd rfl (n.2.2 a h3 a (fps_iff.mpr ⟨k, List.mem_of_getElem? h2, h4⟩))
  | x :: m, i + 1, 0, l, k, a, n, h1, h2, h3, h4 => by
    simp only [List.getElem?_cons_zero, Option.some.injEq] at h2
    simp only [List.getElem?_cons_succ] at h1
    subst h2
    have e : fps (some k :: m) = k ++ fps m := by simp [fps]
    rw [e, List.nodup_append] at n
    exact absurd rfl (n.2.2 a h4 a (fps_iff.mpr ⟨l, List.mem_of_getElem? h1, h3⟩))
  | x :: m, i + 1, j + 1, l, k, a, n, h1, h2, h3, h4 => by
    simp only [List.getElem?_cons_succ] at h1 h2
    have n' : (fps m).Nodup := by
      cases x with
      | none => simpa [fps] using n
      | some l =>
        have e : fps (some l :: m) = l ++ fps m := by simp [fps]
        rw [e, List.nodup_append] at n
        exact n.2.1
    rw [nodup_apart n' h1 h2 h3 h4]
theorem vl_at {n : Nat} {l : List Addr} {a : Addr} (h : m.v[n]? = some (some l)) (ha : a ∈ l) : VL m a := fps_iff.mpr ⟨l, List.mem_of_getElem? h, ha⟩
theorem RH.put (h : RH K m H μ) {n : Nat} {p : Addr} {u v : HO} {o : MO} (hp : m.v[n]? = some (some [p])) (hu : H p = some u) (cu : Chg u) (ho : ObR K m (upd H p v) (some [p]) o) (hq : ∀ x gs, o = .q x gs → ∀ k, FRef gs k → k < n := by intro x gs z; cases z) : RH K m (upd H p v) (μ.set n o) := by
  have hn : n < m.v.length := (List.getElem?_eq_some_iff.mp hp).1
  refine ⟨fun q hq => (h.tb q hq).upd (Ext.put (vl_at hp (by simp)) hu cu).ks (.inr (.inl (vl_at hp (by simp)))), h.nd, by simp [h.len], fun b hb => ⟨upd_there (h.hid b hb).1, (h.hid b hb).2⟩, fun j q o' h1 h2 => ?_, fun _ _ _ e => rf_set h.rf hq e⟩
  by_cases e : n = j
  · subst e
    rw [hp] at h1
    cases h1
    rw [List.getElem?_set_self (by rw [← h.len]; exact hn)] at h2
    cases h2
    exact ho
  · rw [List.getElem?_set_ne e] at h2
    refine (h.at_ j q o' h1 h2).keepsw (Ext.put (vl_at hp (by simp)) hu cu).w fun l hl a ha w q => ?_
    subst hl
    have ne : a ≠ p := fun z => by
      subst z
      exact e (nodup_apart h.nd hp h1 (by simp) ha)
    rw [upd_ne ne]
    exact q
theorem RH.puth (h : RH K m H μ) {p : Addr} {u v : HO} (hp : p ∈ m.h) (hu : H p = some u) (cu : Chg u) : RH K m (upd H p v) μ := by
  refine ⟨fun q hq => (h.tb q hq).upd (Exw.puth hp hu cu).ks (.inr (.inr hp)), h.nd, h.len, fun b hb => ⟨upd_there (h.hid b hb).1, (h.hid b hb).2⟩, fun j q o' h1 h2 => ?_, h.rf⟩
  refine (h.at_ j q o' h1 h2).keepsw (Exw.puth hp hu cu) fun l hl a ha w q => ?_
  subst hl
  have ne : a ≠ p := fun z => by
    subst z
    exact (h.hid a hp).2 (vl_at h1 ha)
  rw [upd_ne ne]
  exact q
theorem fps_set_none : ∀ {m : List Fp} {n : Nat}, (fps (m.set n none)).Sublist (fps m)
  | [], _ => by simp
  | none :: m, 0 => by simp [fps]
  | some l :: m, 0 => by simp [fps]
  | none :: m, n + 1 => by
    have := fps_set_none (m := m) (n := n)
    simpa [fps] using this
  | some l :: m, n + 1 => by
    have := fps_set_none (m := m) (n := n)
    simp only [fps, List.set_cons_succ, List.filterMap_cons, id_eq, List.flatten_cons] at this ⊢
    exact this.append_left l
theorem RH.letgo (h : RH K m H μ) (n : Nat) : RH K (m.del n) H (μ.set n .dead) := by
  refine ⟨fun q hq => (h.tb q hq).go (Ext.letgo n).ks fun _ z => z, h.nd.sublist fps_set_none, by simp [Ms.del, h.len], fun b hb => ⟨(h.hid b hb).1, fun z => (h.hid b hb).2 (fps_set_mem z)⟩, fun j q o' h1 h2 => ?_, fun _ _ _ e => rf_set h.rf (fun _ _ z => by cases z) e⟩
  unfold Ms.del at h1
  by_cases e : n = j
  · subst e
    have hj := (List.getElem?_eq_some_iff.mp h1).1
    have hk := (List.getElem?_eq_some_iff.mp h2).1
    simp only [List.length_set] at hj hk
    rw [List.getElem?_set_self hj] at h1
    rw [List.getElem?_set_self hk] at h2
    cases h1
    cases h2
    exact rfl
  · rw [List.getElem?_set_ne e] at h1 h2
    exact (h.at_ j q o' h1 h2).keepsw (Ext.letgo n).w fun _ _ _ _ _ q => q
theorem fps_take {m : List Fp} {n : Nat} : (fps (m.take n)).Sublist (fps m) := by
  have e : fps m = fps (m.take n) ++ fps (m.drop n) := by rw [← fps_append, List.take_append_drop]
  rw [e]
  exact List.sublist_append_left _ _
theorem RH.drop {m2 : Ms} {μ2 : Mem} (h : RH K m2 H' μ2) (n : Nat) : RH K (m2.cut n) H' (μ2.take n) := by
  refine ⟨fun q hq => (h.tb q hq).go (keeps_less fun b hb => hb.elim (fun z => .inl (fps_take_mem z)) .inr) fun _ z => z, h.nd.sublist fps_take, by simp [Ms.cut, h.len], fun b hb => ⟨(h.hid b hb).1, fun z => (h.hid b hb).2 (fps_take_mem z)⟩, fun j q o h1 h2 => ?_, fun _ _ _ e => rf_take h.rf e⟩
  unfold Ms.cut at h1
  have h1' : m2.v[j]? = some q := by
    rw [List.getElem?_take] at h1
    split at h1
    · exact h1
    · cases h1
  have h2' : μ2[j]? = some o := by
    rw [List.getElem?_take] at h2
    split at h2
    · exact h2
    · cases h2
  have hj : j < n := by
    rw [List.getElem?_take] at h2
    split at h2
    · assumption
    · cases h2
  refine (h.at_ j q o h1' h2').keeps (keeps_less fun b hb => hb.elim (fun z => .inl (fps_take_mem z)) .inr) (fun x gs e k hk v r => ?_) fun _ _ _ _ _ q => q
  subst e
  have hkj := h.rf j x gs h2' k hk
  have e2 : (m2.v.take n)[k]? = m2.v[k]? := List.getElem?_take_of_lt (by omega)
  unfold RefR
  show (m2.v.take n)[k]? = some none ∨ ∃ l a, (m2.v.take n)[k]? = some (some l) ∧ l.head? = some a ∧ v = .ref a
  rw [e2]
  exact r
end
structure XcR (K : PySem.W.Frag) (cls : Str → Option Addr) (m : Ms) (H : Hp) (x : Xc) (c : Value) (d : Option Addr) : Prop where
  cls : ∃ a, cls x.cls = some a ∧ c = .ref a
  ex : ∃ dx us, d = some dx ∧ H dx = some (.xd us) ∧ Paired (fun (p : Str × V) (q : Str × PyData) => p.1 = q.1 ∧ Dv K (Live m) H p.2 q.2) us x.fs
end Mok05
set_option autoImplicit false
namespace Mok05
variable [Wd]
open PySem PySem.Spec PyProof.Rows L2
section
variable {X : Cx} {es : List Expr} {t : TA} {pos : Pos}
def tTupF (t : TA) : TE := fun σ H Q => t σ H fun xs H1 => xs.length ≤ sizeLine ∧ ∀ p o, o.dict = none → H1 p = none → Q (.ref p) (upd H1 p (.frz o (.tup xs)))
theorem pe_tupF {x1} (h : PA X es t) : PE X (.Tuple es x1 pos) (tTupF t) := by
  refine ⟨fun pins s σ H Q I hq => ?_⟩
  refine wpAny_Tuple_spliced (thn (h.run pos pins s σ H _ I hq) fun us s1 ⟨xs, H1, I1, r, z, q⟩ => ⟨by rw [← r.length]; exact z, ?_⟩)
  have hf : H1 s1.heap.objs.size = none := I1.hok.fresh (Nat.le_refl _)
  have ob : (s1.heap.push { cls := .type "tuple", data := .seq us.toArray }).get? s1.heap.objs.size = some { cls := .type "tuple", data := .seq us.toArray } := Heap.get?_push_size _ rfl
  refine ⟨.ref s1.heap.objs.size, upd H1 s1.heap.objs.size (.frz { cls := .type "tuple", data := .seq us.toArray } (.tup xs)), I1.laid (t' := s1.toks) (fun b u e => Heap.get?_push_of_some _ e) (Nat.le_refl _) ?_, rfl, q _ _ rfl hf⟩
  exact ⟨ob, z, us, r, ⟨_, ob, rfl, _, rfl⟩⟩
def rCatF (K : PySem.W.Frag) : R2 := fun x y H Q => ∃ a b xs ys, x = .ref a ∧ y = .ref b ∧ SqT K H a xs ∧ SqT K H b ys ∧ xs.length + ys.length ≤ sizeLine ∧
  (xs = [] → Q (.ref b) H) ∧ (xs ≠ [] → ys = [] → Q (.ref a) H) ∧ (xs ≠ [] → ys ≠ [] → ∀ p o, o.dict = none → H p = none → Q (.ref p) (upd H p (.frz o (.tup (xs ++ ys)))))
theorem op_catF : OpR X (binaryOp .Add) (rCatF X.K) := by
  intro pins s σ H x y v u Q I rx ry h
  obtain ⟨a, b, xs, ys, rfl, rfl, ha, hb, hz, q0, q1, q2⟩ := h
  cases rx
  cases ry
  obtain ⟨its, r1, p1, _⟩ := I.tuple ha
  obtain ⟨its2, r2, p2, _⟩ := I.tuple hb
  by_cases hx : xs = []
  · subst hx
    cases r1
    exact cat_tup0 p1 p2 ⟨.ref b, H, I, rfl, q0 rfl⟩
  · refine HT.cat_tup p1 p2 (fun z => hx (r1.nil_iff.mp z)) (fun z => ⟨.ref a, H, I, rfl, q1 hx (r2.nil_iff.mp z)⟩) (fun z => ?_) (by rw [← r1.length, ← r2.length]; exact hz)
    refine ⟨.ref s.heap.objs.size, _, I.laid (t' := s.toks) (o := .frz { cls := .type "tuple", data := .seq (its ++ its2).toArray } (.tup (xs ++ ys))) (fun b ob q => Heap.get?_push_of_some _ q) (Nat.le_refl _) ?_, rfl, q2 hx (fun w => z (r2.nil_iff.mpr w)) _ _ rfl (I.hok.fresh (Nat.le_refl _))⟩
    exact ⟨Heap.get?_push_size _ rfl, by rw [List.length_append]; exact hz, _, r1.append r2, IsTup.new _ _⟩
def rSlF (K : PySem.W.Frag) : V → Option Int → Option Int → Hp → VK → Prop := fun x lo hi H Q => ∃ a xs, x = .ref a ∧ SqT K H a xs ∧
  (HT.sIx xs.length 0 lo = 0 ∧ HT.sIx xs.length xs.length hi = xs.length → Q (.ref a) H) ∧ (¬ (HT.sIx xs.length 0 lo = 0 ∧ HT.sIx xs.length xs.length hi = xs.length) → ∀ p o, o.dict = none → H p = none → Q (.ref p) (upd H p (.frz o (.tup (cutV xs lo hi)))))
theorem sl_tupF : SlR X (rSlF X.K) := by
  intro pins s σ H x v vl vu lo hi sl Q I rx hs pl pu h
  obtain ⟨a, xs, rfl, hx, q1, q2⟩ := h
  cases rx
  obtain ⟨its, r, ht, hz⟩ := I.tuple hx
  have hlen : its.toArray.size = xs.length := by rw [List.size_toArray]; exact r.length.symm
  refine ⟨"tuple", _, PyProof.Rows.slot_tuple_getitem.lookup, ht.typeIs, ?_⟩
  by_cases hw : HT.sIx xs.length 0 lo = 0 ∧ HT.sIx xs.length xs.length hi = xs.length
  · exact getItem_tuple_whole ht hs pl pu (by rw [hlen]; exact hw) ⟨.ref a, H, I, rfl, q1 hw⟩
  · refine HT.getItem_tuple_cut ht hs pl pu (by rw [hlen]; exact hw) ?_ (by rw [hlen]; exact hz)
    rw [hlen]
    refine ⟨.ref s.heap.objs.size, _, I.laid (t' := s.toks) (o := .frz { cls := .type "tuple", data := .seq ((its.toArray.toList.drop (HT.sIx xs.length 0 lo)).take (HT.sIx xs.length xs.length hi - HT.sIx xs.length 0 lo)).toArray } (.tup (cutV xs lo hi))) (fun b ob q => Heap.get?_push_of_some _ q) (Nat.le_refl _) ?_, rfl, q2 hw _ _ rfl (I.hok.fresh (Nat.le_refl _))⟩
    exact ⟨Heap.get?_push_size _ rfl, Nat.le_trans (cutV_length xs lo hi) hz, _, (r.drop (HT.sIx xs.length 0 lo)).take (HT.sIx xs.length xs.length hi - HT.sIx xs.length 0 lo), IsTup.new _ _⟩
theorem call_tupleF : CallR X (.type "tuple") (fun xs H Q => ∃ p ys, xs = [.ref p] ∧ ((SqL X.K H p ys ∧ ∀ l o, o.dict = none → H l = none → Q (.ref l) (upd H l (.frz o (.tup ys)))) ∨ (SqT X.K H p ys ∧ Q (.ref p) H))) := by
  intro pins s σ H xs us Q I r h
  obtain ⟨p, ys, rfl, h⟩ := h
  obtain ⟨u, rfl, rx⟩ := vals1 r
  cases rx
  rcases h with ⟨hq, q⟩ | ⟨hq, q⟩
  · obtain ⟨its, r', pl, hz⟩ := I.list hq
    have hlen := r'.length
    refine call_tuple_list pl.isList (fun h' kp => ?_) (by simp only [List.size_toArray] <;> omega)
    have I1 : Inv X pins σ H { s with heap := h' } := I.kept (t' := s.toks) kp
    have ob : (h'.push { cls := .type "tuple", data := .seq its.toArray }).get? h'.objs.size = some { cls := .type "tuple", data := .seq its.toArray } := Heap.get?_push_size _ rfl
    refine ⟨.ref h'.objs.size, _, I1.laid (t' := s.toks) (fun b o e => Heap.get?_push_of_some _ e) (Nat.le_refl _) ?_, rfl, q _ { cls := .type "tuple", data := .seq its.toArray } rfl (I1.hok.fresh (Nat.le_refl _))⟩
    exact ⟨ob, hz, its, r', IsTup.new _ _⟩
  · obtain ⟨its, r', pl, hz⟩ := I.tuple hq
    exact call_tuple_same pl ⟨.ref p, H, I, rfl, q⟩
end
abbrev Ct := Str → Option Addr
def Gd {α : Type} (K : PySem.W.Frag) (ct : Ct) (Z : WX) (m : Ms) (σ : L2.St) (H : Hp) (r : Res α) (P : α → Mem → Ms → Hp → Prop) : Prop := match r with
  | .ok a μ => ∀ m' H', Ext m H m' H' → RH K m' H' μ → P a μ m' H'
  | .exc x μ => ∀ m' H' cls d, Ext m H m' H' → RH K m' H' μ → XcR K ct m' H' x cls d → Z cls d σ H'
  | .bad => False
section
variable {K : PySem.W.Frag} {ct : Ct} {Z : WX} {m m1 : Ms} {σ : L2.St} {H H1 : Hp}
theorem Gd.ext {α : Type} {r : Res α} {P : α → Mem → Ms → Hp → Prop} (h : Gd K ct Z m σ H r P) (e : Ext m H m1 H1) : Gd K ct Z m1 σ H1 r P := by
  cases r with
  | ok a μ => exact fun m' H' e' => h m' H' (e.trans e')
  | exc x μ => exact fun m' H' cls d e' => h m' H' cls d (e.trans e')
  | bad => exact h
theorem Gd.mono {α : Type} {r : Res α} {P P' : α → Mem → Ms → Hp → Prop} (h : Gd K ct Z m σ H r P) (k : ∀ a μ m' H', Ext m H m' H' → RH K m' H' μ → P a μ m' H' → P' a μ m' H') : Gd K ct Z m σ H r P' := by
  cases r with
  | ok a μ => exact fun m' H' e hh => k a μ m' H' e hh (h m' H' e hh)
  | exc x μ => exact h
  | bad => exact h
theorem Gd.bnd {α β : Type} {r : Res α} {f : α → Mem → Res β} {P : β → Mem → Ms → Hp → Prop} (h : Gd K ct Z m σ H (bnd r f) P) : Gd K ct Z m σ H r (fun a μ m' H' => Gd K ct Z m' σ H' (f a μ) P) := by
  cases r with
  | ok a μ => exact fun m' H' e _ => Gd.ext h e
  | exc x μ => exact h
  | bad => exact h
end
abbrev PV (K : PySem.W.Frag) (Q : VK) : W → Mem → Ms → Hp → Prop := fun w _ m' H' => ∀ v, RV K m' H' w v → Q v H'
abbrev PVs (K : PySem.W.Frag) (Q : List V → Hp → Prop) : List W → Mem → Ms → Hp → Prop := fun ws _ m' H' => ∀ vs, RVs K m' H' ws vs → Q vs H'
abbrev PB (Q : Bool → Hp → Prop) : Bool → Mem → Ms → Hp → Prop := fun b _ _ H' => Q b H'
def tE (K : PySem.W.Frag) (ct : Ct) (Z : WX) (d : DE) : TE := fun σ H Q => ∃ m ρ μ, EnvR K m H ρ σ ∧ RH K m H μ ∧ Gd K ct Z m σ H (d ρ μ) (PV K Q)
def tT (K : PySem.W.Frag) (ct : Ct) (Z : WX) (d : DT) : TT := fun σ H Q => ∃ m ρ μ, EnvR K m H ρ σ ∧ RH K m H μ ∧ Gd K ct Z m σ H (d ρ μ) (PB Q)
def tA (K : PySem.W.Frag) (ct : Ct) (Z : WX) (d : DA) : TA := fun σ H Q => ∃ m ρ μ, EnvR K m H ρ σ ∧ RH K m H μ ∧ Gd K ct Z m σ H (d ρ μ) (PVs K Q)
def Gs (K : PySem.W.Frag) (ct : Ct) (Z : WX) (D : Ends) (m : Ms) (H : Hp) (r : SR) : Prop := match r with
  | .nx ρ μ => ∀ m' σ' H', Ext m H m' H' → RH K m' H' μ → EnvR K m' H' ρ σ' → D.nx σ' H'
  | .bk ρ μ => ∀ m' σ' H', Ext m H m' H' → RH K m' H' μ → EnvR K m' H' ρ σ' → D.bk σ' H'
  | .ct ρ μ => ∀ m' σ' H', Ext m H m' H' → RH K m' H' μ → EnvR K m' H' ρ σ' → D.ct σ' H'
  | .rt w μ => ∀ m' H' v, Ext m H m' H' → RH K m' H' μ → RV K m' H' w v → D.rt v H'
  | .exc x ρ μ => ∀ m' σ' H' cls d, Ext m H m' H' → RH K m' H' μ → EnvR K m' H' ρ σ' → XcR K ct m' H' x cls d → Z cls d σ' H'
  | .bad => False
def tS (K : PySem.W.Frag) (ct : Ct) (Z : WX) (d : DS) : TS := fun D σ H => ∃ m ρ μ, EnvR K m H ρ σ ∧ RH K m H μ ∧ Gs K ct Z D m H (d ρ μ)
theorem Gs.ext {K : PySem.W.Frag} {ct : Ct} {Z : WX} {D : Ends} {m m1 : Ms} {H H1 : Hp} {r : SR} (h : Gs K ct Z D m H r) (e : Ext m H m1 H1) : Gs K ct Z D m1 H1 r := by
  cases r with
  | nx ρ μ => exact fun m' σ' H' e' => h m' σ' H' (e.trans e')
  | bk ρ μ => exact fun m' σ' H' e' => h m' σ' H' (e.trans e')
  | ct ρ μ => exact fun m' σ' H' e' => h m' σ' H' (e.trans e')
  | rt w μ => exact fun m' H' v e' => h m' H' v (e.trans e')
  | exc x ρ μ => exact fun m' σ' H' cls d e' => h m' σ' H' cls d (e.trans e')
  | bad => exact h
structure ME (X : Cx) (ct : Ct) (Z : WX) (e : Expr) (d : DE) : Prop where
  pe : PE X e (tE X.K ct Z d)
structure MT (X : Cx) (ct : Ct) (Z : WX) (e : Expr) (d : DT) : Prop where
  pt : PT X e (tT X.K ct Z d)
structure MW (X : Cx) (ct : Ct) (Z : WX) (e : Expr) (d : DT) : Prop where
  pw : PW X e (tT X.K ct Z d)
structure MA (X : Cx) (ct : Ct) (Z : WX) (es : List Expr) (d : DA) : Prop where
  pa : PA X es (tA X.K ct Z d)
structure MS (X : Cx) (ct : Ct) (Z : WX) (st : Stmt) (d : DS) : Prop where
  ps : PS X st (tS X.K ct Z d)
structure MSs (X : Cx) (ct : Ct) (Z : WX) (st : List Stmt) (d : DS) : Prop where
  pss : PSs X st (tS X.K ct Z d)
section
variable {X : Cx} {ct : Ct} {Z : WX}
theorem MW.mt {e : Expr} {d : DT} (h : MW X ct Z e d) : MT X ct Z e d := ⟨h.pw.pt⟩
theorem pe_imp {e : Expr} {t t' : TE} (h : PE X e t) (k : ∀ σ H Q, t' σ H Q → t σ H Q) : PE X e t' := ⟨fun pins s σ H Q I q => h.run pins s σ H Q I (k σ H Q q)⟩
theorem pt_imp {e : Expr} {t t' : TT} (h : PT X e t) (k : ∀ σ H Q, t' σ H Q → t σ H Q) : PT X e t' := ⟨fun pins s σ H Q I q => h.run pins s σ H Q I (k σ H Q q)⟩
theorem pw_imp {e : Expr} {t t' : TT} (h : PW X e t) (k : ∀ σ H Q, t' σ H Q → t σ H Q) : PW X e t' := ⟨fun wh pins s σ H Q I q => h.run wh pins s σ H Q I (k σ H Q q)⟩
theorem pa_imp {es : List Expr} {t t' : TA} (h : PA X es t) (k : ∀ σ H Q, t' σ H Q → t σ H Q) : PA X es t' := ⟨fun pos pins s σ H Q I q => h.run pos pins s σ H Q I (k σ H Q q)⟩
theorem ps_imp {st : Stmt} {t t' : TS} (h : PS X st t) (k : ∀ D σ H, t' D σ H → t D σ H) : PS X st t' := ⟨fun pins s σ H D I q => h.run pins s σ H D I (k D σ H q)⟩
theorem pss_imp {st : List Stmt} {t t' : TS} (h : PSs X st t) (k : ∀ D σ H, t' D σ H → t D σ H) : PSs X st t' := ⟨fun pins s σ H D I q => h.run pins s σ H D I (k D σ H q)⟩
def dV (i : Nat) : DE := fun ρ μ => match ρ[i]? with
  | some (some w) => .ok w μ
  | _ => .bad
def dC (x : PyData) : DE := fun _ μ => .ok (.d x) μ
theorem mV (i : Nat) {x : Str} {pos : Pos} (hN : X.N[i]? = some x := by rfl) (hv : Vis X.env.scope x := by first | exact Or.inl rfl | exact Or.inr (Or.inl rfl) | exact Or.inr (Or.inr rfl)) (hd : (x == ("__debug__" : Str)) = false := by decide)
    (hcd : (x == ("__classdict__" : Str)) = false := by decide) : ME X ct Z (.Name x pos) (dV i) := by
  refine ⟨pe_imp (pe_var hN hv hd hcd) fun σ H Q h => ?_⟩
  obtain ⟨m, ρ, μ, he, hh, g⟩ := h
  unfold dV at g
  split at g
  · rename_i w q
    obtain ⟨v, h1, h2⟩ := he.at_ i w q
    exact ⟨v, h1, g m H (.refl m H) hh v h2⟩
  · exact g.elim
theorem mConst {e : Expr} {v : V} {x : PyData} (h : PE X e (tC v)) (r : ∀ L H, Dv X.K L H v x) : ME X ct Z e (dC x) := by
  refine ⟨pe_imp h fun σ H Q h => ?_⟩
  obtain ⟨m, ρ, μ, he, hh, g⟩ := h
  exact g m H (.refl m H) hh v (r _ H)
theorem mI {i : Int} {j : Nat} {pos : Pos} : ME X ct Z (.Constant (.int i) j pos) (dC (.int i)) := mConst pe_int fun _ _ => .int i
theorem mB {b : Bool} {j : Nat} {pos : Pos} : ME X ct Z (.Constant (.bool b) j pos) (dC (.bool b)) := mConst pe_bl fun _ _ => .bl b
theorem mN {j : Nat} {pos : Pos} : ME X ct Z (.Constant .none j pos) (dC .none) := mConst pe_non fun _ _ => .non
theorem mS {x : Str} {j : Nat} {pos : Pos} : ME X ct Z (.Constant (.str x) j pos) (dC (.str x)) := mConst pe_str fun _ _ => .str x
abbrev Op := List W → Mem → Option (W × Mem)
def ofO : Option (W × Mem) → Res W
  | some (w, μ) => .ok w μ
  | none => .bad
def GdO (K : PySem.W.Frag) (m : Ms) (H : Hp) (r : Option (W × Mem)) (Q : VK) : Prop := match r with
  | some (w, μ) => ∀ m' H' v, Ext m H m' H' → RH K m' H' μ → RV K m' H' w v → Q v H'
  | none => False
def rN (K : PySem.W.Frag) (f : Op) (vs : List V) (H : Hp) (Q : VK) : Prop := ∃ m μ ws, RVs K m H ws vs ∧ RH K m H μ ∧ GdO K m H (f ws μ) Q
theorem rN_of {K : PySem.W.Frag} {f : Op} {m : Ms} {σ : L2.St} {H : Hp} {μ : Mem} {ws : List W} {vs : List V} {Q : VK} (g : Gd K ct Z m σ H (ofO (f ws μ)) (PV K Q)) (r : RVs K m H ws vs) (hh : RH K m H μ) : rN K f vs H Q := by
  refine ⟨m, μ, ws, r, hh, ?_⟩
  unfold GdO
  cases e : f ws μ with
  | none => rw [e] at g; exact g
  | some p => rw [e] at g; exact fun m' H' v e' h' r' => g m' H' e' h' v r'
def dP1 (f : Op) (da : DE) : DE := fun ρ μ => bnd (da ρ μ) fun x μ1 => ofO (f [x] μ1)
def dP2 (f : Op) (da db : DE) : DE := fun ρ μ => bnd (da ρ μ) fun x μ1 => bnd (db ρ μ1) fun y μ2 => ofO (f [x, y] μ2)
def dPn (f : Op) (da : DA) : DE := fun ρ μ => bnd (da ρ μ) fun xs μ1 => ofO (f xs μ1)
theorem t1_of {da : DE} {f : Op} {σ : L2.St} {H : Hp} {Q : VK} (h : tE X.K ct Z (dP1 f da) σ H Q) : tE X.K ct Z da σ H fun v H1 => rN X.K f [v] H1 Q := by
  obtain ⟨m, ρ, μ, he, hh, g⟩ := h
  exact ⟨m, ρ, μ, he, hh, (Gd.bnd g).mono fun a μ1 m1 H1 e1 h1 g1 v r1 => rN_of g1 (.cons r1 .nil) h1⟩
theorem t2_of {da db : DE} {f : Op} {σ : L2.St} {H : Hp} {Q : VK} (h : tE X.K ct Z (dP2 f da db) σ H Q) :
    tE X.K ct Z da σ H fun v H1 => tE X.K ct Z db σ H1 fun u H2 => rN X.K f [v, u] H2 Q := by
  obtain ⟨m, ρ, μ, he, hh, g⟩ := h
  refine ⟨m, ρ, μ, he, hh, (Gd.bnd g).mono fun a μ1 m1 H1 e1 h1 g1 v r1 => ⟨m1, ρ, μ1, he.ext e1, h1, (Gd.bnd g1).mono fun b μ2 m2 H2 e2 h2 g2 u r2 => ?_⟩⟩
  exact rN_of g2 (.cons (r1.ext e2) (.cons r2 .nil)) h2
theorem tn_of {da : DA} {f : Op} {σ : L2.St} {H : Hp} {Q : VK} (h : tE X.K ct Z (dPn f da) σ H Q) : tA X.K ct Z da σ H fun vs H1 => rN X.K f vs H1 Q := by
  obtain ⟨m, ρ, μ, he, hh, g⟩ := h
  exact ⟨m, ρ, μ, he, hh, (Gd.bnd g).mono fun a μ1 m1 H1 e1 h1 g1 v r1 => rN_of g1 r1 h1⟩
def Op2R (X : Cx) (op : Value → Value → Sem Value) (f : Op) : Prop := OpR X op fun v u H Q => rN X.K f [v, u] H Q
def Op1R (X : Cx) (op : Value → Sem Value) (f : Op) : Prop := UnR X op fun v H Q => rN X.K f [v] H Q
theorem mUn {op : UnaryOp} {a : Expr} {pos : Pos} {f : Op} {da : DE} (ho : Op1R X (unaryOp op) f) (ha : ME X ct Z a da) : ME X ct Z (.UnaryOp op a pos) (dP1 f da) :=
  ⟨pe_imp (pe_un ho ha.pe) fun _ _ _ h => t1_of h⟩
theorem mBin {op : Operator} {a b : Expr} {pos : Pos} {f : Op} {da db : DE} (ho : Op2R X (binaryOp op) f) (ha : ME X ct Z a da) (hb : ME X ct Z b db) : ME X ct Z (.BinOp a op b pos) (dP2 f da db) :=
  ⟨pe_imp (pe_op ho ha.pe hb.pe) fun _ _ _ h => t2_of h⟩
theorem mCmp {op : CmpOp} {a b : Expr} {pos : Pos} {f : Op} {da db : DE} (ho : Op2R X (compareOp op) f) (ha : ME X ct Z a da) (hb : ME X ct Z b db) (hm : behindInMarks op b = false := by first | exact nomark _ | rfl) : ME X ct Z (.Compare a [op] [b] pos) (dP2 f da db) :=
  ⟨pe_imp (pe_cmpR ho ha.pe hb.pe hm) fun _ _ _ h => t2_of h⟩
def truthD : PyData → Option Bool
  | .none => some false
  | .bool b => some b
  | .int i => some (i != 0)
  | .str x => if x.length ≤ sizeLine then some ((x.length : Int) != 0) else none
  | .list xs => some (!xs.isEmpty)
  | .tuple xs => some (!xs.isEmpty)
  | .dict _ => none
def truth : W → Mem → Option Bool
  | .d x, _ => truthD x
  | .r n, μ => match μ[n]? with
    | some (.l xs) => some (!xs.isEmpty)
    | _ => none
  | .s _, _ => none
  | .e _ _ _ _, _ => none
  | .o _, _ => none
theorem DvAll.empty {K : PySem.W.Frag} {L : Addr → Prop} {H : Hp} {vs : List V} {ds : List PyData} (h : DvAll K L H vs ds) : (!ds.isEmpty) = !vs.isEmpty := by
  cases h <;> rfl
theorem truth_ok {K : PySem.W.Frag} {m : Ms} {H : Hp} {μ : Mem} {w : W} {v : V} {b : Bool} (r : RV K m H w v) (hh : RH K m H μ) (e : truth w μ = some b) : TruV K v H b := by
  cases w with
  | d x =>
    cases r with
    | non => cases e; exact rfl
    | bl b => cases e; exact rfl
    | int i => cases e; exact rfl
    | str x =>
      simp only [truth, truthD] at e
      split at e
      · cases e; exact ⟨by assumption, rfl⟩
      · cases e
    | lst hs ha => cases e; exact .inl ⟨_, hs.sq, ha.empty⟩
    | tup hs ha => cases e; exact .inr (.inl ⟨_, hs.sq, ha.empty⟩)
    | dK _ _ _ => cases e
  | r n =>
    simp only [truth] at e
    split at e
    · rename_i xs q
      cases e
      obtain ⟨p, h1, a, vs, rfl, h2, h3⟩ := hh.get q
      rcases r with r | ⟨l, a', r1, r2, rfl⟩
      · rw [h1] at r; cases r
      · rw [h1] at r1
        cases r1
        cases r2
        exact .inl ⟨vs, .inl (.inl h2), h3.empty⟩
    · cases e
  | s ns => cases e
  | e _ _ _ _ => cases e
  | o _ => cases e
def asB (w : W) (μ : Mem) : Res Bool := match truth w μ with
  | some b => .ok b μ
  | none => .bad
def dTv (da : DE) : DT := fun ρ μ => bnd (da ρ μ) asB
theorem asB_ok {w : W} {v : V} {μ : Mem} {m : Ms} {σ : L2.St} {H : Hp} {K : PySem.W.Frag} {P : Bool → Mem → Ms → Hp → Prop} (g : Gd K ct Z m σ H (asB w μ) P) (r : RV K m H w v) (hh : RH K m H μ) : ∃ b, TruV K v H b ∧ truth w μ = some b ∧ P b μ m H := by
  unfold asB at g
  cases e : truth w μ with
  | none => rw [e] at g; exact g.elim
  | some b => rw [e] at g; exact ⟨b, truth_ok r hh e, rfl, g m H (.refl m H) hh⟩
theorem tTv_of {da : DE} {σ : L2.St} {H : Hp} {Q : Bool → Hp → Prop} (h : tT X.K ct Z (dTv da) σ H Q) : tE X.K ct Z da σ H fun v H1 => ∃ c, TruV X.K v H1 c ∧ Q c H1 := by
  obtain ⟨m, ρ, μ, he, hh, g⟩ := h
  refine ⟨m, ρ, μ, he, hh, (Gd.bnd g).mono fun a μ1 m1 H1 e1 h1 g1 v r1 => ?_⟩
  obtain ⟨b, h2, _, q⟩ := asB_ok g1 r1 h1
  exact ⟨b, h2, q⟩
theorem mTv {e : Expr} {da : DE} (h : ME X ct Z e da) (he : ∀ whole, isTrue e X.env whole = (do let v ← whole; standAt e.pos; holding [v] (truthy v)) := by intro _; rfl) : MT X ct Z e (dTv da) :=
  ⟨pt_imp (pt_truth h.pe he) fun _ _ _ h => tTv_of h⟩
def asBl : W → Mem → Res Bool
  | .d (.bool b), μ => .ok b μ
  | _, _ => .bad
def dTb (da : DE) : DT := fun ρ μ => bnd (da ρ μ) asBl
theorem asBl_ok {w : W} {μ : Mem} {m : Ms} {σ : L2.St} {H : Hp} {K : PySem.W.Frag} {P : Bool → Mem → Ms → Hp → Prop} (g : Gd K ct Z m σ H (asBl w μ) P) (hh : RH K m H μ) : ∃ b, w = .d (.bool b) ∧ P b μ m H := by
  cases w with
  | d x =>
    cases x with
    | bool b => exact ⟨b, rfl, g m H (.refl m H) hh⟩
    | _ => exact g.elim
  | _ => exact g.elim
theorem tTb_of {da : DE} {σ : L2.St} {H : Hp} {Q : Bool → Hp → Prop} (h : tT X.K ct Z (dTb da) σ H Q) : tE X.K ct Z da σ H fun v H1 => ∃ c, v = .bl c ∧ Q c H1 := by
  obtain ⟨m, ρ, μ, he, hh, g⟩ := h
  refine ⟨m, ρ, μ, he, hh, (Gd.bnd g).mono fun a μ1 m1 H1 e1 h1 g1 v r1 => ?_⟩
  obtain ⟨b, rfl, q⟩ := asBl_ok g1 h1
  cases r1
  exact ⟨b, rfl, q⟩
theorem mTcmp {op : CmpOp} {a b : Expr} {pos : Pos} {f : Op} {da db : DE} (ho : Op2R X (compareOp op) f) (ha : ME X ct Z a da) (hb : ME X ct Z b db) (hm : behindInMarks op b = false := by first | exact nomark _ | rfl) :
    MT X ct Z (.Compare a [op] [b] pos) (dTb (dP2 f da db)) :=
  ⟨pt_imp (pt_cmpR ho ha.pe hb.pe hm) fun σ H Q h => t2_of (tTb_of h)⟩
def dChain (f f' : Op) (da db dc : DE) : DE := fun ρ μ => bnd (da ρ μ) fun x μ1 => bnd (db ρ μ1) fun y μ2 => bnd (ofO (f [x, y] μ2)) fun z μ3 =>
  bnd (asBl z μ3) fun k μ4 => if k = true then bnd (dc ρ μ4) fun u μ5 => ofO (f' [y, u] μ5) else .ok (.d (.bool false)) μ4
theorem tchain_of {da db dc : DE} {f f' : Op} {σ : L2.St} {H : Hp} {Q : VK} (h : tE X.K ct Z (dChain f f' da db dc) σ H Q) :
    tChain (fun v u H Q => rN X.K f [v, u] H Q) (fun v u H Q => rN X.K f' [v, u] H Q) (tE X.K ct Z da) (tE X.K ct Z db) (tE X.K ct Z dc) σ H Q := by
  obtain ⟨m, ρ, μ, he, hh, g⟩ := h
  refine ⟨m, ρ, μ, he, hh, (Gd.bnd g).mono fun a μ1 m1 H1 e1 h1 g1 v r1 => ⟨m1, ρ, μ1, he.ext e1, h1, (Gd.bnd g1).mono fun b μ2 m2 H2 e2 h2 g2 u r2 => ?_⟩⟩
  refine ⟨m2, μ2, [a, b], .cons (r1.ext e2) (.cons r2 .nil), h2, ?_⟩
  unfold GdO
  cases e : f [a, b] μ2 with
  | none => rw [e] at g2; exact g2
  | some p =>
    rw [e] at g2
    obtain ⟨p1, p2⟩ := p
    intro m3 H3 z e3 h3 r3
    obtain ⟨k, rfl, g3⟩ : ∃ k, p1 = .d (.bool k) ∧ Gd X.K ct Z m3 σ H3 (if k = true then bnd (dc ρ p2) fun u μ5 => ofO (f' [b, u] μ5) else .ok (.d (.bool false)) p2) (PV X.K Q) := by
      have q : Gd X.K ct Z m2 σ H2 (bnd (asBl p1 p2) fun k μ4 => if k = true then bnd (dc ρ μ4) fun u μ5 => ofO (f' [b, u] μ5) else .ok (.d (.bool false)) μ4) (PV X.K Q) := g2
      exact asBl_ok (Gd.bnd (Gd.ext q e3)) h3
    cases r3
    refine ⟨k, rfl, ?_⟩
    cases k with
    | true =>
      rw [if_pos rfl] at g3 ⊢
      exact ⟨m3, ρ, p2, (he.ext (e1.trans e2)).ext e3, h3, (Gd.bnd g3).mono fun c μ5 m5 H5 e5 h5 g5 u' r5 => rN_of g5 (.cons ((r2.ext e3).ext e5) (.cons r5 .nil)) h5⟩
    | false =>
      rw [if_neg (by decide)] at g3 ⊢
      exact g3 m3 H3 (.refl _ _) h3 _ (.bl false)
theorem mChain {op op' : CmpOp} {a b c : Expr} {pos : Pos} {f f' : Op} {da db dc : DE} (ho : Op2R X (compareOp op) f) (ho' : Op2R X (compareOp op') f') (ha : ME X ct Z a da) (hb : ME X ct Z b db) (hc : ME X ct Z c dc)
    (hm : lastMarks [op, op'] [b, c] = false := by rfl) : ME X ct Z (.Compare a [op, op'] [b, c] pos) (dChain f f' da db dc) := ⟨pe_imp (pe_chain ho ho' ha.pe hb.pe hc.pe hm) fun _ _ _ h => tchain_of h⟩
theorem mTchain {op op' : CmpOp} {a b c : Expr} {pos : Pos} {f f' : Op} {da db dc : DE} (ho : Op2R X (compareOp op) f) (ho' : Op2R X (compareOp op') f') (ha : ME X ct Z a da) (hb : ME X ct Z b db) (hc : ME X ct Z c dc)
    (hm : lastMarks [op, op'] [b, c] = false := by rfl) : MT X ct Z (.Compare a [op, op'] [b, c] pos) (dTb (dChain f f' da db dc)) := ⟨pt_imp (pt_chain ho ho' ha.pe hb.pe hc.pe hm) fun _ _ _ h => tchain_of (tTb_of h)⟩
def dNot (da : DT) : DT := fun ρ μ => bnd (da ρ μ) fun b μ1 => .ok (!b) μ1
theorem mNot {a : Expr} {pos : Pos} {da : DT} (ha : MT X ct Z a da) : MT X ct Z (.UnaryOp .Not a pos) (dNot da) := by
  refine ⟨pt_imp (pt_not ha.pt) fun σ H Q h => ?_⟩
  obtain ⟨m, ρ, μ, he, hh, g⟩ := h
  exact ⟨m, ρ, μ, he, hh, (Gd.bnd g).mono fun b μ1 m1 H1 e1 h1 g1 => g1 m1 H1 (.refl _ _) h1⟩
def dAnd (da db : DT) : DT := fun ρ μ => bnd (da ρ μ) fun b μ1 => if b = true then db ρ μ1 else .ok false μ1
def dOr (da db : DT) : DT := fun ρ μ => bnd (da ρ μ) fun b μ1 => if b = true then .ok true μ1 else db ρ μ1
theorem mAnd1 {a : Expr} {pos : Pos} {da : DT} (ha : MT X ct Z a da) : MW X ct Z (.BoolOp .And [a] pos) da := ⟨pw_and1 ha.pt⟩
theorem mOr1 {a : Expr} {pos : Pos} {da : DT} (ha : MT X ct Z a da) : MW X ct Z (.BoolOp .Or [a] pos) da := ⟨pw_or1 ha.pt⟩
theorem mAnd {a b : Expr} {rest : List Expr} {pos : Pos} {da db : DT} (ha : MT X ct Z a da) (hb : MW X ct Z (.BoolOp .And (b :: rest) pos) db) : MW X ct Z (.BoolOp .And (a :: b :: rest) pos) (dAnd da db) := by
  refine ⟨pw_imp (pw_and ha.pt hb.pw) fun σ H Q h => ?_⟩
  obtain ⟨m, ρ, μ, he, hh, g⟩ := h
  refine ⟨m, ρ, μ, he, hh, (Gd.bnd g).mono fun b μ1 m1 H1 e1 h1 g1 => ?_⟩
  cases b with
  | true => exact ⟨m1, ρ, μ1, he.ext e1, h1, g1⟩
  | false => exact g1 m1 H1 (.refl _ _) h1
theorem mOr {a b : Expr} {rest : List Expr} {pos : Pos} {da db : DT} (ha : MT X ct Z a da) (hb : MW X ct Z (.BoolOp .Or (b :: rest) pos) db) : MW X ct Z (.BoolOp .Or (a :: b :: rest) pos) (dOr da db) := by
  refine ⟨pw_imp (pw_or ha.pt hb.pw) fun σ H Q h => ?_⟩
  obtain ⟨m, ρ, μ, he, hh, g⟩ := h
  refine ⟨m, ρ, μ, he, hh, (Gd.bnd g).mono fun b μ1 m1 H1 e1 h1 g1 => ?_⟩
  cases b with
  | false => exact ⟨m1, ρ, μ1, he.ext e1, h1, g1⟩
  | true => exact g1 m1 H1 (.refl _ _) h1
def dIf (dc : DT) (da db : DE) : DE := fun ρ μ => bnd (dc ρ μ) fun b μ1 => if b = true then da ρ μ1 else db ρ μ1
theorem mIf {c a b : Expr} {pos : Pos} {dc : DT} {da db : DE} (hc : MT X ct Z c dc) (ha : ME X ct Z a da) (hb : ME X ct Z b db) : ME X ct Z (.IfExp c a b pos) (dIf dc da db) := by
  refine ⟨pe_imp (pe_ifExp hc.pt ha.pe hb.pe) fun σ H Q h => ?_⟩
  obtain ⟨m, ρ, μ, he, hh, g⟩ := h
  refine ⟨m, ρ, μ, he, hh, (Gd.bnd g).mono fun b μ1 m1 H1 e1 h1 g1 => ?_⟩
  cases b with
  | true => exact ⟨m1, ρ, μ1, he.ext e1, h1, g1⟩
  | false => exact ⟨m1, ρ, μ1, he.ext e1, h1, g1⟩
def dAndV (da db : DE) : DE := fun ρ μ => bnd (da ρ μ) fun w μ1 => bnd (asB w μ1) fun b μ2 => if b = true then db ρ μ2 else .ok w μ2
theorem mAndV1 {a : Expr} {pos : Pos} {op : BoolOp} {da : DE} (ha : ME X ct Z a da) : ME X ct Z (.BoolOp op [a] pos) da := ⟨pe_one ha.pe⟩
theorem mAndV {a b : Expr} {rest : List Expr} {pos : Pos} {da db : DE} (ha : ME X ct Z a da) (hb : ME X ct Z (.BoolOp .And (b :: rest) pos) db) : ME X ct Z (.BoolOp .And (a :: b :: rest) pos) (dAndV da db) := by
  refine ⟨pe_imp (pe_andT ha.pe hb.pe) fun σ H Q h => ?_⟩
  obtain ⟨m, ρ, μ, he, hh, g⟩ := h
  refine ⟨m, ρ, μ, he, hh, (Gd.bnd g).mono fun w μ1 m1 H1 e1 h1 g1 v r1 => ?_⟩
  obtain ⟨b, tr, _, q⟩ := asB_ok (Gd.bnd g1) r1 h1
  refine ⟨b, tr, ?_⟩
  cases b with
  | true => exact ⟨m1, ρ, μ1, he.ext e1, h1, q⟩
  | false => exact q m1 H1 (.refl _ _) h1 _ r1
def dNotV (da : DE) : DE := fun ρ μ => bnd (dTv da ρ μ) fun b μ1 => .ok (.d (.bool !b)) μ1
theorem mNotV {a : Expr} {pos : Pos} {da : DE} (ha : ME X ct Z a da) : ME X ct Z (.UnaryOp .Not a pos) (dNotV da) := by
  refine ⟨pe_imp (pe_notT ha.pe) fun σ H Q h => ?_⟩
  obtain ⟨m, ρ, μ, he, hh, g⟩ := h
  refine ⟨m, ρ, μ, he, hh, ?_⟩
  have g' := Gd.bnd (show Gd X.K ct Z m σ H (bnd (bnd (da ρ μ) asB) _) _ from g)
  refine (Gd.bnd g').mono fun a μ1 m1 H1 e1 h1 g1 v r1 => ?_
  obtain ⟨b, tr, _, q⟩ := asB_ok g1 r1 h1
  exact ⟨b, tr, q m1 H1 (.refl _ _) h1 _ (.bl _)⟩
def dNil : DA := fun _ μ => .ok [] μ
def dCons (da : DE) (dr : DA) : DA := fun ρ μ => bnd (da ρ μ) fun x μ1 => bnd (dr ρ μ1) fun xs μ2 => .ok (x :: xs) μ2
theorem mNil : MA X ct Z [] dNil := ⟨pa_imp pa_nil fun σ H Q ⟨m, ρ, μ, he, hh, g⟩ => g m H (.refl _ _) hh [] .nil⟩
theorem mCons {e : Expr} {es : List Expr} {da : DE} {dr : DA} (ha : ME X ct Z e da) (hr : MA X ct Z es dr) (hs : starEach (e :: es) X.env = (false, eval e X.env) :: starEach es X.env := by rfl) : MA X ct Z (e :: es) (dCons da dr) := by
  refine ⟨pa_imp (pa_cons ha.pe hr.pa hs) fun σ H Q h => ?_⟩
  obtain ⟨m, ρ, μ, he, hh, g⟩ := h
  refine ⟨m, ρ, μ, he, hh, (Gd.bnd g).mono fun a μ1 m1 H1 e1 h1 g1 v r1 => ⟨m1, ρ, μ1, he.ext e1, h1, (Gd.bnd g1).mono fun bs μ2 m2 H2 e2 h2 g2 us r2 => ?_⟩⟩
  exact g2 m2 H2 (.refl _ _) h2 _ (.cons (r1.ext e2) r2)
def viewL : W → Mem → Option (List PyData)
  | .d (.list xs), _ => some xs
  | .d (.tuple xs), _ => some xs
  | .r n, μ => match μ[n]? with
    | some (.l xs) => some xs
    | _ => none
  | _, _ => none
theorem ref_at {K : PySem.W.Frag} {m : Ms} {H : Hp} {μ : Mem} {n : Nat} {v : V} {o : MO} (r : RV K m H (.r n) v) (hh : RH K m H μ) (e : μ[n]? = some o) (hd : o ≠ .dead) : ∃ l a, m.v[n]? = some (some l) ∧ l.head? = some a ∧ v = .ref a ∧ ObR K m H (some l) o := by
  obtain ⟨p, h1, h2⟩ := hh.get e
  rcases r with r | ⟨l, a, r1, r2, r3⟩
  · rw [h1] at r
    cases r
    cases o with
    | dead => exact (hd rfl).elim
    | l xs => obtain ⟨_, _, q, _⟩ := h2; cases q
    | k xs => obtain ⟨_, q, _⟩ := h2; cases q
    | o x fs => obtain ⟨_, _, _, _, q, _⟩ := h2; cases q
    | kl kvs => obtain ⟨_, _, _, q, _⟩ := h2; cases q
    | q x gs => obtain ⟨_, _, _, _, q, _⟩ := h2; cases q
    | emp => cases (show (none : Fp) = some [] from h2)
    | kt kvs => obtain ⟨_, _, q, _⟩ := h2; cases q
    | ll xss => obtain ⟨_, _, q, _⟩ := h2; cases q
  · rw [h1] at r1
    cases r1
    exact ⟨l, a, h1, r2, r3, h2⟩
theorem lst_at {K : PySem.W.Frag} {m : Ms} {H : Hp} {μ : Mem} {n : Nat} {v : V} {xs : List PyData} (r : RV K m H (.r n) v) (hh : RH K m H μ) (e : μ[n]? = some (.l xs)) : ∃ a vs, m.v[n]? = some (some [a]) ∧ v = .ref a ∧ H a = some (.lst vs) ∧ DvAll K (Live m) H vs xs := by
  obtain ⟨l, a, h1, h2, h3, a', vs, h4, h5, h6⟩ := ref_at r hh e (by intro z; cases z)
  cases h4
  cases h2
  exact ⟨_, vs, h1, h3, h5, h6⟩
theorem view_ok {K : PySem.W.Frag} {m : Ms} {H : Hp} {μ : Mem} {w : W} {v : V} {xs : List PyData} (r : RV K m H w v) (hh : RH K m H μ) (e : viewL w μ = some xs) : ∃ a vs, v = .ref a ∧ (SqL K H a vs ∨ SqT K H a vs) ∧ DvAll K (Live m) H vs xs := by
  cases w with
  | d x =>
    cases r with
    | lst hs ha => cases e; exact ⟨_, _, rfl, .inl hs.sq, ha⟩
    | tup hs ha => cases e; exact ⟨_, _, rfl, .inr hs.sq, ha⟩
    | _ => cases e
  | r n =>
    simp only [viewL] at e
    split at e
    · rename_i ys q
      cases e
      obtain ⟨a, vs, h1, rfl, h2, h3⟩ := lst_at r hh q
      exact ⟨a, vs, rfl, .inl (.inl (.inl h2)), h3⟩
    · cases e
  | s ns => cases e
  | e _ _ _ _ => cases e
  | o _ => cases e
def dStar (da : DE) (dr : DA) : DA := fun ρ μ => bnd (da ρ μ) fun x μ1 => match viewL x μ1 with
  | some ys => bnd (dr ρ μ1) fun xs μ2 => .ok (ys.map W.d ++ xs) μ2
  | none => .bad
theorem rvs_map {K : PySem.W.Frag} {m : Ms} {H : Hp} {vs : List V} {xs : List PyData} (h : DvAll K (Live m) H vs xs) : RVs K m H (xs.map W.d) vs := by
  induction xs generalizing vs with
  | nil => cases h; exact .nil
  | cons x xs ih =>
    cases h with
    | cons a b => exact .cons a (ih b)
theorem rvs_app {K : PySem.W.Frag} {m : Ms} {H : Hp} {xs ys : List W} {us vs : List V} (h : RVs K m H xs us) (k : RVs K m H ys vs) : RVs K m H (xs ++ ys) (us ++ vs) := by
  induction h with
  | nil => exact k
  | cons a _ ih => exact .cons a ih
def datas : List W → Option (List PyData)
  | [] => some []
  | .d x :: r => (datas r).map (x :: ·)
  | _ :: _ => none
@[simp] theorem datas_map : ∀ xs : List PyData, datas (xs.map W.d) = some xs
  | [] => rfl
  | x :: xs => by simp [datas, datas_map xs]
theorem datas_all {K : PySem.W.Frag} {m : Ms} {H : Hp} {ws : List W} {vs : List V} {xs : List PyData} (r : RVs K m H ws vs) (h : datas ws = some xs) : DvAll K (Live m) H vs xs := by
  induction r generalizing xs with
  | nil => cases h; exact .nil
  | @cons w v ws vs a b ih =>
    cases w with
    | d x =>
      simp only [datas, Option.map_eq_some_iff] at h
      obtain ⟨ys, h1, rfl⟩ := h
      exact .cons a (ih h1)
    | r n => simp [datas] at h
    | s n => simp [datas] at h
    | e _ _ _ _ => simp [datas] at h
    | o _ => simp [datas] at h
def sz (n : Nat) : Bool := decide (n ≤ sizeLine)
theorem sz_le {n : Nat} (h : sz n = true) : n ≤ sizeLine := of_decide_eq_true h
def mkT (xs : List PyData) (μ : Mem) : Option (W × Mem) := if sz xs.length = true then some (.d (.tuple xs), μ) else none
def mkL (own : Bool) (xs : List PyData) (μ : Mem) : Option (W × Mem) := if sz xs.length = true then (if own = true then some (.r μ.length, μ ++ [.l xs]) else some (.d (.list xs), μ)) else none
def opTup : Op := fun ws μ => (datas ws).bind fun xs => mkT xs μ
def opLst (own : Bool) : Op := fun ws μ => (datas ws).bind fun xs => mkL own xs μ
section
variable {K : PySem.W.Frag} {m : Ms} {H : Hp} {σ : L2.St} {μ : Mem} {Q : VK} {vs : List V} {ws : List W} {xs : List PyData}
theorem tup_new (hh : RH K m H μ) (ha : DvAll K (Live m) H vs xs) (g : GdO K m H (mkT xs μ) Q) {p : Addr} {o : Obj} (hd : o.dict = none) (hp : H p = none) : vs.length ≤ sizeLine ∧ Q (.ref p) (upd H p (.frz o (.tup vs))) := by
  unfold mkT at g
  split at g
  · rename_i hz
    exact ⟨by rw [ha.len]; exact sz_le hz, g m _ _ (.laid hp _) (hh.laid hp _) (.tup (.new hd) (ha.stay (Ext.laid hp _).ks))⟩
  · exact g.elim
theorem lst_new {own : Bool} (hh : RH K m H μ) (ha : DvAll K (Live m) H vs xs) (g : GdO K m H (mkL own xs μ) Q) {p : Addr} (hp : H p = none) : vs.length ≤ sizeLine ∧ Q (.ref p) (upd H p (.lst vs)) := by
  unfold mkL at g
  split at g
  · rename_i hz
    refine ⟨by rw [ha.len]; exact sz_le hz, ?_⟩
    split at g
    · refine g _ _ _ (.made hp _) (hh.made hp ⟨p, vs, rfl, upd_same, ha.stay (Ext.made hp _).ks⟩) (.inr ⟨[p], p, ?_, rfl, rfl⟩)
      unfold Ms.add
      rw [← hh.len, List.getElem?_append_right (Nat.le_refl _)]
      simp
    · exact g m _ _ (.laid hp _) (hh.laid hp _) (.lst ⟨upd_same, hh.notin hp⟩ (ha.stay (Ext.laid hp _).ks))
  · exact g.elim
theorem tup_len (hh : RH K m H μ) (ha : DvAll K (Live m) H vs xs) (g : GdO K m H (mkT xs μ) Q) : vs.length ≤ sizeLine := by
  unfold mkT at g
  split at g
  · rename_i hz
    rw [ha.len]; exact sz_le hz
  · exact g.elim
theorem lst_len {own : Bool} (hh : RH K m H μ) (ha : DvAll K (Live m) H vs xs) (g : GdO K m H (mkL own xs μ) Q) : vs.length ≤ sizeLine := by
  unfold mkL at g
  split at g
  · rename_i hz
    rw [ha.len]; exact sz_le hz
  · exact g.elim
end
theorem mTup {x1} {es : List Expr} {pos : Pos} {da : DA} (h : MA X ct Z es da) : ME X ct Z (.Tuple es x1 pos) (dPn opTup da) := by
  refine ⟨pe_imp (pe_tupF h.pa) fun _ _ _ h => ?_⟩
  obtain ⟨m, ρ, μ, he, hh, g⟩ := tn_of h
  refine ⟨m, ρ, μ, he, hh, g.mono fun ws μ1 m1 H1 e1 h1 g1 vs r1 => ?_⟩
  obtain ⟨m2, μ2, ws2, r2, h2, g2⟩ := g1 vs r1
  unfold opTup at g2
  cases e : datas ws2 with
  | none => rw [e] at g2; exact g2.elim
  | some xs =>
    rw [e] at g2
    have ha := datas_all r2 e
    exact ⟨tup_len h2 ha g2, fun p o hd hp => (tup_new h2 ha g2 hd hp).2⟩
theorem mLst {es : List Expr} {pos : Pos} {own : Bool} {da : DA} (h : MA X ct Z es da) : ME X ct Z (.List es pos) (dPn (opLst own) da) := by
  refine ⟨pe_imp (pe_lst h.pa) fun _ _ _ h => ?_⟩
  obtain ⟨m, ρ, μ, he, hh, g⟩ := tn_of h
  refine ⟨m, ρ, μ, he, hh, g.mono fun ws μ1 m1 H1 e1 h1 g1 vs r1 => ?_⟩
  obtain ⟨m2, μ2, ws2, r2, h2, g2⟩ := g1 vs r1
  unfold opLst at g2
  cases e : datas ws2 with
  | none => rw [e] at g2; exact g2.elim
  | some xs =>
    rw [e] at g2
    have ha := datas_all r2 e
    exact ⟨lst_len h2 ha g2, fun p hp => (lst_new h2 ha g2 hp).2⟩
def frzW : W → Mem → Option (PyData × Mem)
  | .d x, μ => some (x, μ)
  | .r n, μ => match μ[n]? with
    | some (.l xs) => some (.list xs, μ.set n .dead)
    | some (.k kvs) => some (.dict kvs, μ.set n .dead)
    | some (.kl kvs) => some (.dict (kvs.map fun p => (p.1, .list p.2)), μ.set n .dead)
    | some (.ll xss) => some (.list (xss.map .list), μ.set n .dead)
    | _ => none
  | .s _, _ => none
  | .e _ _ _ _, _ => none
  | .o _, _ => none
def dFrz (da : DE) : DE := fun ρ μ => bnd (da ρ μ) fun w μ1 => match frzW w μ1 with
  | some (x, μ2) => .ok (.d x) μ2
  | none => .bad
theorem notlive_frz {m : Ms} {K : PySem.W.Frag} {H : Hp} {μ : Mem} (hh : RH K m H μ) {n : Nat} {a : Addr} (h : m.v[n]? = some (some [a])) : ¬ Live (m.del n) a := fun q => by
  rcases q with q | q
  · obtain ⟨l, hl, ha⟩ := fps_iff.mp q
    obtain ⟨i, hi⟩ := List.mem_iff_getElem?.mp hl
    unfold Ms.del at hi
    by_cases e : n = i
    · subst e
      have := (List.getElem?_eq_some_iff.mp h).1
      rw [List.getElem?_set_self this] at hi
      cases hi
    · rw [List.getElem?_set_ne e] at hi
      exact e (nodup_apart hh.nd h hi (by simp) ha)
  · exact (hh.hid a q).2 (vl_at h (by simp))
theorem notlive_frzL {m : Ms} {K : PySem.W.Frag} {H : Hp} {μ : Mem} (hh : RH K m H μ) {n : Nat} {l : List Addr} {a : Addr} (h : m.v[n]? = some (some l)) (hl : a ∈ l) : ¬ Live (m.del n) a := fun q => by
  rcases q with q | q
  · obtain ⟨l', hl', ha⟩ := fps_iff.mp q
    obtain ⟨i, hi⟩ := List.mem_iff_getElem?.mp hl'
    unfold Ms.del at hi
    by_cases e : n = i
    · subst e
      have := (List.getElem?_eq_some_iff.mp h).1
      rw [List.getElem?_set_self this] at hi
      cases hi
    · rw [List.getElem?_set_ne e] at hi
      exact e (nodup_apart hh.nd h hi hl ha)
  · exact (hh.hid a q).2 (vl_at h hl)
theorem KlR.dv {K : PySem.W.Frag} {m m' : Ms} {H : Hp} {us : List (Key × V)} {kvs : List (PyData × List PyData)} {bs : List Addr} (h : KlR K m H us kvs bs) (e : Keeps (Live m) H (Live m') H) (n : ∀ b ∈ bs, ¬ Live m' b) : DvK K (Live m') H us (kvs.map fun p => (p.1, .list p.2)) := by
  induction h with
  | nil => exact .nil
  | cons h0 h1 h2 _ ih => exact .cons h0 (.lst ⟨h1, n _ (by simp)⟩ (DvAll.stay' e h2)) (ih fun b hb => n b (List.mem_cons_of_mem _ hb))
theorem LlR.dv {K : PySem.W.Frag} {m m' : Ms} {H : Hp} {xss : List (List PyData)} {bs : List Addr} (h : LlR K m H xss bs) (e : Keeps (Live m) H (Live m') H) (n : ∀ b ∈ bs, ¬ Live m' b) : DvAll K (Live m') H (bs.map V.ref) (xss.map .list) := by
  induction h with
  | nil => exact .nil
  | cons h1 h2 _ ih => exact .cons (.lst ⟨h1, n _ (by simp)⟩ (DvAll.stay' e h2)) (ih fun b hb => n b (List.mem_cons_of_mem _ hb))
theorem frz_ok {K : PySem.W.Frag} {m : Ms} {H : Hp} {μ μ' : Mem} {w : W} {v : V} {x : PyData} (r : RV K m H w v) (hh : RH K m H μ) (e : frzW w μ = some (x, μ')) : ∃ m', Ext m H m' H ∧ RH K m' H μ' ∧ Dv K (Live m') H v x := by
  cases w with
  | d y => cases e; exact ⟨m, .refl _ _, hh, r⟩
  | r n =>
    simp only [frzW] at e
    split at e
    · rename_i xs q
      cases e
      obtain ⟨a, vs, h1, rfl, h2, h3⟩ := lst_at r hh q
      exact ⟨_, .letgo n, hh.letgo n, .lst ⟨h2, notlive_frz hh h1⟩ (h3.stay (Ext.letgo n).ks)⟩
    · rename_i kvs q
      cases e
      obtain ⟨l, a, h1, h2, rfl, a', h4, h5⟩ := ref_at r hh q (by intro z; cases z)
      cases h4
      cases h2
      refine ⟨_, .letgo n, hh.letgo n, ?_⟩
      obtain ⟨us, h6, h7⟩ := h5
      exact .dK (.inl h6) (notlive_frz hh h1) (DvK.stay' (Ext.letgo n).ks h7)
    · rename_i kvs q
      cases e
      obtain ⟨l, a, h1, h2, rfl, a', us, bs, h4, h5, h6⟩ := ref_at r hh q (by intro z; cases z)
      cases h4
      cases h2
      exact ⟨_, .letgo n, hh.letgo n, .dK (.inl h5) (notlive_frzL hh h1 (by simp)) (h6.dv (Ext.letgo n).ks fun b hb => notlive_frzL hh h1 (List.mem_cons_of_mem _ hb))⟩
    · rename_i xss q
      cases e
      obtain ⟨l, a, h1, h2, rfl, a', bs, h4, h5, h6⟩ := ref_at r hh q (by intro z; cases z)
      cases h4
      cases h2
      exact ⟨_, .letgo n, hh.letgo n, .lst ⟨h5, notlive_frzL hh h1 (by simp)⟩ (h6.dv (Ext.letgo n).ks fun b hb => notlive_frzL hh h1 (List.mem_cons_of_mem _ hb))⟩
    · cases e
  | s ns => cases e
  | e _ _ _ _ => cases e
  | o _ => cases e
end
end Mok05
set_option autoImplicit false
namespace Mok05
variable [Wd]
open PySem PySem.Spec PyProof.Rows L2
section
variable {X : Cx} {ct : Ct} {Z : WX}
def sNext : DS := fun ρ μ => .nx ρ μ
def sSeq (a b : DS) : DS := fun ρ μ => match a ρ μ with
  | .nx ρ1 μ1 => b ρ1 μ1
  | r => r
def sRet (d : DE) : DS := fun ρ μ => match d ρ μ with
  | .ok w μ1 => .rt w μ1
  | .exc x μ1 => .exc x ρ μ1
  | .bad => .bad
def sRetN : DS := fun _ μ => .rt (.d .none) μ
def sSet (i : Nat) (d : DE) : DS := fun ρ μ => match d ρ μ with
  | .ok w μ1 => .nx (ρ.set i (some w)) μ1
  | .exc x μ1 => .exc x ρ μ1
  | .bad => .bad
def sExpr (d : DE) : DS := fun ρ μ => match d ρ μ with
  | .ok _ μ1 => .nx ρ μ1
  | .exc x μ1 => .exc x ρ μ1
  | .bad => .bad
def sIf (c : DT) (a b : DS) : DS := fun ρ μ => match c ρ μ with
  | .ok t μ1 => if t = true then a ρ μ1 else b ρ μ1
  | .exc x μ1 => .exc x ρ μ1
  | .bad => .bad
def sBreak : DS := fun ρ μ => .bk ρ μ
def sCont : DS := fun ρ μ => .ct ρ μ
theorem msNil : MSs X ct Z [] sNext := ⟨pss_imp pss_nil fun D σ H ⟨m, ρ, μ, he, hh, g⟩ => g m σ H (.refl _ _) hh he⟩
theorem msCons {st : Stmt} {rest : List Stmt} {a b : DS} (h1 : MS X ct Z st a) (h2 : MSs X ct Z rest b) : MSs X ct Z (st :: rest) (sSeq a b) := by
  refine ⟨pss_imp (pss_cons h1.ps h2.pss) fun D σ H h => ?_⟩
  obtain ⟨m, ρ, μ, he, hh, g⟩ := h
  refine ⟨m, ρ, μ, he, hh, ?_⟩
  unfold sSeq at g
  cases q : a ρ μ with
  | nx ρ1 μ1 =>
    rw [q] at g
    exact fun m' σ' H' e h' hρ => ⟨m', ρ1, μ1, hρ, h', Gs.ext g e⟩
  | rt w μ1 => rw [q] at g; exact g
  | bk ρ1 μ1 => rw [q] at g; exact g
  | ct ρ1 μ1 => rw [q] at g; exact g
  | exc x ρ1 μ1 => rw [q] at g; exact g
  | bad => rw [q] at g; exact g
theorem msOne {st : Stmt} {a : DS} (h1 : MS X ct Z st a) : MSs X ct Z [st] a := ⟨pss_one h1.ps⟩
theorem msRet {e : Expr} {pos : Pos} {d : DE} (h : ME X ct Z e d) : MS X ct Z (.Return (some e) pos) (sRet d) := by
  refine ⟨ps_imp (ps_ret h.pe) fun D σ H q => ?_⟩
  obtain ⟨m, ρ, μ, he, hh, g⟩ := q
  refine ⟨m, ρ, μ, he, hh, ?_⟩
  unfold sRet at g
  cases q : d ρ μ with
  | ok w μ1 => rw [q] at g; exact fun m' H' e h' v r => g m' H' v e h' r
  | exc x μ1 => rw [q] at g; exact fun m' H' cls dd e h' r => g m' σ H' cls dd e h' (he.ext e) r
  | bad => rw [q] at g; exact g
theorem tSet_of {i : Nat} {d : DE} {D : Ends} {σ : L2.St} {H : Hp} (q : tS X.K ct Z (sSet i d) D σ H) : tE X.K ct Z d σ H fun v H1 => D.nx (σ.set i (some v)) H1 := by
  obtain ⟨m, ρ, μ, he, hh, g⟩ := q
  refine ⟨m, ρ, μ, he, hh, ?_⟩
  unfold sSet at g
  cases q : d ρ μ with
  | ok w μ1 => rw [q] at g; exact fun m' H' e h' v r => g m' _ H' e h' ((he.ext e).set r i)
  | exc x μ1 => rw [q] at g; exact fun m' H' cls dd e h' r => g m' σ H' cls dd e h' (he.ext e) r
  | bad => rw [q] at g; exact g
theorem msSet {i : Nat} {x : Str} {e : Expr} {pos pos' : Pos} {d : DE} (hN : X.N.Nodup) (h : ME X ct Z e d) (hi : X.N[i]? = some x := by rfl) (hx : Loc X.env.scope x := by first | exact Or.inl rfl | exact Or.inr rfl)
    (hs : swapsWith e (some (.Name x pos')) pos.line X.env = pure false := by rfl) (hf : X.fn x = true ∨ X.env.scope.names.lookup x = some .local := by first | exact Or.inr rfl | exact Or.inl rfl) :
    MS X ct Z (.Assign [.Name x pos'] e pos) (sSet i d) :=
  ⟨ps_imp (ps_set hN hi hx h.pe hs hf) fun D σ H q => tSet_of q⟩
theorem msExpr {e : Expr} {pos : Pos} {d : DE} (h : ME X ct Z e d) (hs : swapsWith e none pos.line X.env = pure false := by rfl) : MS X ct Z (.Expr e pos) (sExpr d) := by
  refine ⟨ps_imp (ps_expr h.pe hs) fun D σ H q => ?_⟩
  obtain ⟨m, ρ, μ, he, hh, g⟩ := q
  refine ⟨m, ρ, μ, he, hh, ?_⟩
  unfold sExpr at g
  cases q : d ρ μ with
  | ok w μ1 => rw [q] at g; exact fun m' H' e h' v r => g m' σ H' e h' (he.ext e)
  | exc x μ1 => rw [q] at g; exact fun m' H' cls dd e h' r => g m' σ H' cls dd e h' (he.ext e) r
  | bad => rw [q] at g; exact g
theorem msIf {c : Expr} {a b : List Stmt} {pos : Pos} {dc : DT} {da db : DS} (hc : MT X ct Z c dc) (ha : MSs X ct Z a da) (hb : MSs X ct Z b db) : MS X ct Z (.If c a b pos) (sIf dc da db) := by
  refine ⟨ps_imp (ps_if hc.pt ha.pss hb.pss) fun D σ H q => ?_⟩
  obtain ⟨m, ρ, μ, he, hh, g⟩ := q
  refine ⟨m, ρ, μ, he, hh, ?_⟩
  unfold sIf at g
  cases q : dc ρ μ with
  | ok t μ1 =>
    rw [q] at g
    intro m' H' e h'
    cases t with
    | true => exact ⟨m', ρ, μ1, he.ext e, h', Gs.ext g e⟩
    | false => exact ⟨m', ρ, μ1, he.ext e, h', Gs.ext g e⟩
  | exc x μ1 => rw [q] at g; exact fun m' H' cls dd e h' r => g m' σ H' cls dd e h' (he.ext e) r
  | bad => rw [q] at g; exact g
def tG (K : PySem.W.Frag) (g : PyData → Env → Option Env) (vs : List Nat) : TG := fun v σ H Q => ∃ m ρ ρ' x, EnvR K m H ρ σ ∧ Dv K (Live m) H v x ∧ g x ρ = some ρ' ∧
  ∀ σ', EnvR K m H ρ' σ' → σ'.length = σ.length → (∀ j, j ∉ vs → σ'[j]? = σ[j]?) → Q σ' H
def tGs (K : PySem.W.Frag) (g : List PyData → Env → Option Env) (vs : List Nat) : TGs := fun us σ H Q => ∃ m ρ ρ' xs, EnvR K m H ρ σ ∧ DvAll K (Live m) H us xs ∧ g xs ρ = some ρ' ∧
  ∀ σ', EnvR K m H ρ' σ' → σ'.length = σ.length → (∀ j, j ∉ vs → σ'[j]? = σ[j]?) → Q σ' H
structure MG (X : Cx) (tg : Expr) (g : PyData → Env → Option Env) (vs : List Nat) : Prop where
  pg : PG X tg (tG X.K g vs)
structure MGs (X : Cx) (tgs : List Expr) (g : List PyData → Env → Option Env) (vs : List Nat) : Prop where
  pgs : PGs X tgs (tGs X.K g vs)
theorem pg_imp {tg : Expr} {t t' : TG} (h : PG X tg t) (k : ∀ v σ H Q, t' v σ H Q → t v σ H Q) : PG X tg t' := ⟨fun pins s σ H v u Q I r q => h.run pins s σ H v u Q I r (k v σ H Q q)⟩
theorem pgs_imp {tg : List Expr} {t t' : TGs} (h : PGs X tg t) (k : ∀ v σ H Q, t' v σ H Q → t v σ H Q) : PGs X tg t' := ⟨fun pins s σ H v u Q I r q => h.run pins s σ H v u Q I r (k v σ H Q q)⟩
def gN (i : Nat) : PyData → Env → Option Env := fun x ρ => some (ρ.set i (some (.d x)))
theorem mgN (i : Nat) {x : Str} {pos : Pos} (hN : X.N.Nodup) (hi : X.N[i]? = some x := by rfl) (hx : Loc X.env.scope x := by first | exact Or.inl rfl | exact Or.inr rfl) (hf : X.fn x = true ∨ X.env.scope.names.lookup x = some .local := by first | exact Or.inl rfl | exact Or.inr rfl) : MG X (.Name x pos) (gN i) [i] := by
  refine ⟨pg_imp (pg_name hN hi hx hf) fun v σ H Q h => ?_⟩
  obtain ⟨m, ρ, ρ', x, he, r, e, k⟩ := h
  cases e
  exact k _ (he.set (w := .d x) r i) (by simp) fun j hj => List.getElem?_set_ne fun z => hj (by simp [z])
def gNil' : List PyData → Env → Option Env
  | [], ρ => some ρ
  | _ :: _, _ => none
def gCons' (g : PyData → Env → Option Env) (gs : List PyData → Env → Option Env) : List PyData → Env → Option Env
  | [], _ => none
  | x :: xs, ρ => (g x ρ).bind (gs xs)
theorem mgsNil : MGs X [] gNil' [] := by
  refine ⟨pgs_imp pgs_nil fun us σ H Q h => ?_⟩
  obtain ⟨m, ρ, ρ', xs, he, r, e, k⟩ := h
  cases r with
  | nil =>
    cases e
    exact ⟨rfl, k σ he rfl fun _ _ => rfl⟩
  | cons _ _ => cases e
theorem mgsCons {e : Expr} {es : List Expr} {g : PyData → Env → Option Env} {gs : List PyData → Env → Option Env} {vs us : List Nat} (h1 : MG X e g vs) (h2 : MGs X es gs us)
    (hs : (assignEach (e :: es) X.env).map (·.2) = assign e X.env :: (assignEach es X.env).map (·.2) := by rfl) : MGs X (e :: es) (gCons' g gs) (vs ++ us) := by
  refine ⟨pgs_imp (pgs_cons h1.pg h2.pgs hs) fun ys σ H Q h => ?_⟩
  obtain ⟨m, ρ, ρ', xs, he, r, e, k⟩ := h
  cases r with
  | nil => cases e
  | cons a b =>
    rename_i v vr x xr
    simp only [gCons', Option.bind_eq_some_iff] at e
    obtain ⟨ρ1, e1, e2⟩ := e
    refine ⟨v, vr, rfl, m, ρ, ρ1, _, he, a, e1, fun σ1 he1 l1 q1 => ?_⟩
    refine ⟨m, ρ1, ρ', _, he1, b, e2, fun σ2 he2 l2 q2 => ?_⟩
    exact k σ2 he2 (l2.trans l1) fun j hj => by
      rw [List.mem_append, not_or] at hj
      rw [q2 j hj.2, q1 j hj.1]
def gT (n : Nat) (gs : List PyData → Env → Option Env) : PyData → Env → Option Env
  | .tuple xs, ρ => if xs.length = n then gs xs ρ else none
  | _, _ => none
theorem mgT {es : List Expr} {k n : Nat} {pos : Pos} {gs : List PyData → Env → Option Env} {vs : List Nat} (hc : X.calm = true) (h : MGs X es gs vs) (hn : (assignEach es X.env).length = n := by rfl)
    (hst : (assignEach es X.env).findIdx? (·.1) = none := by rfl) : MG X (.Tuple es k pos) (gT n gs) vs := by
  refine ⟨pg_imp (pg_tup hc h.pgs hn hst) fun v σ H Q h => ?_⟩
  obtain ⟨m, ρ, ρ', x, he, r, e, k⟩ := h
  cases r with
  | tup hq ha =>
    rename_i a us xs
    simp only [gT] at e
    split at e
    · rename_i hl
      exact ⟨a, us, rfl, hq.sq, by rw [ha.len, hl], m, ρ, ρ', xs, he, ha, e, k⟩
    · cases e
  | _ => cases e
def sAsg (g : PyData → Env → Option Env) (d : DE) : DS := fun ρ μ => match d ρ μ with
  | .ok (.d x) μ1 => match g x ρ with
    | some ρ1 => .nx ρ1 μ1
    | none => .bad
  | .ok _ _ => .bad
  | .exc x μ1 => .exc x ρ μ1
  | .bad => .bad
theorem msAsg {tg e : Expr} {pos : Pos} {g : PyData → Env → Option Env} {vs : List Nat} {d : DE} (h : ME X ct Z e d) (hg : MG X tg g vs) (hs : swapsWithSole [tg] e pos.line X.env = pure false := by rfl) (hw : swappedStores [tg] e X.env = pure none := by rfl)
    (h1 : (assignEach [tg] X.env).map (·.2) = [assign tg X.env] := by rfl) : MS X ct Z (.Assign [tg] e pos) (sAsg g d) := by
  refine ⟨ps_imp (ps_asg h.pe hg.pg hs hw h1) fun D σ H z => ?_⟩
  obtain ⟨m, ρ, μ, he, hh, gg⟩ := z
  refine ⟨m, ρ, μ, he, hh, ?_⟩
  unfold sAsg at gg
  cases ed : d ρ μ with
  | ok w μ1 =>
    rw [ed] at gg
    cases w with
    | d x =>
      intro m' H' e h' v r
      dsimp only at gg
      split at gg
      · rename_i ρ1 eg
        exact ⟨m', ρ, ρ1, x, he.ext e, r, eg, fun σ' he' _ _ => gg m' σ' H' e h' he'⟩
      · exact gg.elim
    | r n => exact gg.elim
    | s n => exact gg.elim
    | e _ _ _ _ => exact gg.elim
    | o _ => exact gg.elim
  | exc x μ1 => rw [ed] at gg; exact fun m' H' cls dd e h' r => gg m' σ H' cls dd e h' (he.ext e) r
  | bad => rw [ed] at gg; exact gg
def whl (c : DT) (b : DS) : Nat → DS
  | 0, _, _ => .bad
  | n + 1, ρ, μ => match c ρ μ with
    | .ok true μ1 => match b ρ μ1 with
      | .nx ρ2 μ2 => whl c b n ρ2 μ2
      | .ct ρ2 μ2 => whl c b n ρ2 μ2
      | .bk ρ2 μ2 => .nx ρ2 μ2
      | r => r
    | .ok false μ1 => .nx ρ μ1
    | .exc x μ1 => .exc x ρ μ1
    | .bad => .bad
theorem msWhile {c : Expr} {body : List Stmt} {pos : Pos} {dc : DT} {db : DS} (n : Nat) (hp : PassesOwn (model X.prog X.w) X.A X.env X.xe) (hc : MT X ct Z c dc) (hb : MSs X ct Z body db) : MS X ct Z (.While c body [] pos) (whl dc db n) := by
  refine ⟨ps_imp (ps_while hp hc.pt hb.pss) fun D σ H q => ?_⟩
  refine ⟨fun k σ' H' => ∃ m ρ μ, EnvR X.K m H' ρ σ' ∧ RH X.K m H' μ ∧ Gs X.K ct Z D m H' (whl dc db k ρ μ), ⟨n, q⟩, fun k σ' H' h => ?_⟩
  obtain ⟨m, ρ, μ, he, hh, g⟩ := h
  cases k with
  | zero => exact g.elim
  | succ k =>
    refine ⟨m, ρ, μ, he, hh, ?_⟩
    simp only [whl] at g
    cases q : dc ρ μ with
    | ok t μ1 =>
      rw [q] at g
      intro m1 H1 e1 h1
      cases t with
      | true =>
        refine iteT ⟨fun σ2 H2 => ∃ m ρ μ, EnvR X.K m H2 ρ σ2 ∧ RH X.K m H2 μ ∧ Gs X.K ct Z D m H2 (whl dc db k ρ μ), fun σ2 H2 z => ⟨k, Nat.lt_succ_self _, z⟩, m1, ρ, μ1, he.ext e1, h1, ?_⟩
        dsimp only at g
        cases q2 : db ρ μ1 with
        | nx ρ2 μ2 => rw [q2] at g; exact fun m' σ' H' e h' hρ => ⟨m', ρ2, μ2, hρ, h', Gs.ext g (e1.trans e)⟩
        | ct ρ2 μ2 => rw [q2] at g; exact fun m' σ' H' e h' hρ => ⟨m', ρ2, μ2, hρ, h', Gs.ext g (e1.trans e)⟩
        | bk ρ2 μ2 => rw [q2] at g; exact fun m' σ' H' e h' hρ => g m' σ' H' (e1.trans e) h' hρ
        | rt w μ2 => rw [q2] at g; exact fun m' H' v e h' r => g m' H' v (e1.trans e) h' r
        | exc x ρ2 μ2 => rw [q2] at g; exact fun m' σ' H' cls d e h' hρ r => g m' σ' H' cls d (e1.trans e) h' hρ r
        | bad => rw [q2] at g; exact g
      | false => exact iteF (g m1 σ' H1 e1 h1 (he.ext e1))
    | exc x μ1 => rw [q] at g; exact fun m' H' cls dd e h' r => g m' σ' H' cls dd e h' (he.ext e) r
    | bad => rw [q] at g; exact g
end
end Mok05
set_option autoImplicit false
namespace Mok05
variable [Wd]
open PySem PySem.Spec PyProof.Rows L2
section
variable {X : Cx} {ct : Ct} {Z : WX}
abbrev Src := List PyData × Option Nat
def live (s : Src) (μ : Mem) : Prop := match s.2 with
  | none => True
  | some n => μ[n]? = some (.l s.1)
structure Srv (K : PySem.W.Frag) (J : It) (m0 : Ms) (H0 : Hp) (s : Src) : Prop where
  stop : ∀ m H μ, Exw m0 H0 m H → RH K m H μ → live s μ → J.stop s.1.length H
  go : ∀ i m H μ, i < s.1.length → Exw m0 H0 m H → RH K m H μ → live s μ → J.go i H
  yld : ∀ i m H μ x H', Exw m0 H0 m H → RH K m H μ → live s μ → i < s.1.length → J.yld i H x H' → ∃ d, s.1[i]? = some d ∧ Dv K (Live m) H' x d ∧ Ext m H m H' ∧ RH K m H' μ
theorem Srv.later {K : PySem.W.Frag} {J : It} {m0 m1 : Ms} {H0 H1 : Hp} {s : Src} (v : Srv K J m0 H0 s) (e : Exw m0 H0 m1 H1) : Srv K J m1 H1 s :=
  ⟨fun m H μ e' => v.stop m H μ (e.trans e'), fun i m H μ hi e' => v.go i m H μ hi (e.trans e'), fun i m H μ x H' e' => v.yld i m H μ x H' (e.trans e')⟩
abbrev DI := Env → Mem → Res Src
def tI (K : PySem.W.Frag) (ct : Ct) (Z : WX) (d : DI) : TI := fun σ H R => ∃ m ρ μ, EnvR K m H ρ σ ∧ RH K m H μ ∧ Gd K ct Z m σ H (d ρ μ) (fun s μ' m' H' => ∀ J, Srv K J m' H' s → R J H')
structure MI (X : Cx) (ct : Ct) (Z : WX) (tg it : Expr) (d : DI) : Prop where
  pi : PI X tg it (tI X.K ct Z d)
theorem pi_imp {tg it : Expr} {t t' : TI} (h : PI X tg it t) (k : ∀ σ H Q, t' σ H Q → t σ H Q) : PI X tg it t' := ⟨fun pins s σ H Q I q => h.run pins s σ H Q I (k σ H Q q)⟩
theorem pi_or {tg it : Expr} {t t' : TI} (h : PI X tg it t) (h' : PI X tg it t') : PI X tg it (fun σ H Q => t σ H Q ∨ t' σ H Q) := ⟨fun pins s σ H Q I q => q.elim (h.run pins s σ H Q I) (h'.run pins s σ H Q I)⟩
def iV : W → Mem → Res Src
  | .d (.list xs), μ => .ok (xs, none) μ
  | .d (.tuple xs), μ => .ok (xs, none) μ
  | .r n, μ => match μ[n]? with
    | some (.l xs) => .ok (xs, some n) μ
    | _ => .bad
  | _, _ => .bad
def dI (f : W → Mem → Res Src) (d : DE) : DI := fun ρ μ => bnd (d ρ μ) f
theorem srv_lst {K : PySem.W.Frag} {a : Addr} {m : Ms} {H : Hp} {us : List V} {xs : List PyData} (hq : LsV (Live m) H a us) (ha : DvAll K (Live m) H us xs) : Srv K (Itl K a) m H (xs, none) where
  stop := fun m' H' μ e hh _ => ⟨us, (hq.stay e.ks).sq, Nat.le_of_eq ha.len⟩
  go := fun i m' H' μ hi e hh _ => ⟨us, us[i]'(by rw [ha.len]; exact hi), (hq.stay e.ks).sq, List.getElem?_eq_getElem _⟩
  yld := fun i m' H' μ x H2 e hh _ hi hy => by
    obtain ⟨rfl, h⟩ := hy
    obtain ⟨d, h1, h2⟩ := (ha.stay e.ks).get' (h us (hq.stay e.ks).sq)
    exact ⟨d, h1, h2, .refl _ _, hh⟩
theorem srv_ref {K : PySem.W.Frag} {a : Addr} {n : Nat} {m : Ms} {H : Hp} {xs : List PyData} (r : RV K m H (.r n) (.ref a)) : Srv K (Itl K a) m H (xs, some n) where
  stop := fun m' H' μ e hh lv => by
    obtain ⟨b, us, h0, h1, h2, h3⟩ := lst_at (r.extw e) hh lv
    cases h1
    exact ⟨us, .of h2, Nat.le_of_eq h3.len⟩
  go := fun i m' H' μ hi e hh lv => by
    obtain ⟨b, us, h0, h1, h2, h3⟩ := lst_at (r.extw e) hh lv
    cases h1
    exact ⟨us, us[i]'(by rw [h3.len]; exact hi), .of h2, List.getElem?_eq_getElem _⟩
  yld := fun i m' H' μ x H2 e hh lv hi hy => by
    obtain ⟨b, us, h0, h1, h2, h3⟩ := lst_at (r.extw e) hh lv
    cases h1
    obtain ⟨rfl, h⟩ := hy
    obtain ⟨d, h4, h5⟩ := h3.get' (h us (.of h2))
    exact ⟨d, h4, h5, .refl _ _, hh⟩
theorem srv_tup {K : PySem.W.Frag} {a : Addr} {m : Ms} {H : Hp} {us : List V} {xs : List PyData} (hq : SqT K H a us) (ha : DvAll K (Live m) H us xs) : Srv K (Itt K a) m H (xs, none) where
  stop := fun m' H' μ e hh _ => ⟨us, sqT_stay e.ks hq, Nat.le_of_eq ha.len⟩
  go := fun i m' H' μ hi e hh _ => ⟨us, us[i]'(by rw [ha.len]; exact hi), sqT_stay e.ks hq, List.getElem?_eq_getElem _⟩
  yld := fun i m' H' μ x H2 e hh _ hi hy => by
    obtain ⟨rfl, h⟩ := hy
    obtain ⟨d, h1, h2⟩ := (ha.stay e.ks).get' (h us (sqT_stay e.ks hq))
    exact ⟨d, h1, h2, .refl _ _, hh⟩
theorem miV {tg e : Expr} {d : DE} (h : ME X ct Z e d) : MI X ct Z tg e (dI iV d) := by
  refine ⟨pi_imp (pi_or (pi_list h.pe) (pi_tup h.pe)) fun σ H R q => ?_⟩
  obtain ⟨m, ρ, μ, he, hh, g⟩ := q
  have g := Gd.bnd g
  cases q : d ρ μ with
  | bad => rw [q] at g; exact g.elim
  | exc x μ1 =>
    rw [q] at g
    exact .inl ⟨m, ρ, μ, he, hh, by rw [q]; exact g⟩
  | ok w μ1 =>
    rw [q] at g
    by_cases ht : ∃ xs, w = .d (.tuple xs)
    · obtain ⟨xs, rfl⟩ := ht
      refine .inr ⟨m, ρ, μ, he, hh, ?_⟩
      rw [q]
      intro m1 H1 e1 h1 v r1
      have g1 := g m1 H1 e1 h1
      cases r1 with
      | tup hq ha => exact ⟨_, rfl, ⟨_, hq.sq⟩, g1 m1 H1 (.refl _ _) h1 _ (srv_tup hq.sq ha)⟩
    · refine .inl ⟨m, ρ, μ, he, hh, ?_⟩
      rw [q]
      intro m1 H1 e1 h1 v r1
      have g1 := g m1 H1 e1 h1
      cases w with
      | s n => exact g1.elim
      | e _ _ _ _ => exact g1.elim
      | o _ => exact g1.elim
      | r n =>
        simp only [iV] at g1
        split at g1
        · rename_i xs hx
          obtain ⟨a, us, h3, rfl, h4, h5⟩ := lst_at r1 h1 hx
          exact ⟨a, rfl, ⟨_, .of h4⟩, g1 m1 H1 (.refl _ _) h1 _ (srv_ref r1)⟩
        · exact g1.elim
      | d x =>
        cases x with
        | list xs =>
          cases r1 with
          | lst hq ha => exact ⟨_, rfl, ⟨_, hq.sq⟩, g1 m1 H1 (.refl _ _) h1 _ (srv_lst hq ha)⟩
        | tuple xs => exact (ht ⟨xs, rfl⟩).elim
        | _ => exact g1.elim
def intsOf (lo : Int) (n : Nat) : List PyData := (List.range n).map fun i => .int (lo + (i : Nat))
theorem ints_at {lo : Int} {n i : Nat} (h : i < n) : (intsOf lo n)[i]? = some (.int (lo + (i : Nat))) := by simp [intsOf, h]
@[simp] theorem ints_len {lo : Int} {n : Nat} : (intsOf lo n).length = n := by simp [intsOf]
theorem srv_rng {K : PySem.W.Frag} {lo : Int} {n : Nat} {m : Ms} {H : Hp} : Srv K (Itr lo n) m H (intsOf lo n, none) where
  stop := fun m' H' μ e hh _ => Nat.le_of_eq ints_len.symm
  go := fun i m' H' μ hi e hh _ => by
    have h : i < (intsOf lo n).length := hi
    rw [ints_len] at h
    exact h
  yld := fun i m' H' μ x H2 e hh _ hi hy => by
    obtain ⟨rfl, rfl⟩ := hy
    have h : i < (intsOf lo n).length := hi
    rw [ints_len] at h
    exact ⟨_, ints_at h, .int _, .refl _ _, hh⟩
noncomputable def inR (i : Int) : Bool := @decide (-(2 ^ 62) ≤ i) (Classical.propDecidable _) && @decide (i < 2 ^ 62) (Classical.propDecidable _)
theorem inR_lit {i : Int} (h : 0 ≤ i ∧ i ≤ 1000000) : inR i = true := by
  simp only [inR, Bool.and_eq_true, decide_eq_true_eq]
  omega
theorem inR_le {i : Int} (h : inR i = true) : -(2 ^ 62) ≤ i ∧ i < 2 ^ 62 := by
  simp only [inR, Bool.and_eq_true, decide_eq_true_eq] at h
  exact h
noncomputable def iR1 : List W → Mem → Res Src
  | [.d (.int j)], μ => if inR j = true then .ok (intsOf 0 j.toNat, none) μ else .bad
  | _, _ => .bad
def dIs (f : List W → Mem → Res Src) (d : DA) : DI := fun ρ μ => bnd (d ρ μ) f
theorem miR1 {tg a : Expr} {p pos : Pos} {da : DA} (h : MA X ct Z [a] da) (hm : X.mg "range" = none) (hg : Gl X "range" := by rfl) (hs : starEach [a] X.env = [(false, eval a X.env)] := by rfl) : MI X ct Z tg (.Call (.Name "range" p) [a] [] pos) (dIs iR1 da) := by
  refine ⟨pi_imp (pi_range1 hg hm h.pa hs) fun σ H R q => ?_⟩
  obtain ⟨m, ρ, μ, he, hh, g⟩ := q
  refine ⟨m, ρ, μ, he, hh, (Gd.bnd g).mono fun ws μ1 m1 H1 e1 h1 g1 vs r1 => ?_⟩
  unfold iR1 at g1
  split at g1
  · cases r1 with
    | cons a b =>
      cases b
      cases a
      split at g1
      · rename_i hz
        exact ⟨_, rfl, (inR_le hz).1, (inR_le hz).2, g1 m1 H1 (.refl _ _) h1 _ srv_rng⟩
      · exact g1.elim
  · exact g1.elim
open Classical in
noncomputable def forL (s : Src) (g : PyData → Env → Option Env) (b : DS) : List PyData → DS
  | [], ρ, μ => if live s μ then .nx ρ μ else .bad
  | x :: r, ρ, μ => if live s μ then (match g x ρ with
    | none => .bad
    | some ρ1 => match b ρ1 μ with
      | .nx ρ2 μ2 => forL s g b r ρ2 μ2
      | .ct ρ2 μ2 => forL s g b r ρ2 μ2
      | .bk ρ2 μ2 => .nx ρ2 μ2
      | o => o) else .bad
noncomputable def sFor (d : DI) (g : PyData → Env → Option Env) (b : DS) : DS := fun ρ μ => match d ρ μ with
  | .ok s μ1 => forL s g b s.1 ρ μ1
  | .exc x μ1 => .exc x ρ μ1
  | .bad => .bad
theorem msFor {tg iter : Expr} {body : List Stmt} {pos : Pos} {di : DI} {g : PyData → Env → Option Env} {vs : List Nat} {db : DS} (hp : PassesOwn (model X.prog X.w) X.A X.env X.xe) (hc : X.calm = true) (hi : MI X ct Z tg iter di) (hg : MG X tg g vs) (hb : MSs X ct Z body db)
    (hs : ∀ x, foldedSetIterable iter X.env x = pure x := by intro _; rfl) : MS X ct Z (.For tg iter body [] pos) (sFor di g db) := by
  refine ⟨ps_imp (ps_for hp hc hi.pi hg.pg hb.pss hs) fun D σ H q => ?_⟩
  obtain ⟨m, ρ, μ, he, hh, gg⟩ := q
  refine ⟨m, ρ, μ, he, hh, ?_⟩
  unfold sFor at gg
  cases ed : di ρ μ with
  | ok s μ1 =>
    rw [ed] at gg
    intro m1 H1 e1 h1 J sv
    refine ⟨fun i k σ' H' => i + k = s.1.length ∧ ∃ m' ρ' μ', Ext m1 H1 m' H' ∧ EnvR X.K m' H' ρ' σ' ∧ RH X.K m' H' μ' ∧ Gs X.K ct Z D m' H' (forL s g db (s.1.drop i) ρ' μ'), ⟨s.1.length, by omega, m1, ρ, μ1, .refl _ _, he.ext e1, h1, by simpa using Gs.ext gg e1⟩, fun i k σ' H' h => ?_⟩
    obtain ⟨hik, m', ρ', μ', e', he', hh', g'⟩ := h
    by_cases hlt : i < s.1.length
    · refine .inr ?_
      rw [List.drop_eq_getElem_cons hlt] at g'
      simp only [forL] at g'
      split at g'
      · rename_i lv
        refine ⟨sv.go i m' H' μ' hlt e'.w hh' lv, fun σ2 H2 => ∃ m2 ρ2 μ2, Ext m1 H1 m2 H2 ∧ EnvR X.K m2 H2 ρ2 σ2 ∧ RH X.K m2 H2 μ2 ∧ Gs X.K ct Z D m2 H2 (forL s g db (s.1.drop (i + 1)) ρ2 μ2), fun σ2 H2 z => ⟨k - 1, by omega, by omega, z⟩, fun x H2 hy => ?_⟩
        obtain ⟨d, hd, rd, ex, hh2⟩ := sv.yld i m' H' μ' x H2 e'.w hh' lv hlt hy
        rw [List.getElem?_eq_getElem hlt] at hd
        cases hd
        split at g'
        · exact g'.elim
        · rename_i ρ1 eg
          refine ⟨m', ρ', ρ1, _, he'.ext ex, rd, eg, fun σ3 he3 _ _ => ⟨m', ρ1, μ', he3, hh2, ?_⟩⟩
          cases eb : db ρ1 μ' with
          | nx ρ2 μ2 => rw [eb] at g'; exact fun m4 σ4 H4 e4 h4 hρ => ⟨m4, ρ2, μ2, (e'.trans ex).trans e4, hρ, h4, Gs.ext g' (ex.trans e4)⟩
          | ct ρ2 μ2 => rw [eb] at g'; exact fun m4 σ4 H4 e4 h4 hρ => ⟨m4, ρ2, μ2, (e'.trans ex).trans e4, hρ, h4, Gs.ext g' (ex.trans e4)⟩
          | bk ρ2 μ2 => rw [eb] at g'; exact fun m4 σ4 H4 e4 h4 hρ => g' m4 σ4 H4 (ex.trans e4) h4 hρ
          | rt w μ2 => rw [eb] at g'; exact fun m4 H4 v e4 h4 r => g' m4 H4 v (ex.trans e4) h4 r
          | exc x ρ2 μ2 => rw [eb] at g'; exact fun m4 σ4 H4 cls d e4 h4 hρ r => g' m4 σ4 H4 cls d (ex.trans e4) h4 hρ r
          | bad => rw [eb] at g'; exact g'
      · exact g'.elim
    · refine .inl ?_
      have hi : i = s.1.length := by omega
      subst hi
      rw [List.drop_length] at g'
      simp only [forL] at g'
      split at g'
      · rename_i lv
        exact ⟨sv.stop m' H' μ' e'.w hh' lv, g' m' σ' H' (.refl _ _) hh' he'⟩
      · exact g'.elim
  | exc x μ1 => rw [ed] at gg; exact fun m' H' cls dd e h' r => gg m' σ H' cls dd e h' (he.ext e) r
  | bad => rw [ed] at gg; exact gg
def noX {α : Type} : Res α → Res α
  | .ok a μ => .ok a μ
  | _ => .bad
def wipeE (ρ : Env) : List Nat → Env
  | [] => ρ
  | v :: vs => (wipeE ρ vs).set v none
theorem EnvR.wipe {K : PySem.W.Frag} {m : Ms} {H : Hp} {ρ : Env} {σ : L2.St} (h : EnvR K m H ρ σ) : ∀ vs : List Nat, EnvR K m H (wipeE ρ vs) (wipe σ vs)
  | [] => h
  | v :: vs => (h.wipe vs).forget v none
theorem wipe_at : ∀ (vs : List Nat) (σ : L2.St) (j : Nat), (wipe σ vs)[j]? = if j ∈ vs then (if j < σ.length then some none else none) else σ[j]?
  | [], σ, j => by simp [wipe]
  | v :: vs, σ, j => by
    unfold wipe
    rw [List.getElem?_set]
    by_cases e : v = j
    · subst e
      rw [if_pos rfl, wipe_length]
      simp
    · rw [if_neg e, wipe_at vs σ j]
      have : (j ∈ v :: vs) ↔ j ∈ vs := by
        rw [List.mem_cons]
        exact ⟨fun z => z.elim (fun z => (e z.symm).elim) id, .inr⟩
      simp only [this]
theorem wipe_same {σ2 σ : L2.St} {vs us : List Nat} (hsub : ∀ j ∈ us, j ∈ vs) (hl : σ2.length = (wipe σ vs).length) (h : ∀ j, j ∉ us → σ2[j]? = (wipe σ vs)[j]?) : wipe σ2 vs = wipe σ vs := by
  apply List.ext_getElem?
  intro j
  rw [wipe_at]
  by_cases hj : j ∈ vs
  · rw [if_pos hj, wipe_at, if_pos hj, hl, wipe_length]
  · rw [if_neg hj, h j fun z => hj (hsub j z)]
def lcOne (tt : DT) (te : DE) (ρ : Env) (acc : List PyData) (μ : Mem) : Res (List PyData) :=
  bnd (noX (tt ρ μ)) fun b μ1 => if b = true then bnd (noX (te ρ μ1)) fun w μ2 => match w with
    | .d y => if acc.length < sizeLine then .ok (acc ++ [y]) μ2 else .bad
    | _ => .bad else .ok acc μ1
open Classical in
noncomputable def lcL (s : Src) (g : PyData → Env → Option Env) (f : Env → List PyData → Mem → Res (List PyData)) (ρ : Env) : List PyData → List PyData → Mem → Res (List PyData)
  | [], acc, μ => if live s μ then .ok acc μ else .bad
  | x :: r, acc, μ => if live s μ then (match g x ρ with
    | none => .bad
    | some ρ1 => bnd (f ρ1 acc μ) fun acc1 μ1 => lcL s g f ρ r acc1 μ1) else .bad
def lcEnd (own : Bool) (acc : List PyData) (μ : Mem) : Res W := if own = true then .ok (.r μ.length) (μ ++ [.l acc]) else .ok (.d (.list acc)) μ
noncomputable def dLc (own : Bool) (di : DI) (g : PyData → Env → Option Env) (tt : DT) (te : DE) (vs : List Nat) : DE := fun ρ μ => bnd (di ρ μ) fun s μ1 =>
  bnd (lcL s g (lcOne tt te) (wipeE ρ vs) s.1 [] μ1) (lcEnd own)
structure Hid (K : PySem.W.Frag) (D : Addr) (h0 : List Addr) (m : Ms) (H : Hp) (acc : List PyData) : Prop where
  hid : m.h = D :: h0
  at_ : ∃ vs, H D = some (.lst vs) ∧ DvAll K (Live m) H vs acc
abbrev ZF : WX := fun _ _ _ _ => False
theorem hid_grow {K : PySem.W.Frag} {D : Addr} {h0 : List Addr} {m : Ms} {H : Hp} {acc : List PyData} {μ : Mem} {y : V} {x : PyData} (h : Hid K D h0 m H acc) (hh : RH K m H μ) (r : Dv K (Live m) H y x) :
    ∃ vs, H D = some (.lst vs) ∧ vs.length = acc.length ∧ Hid K D h0 m (upd H D (.lst (vs ++ [y]))) (acc ++ [x]) ∧ RH K m (upd H D (.lst (vs ++ [y]))) μ ∧ Exw m H m (upd H D (.lst (vs ++ [y]))) := by
  obtain ⟨vs, h1, h2⟩ := h.at_
  have hm : D ∈ m.h := by rw [h.hid]; simp
  have e := Exw.puth (u := .lst (vs ++ [y])) hm h1 (show Chg (.lst vs) from trivial)
  exact ⟨vs, h1, h2.len, ⟨h.hid, ⟨_, upd_same, (h2.app (.one r)).stay e.ks⟩⟩, hh.puth hm h1 (show Chg (.lst vs) from trivial), e⟩
theorem hid_ext {K : PySem.W.Frag} {D : Addr} {h0 : List Addr} {m m' : Ms} {H H' : Hp} {acc : List PyData} {μ : Mem} (h : Hid K D h0 m H acc) (hh : RH K m H μ) (e : Ext m H m' H') : Hid K D h0 m' H' acc := by
  obtain ⟨vs, h1, h2⟩ := h.at_
  have hm : D ∈ m.h := by rw [h.hid]; simp
  exact ⟨e.hid.trans h.hid, ⟨vs, e.keep D _ h1 (fun z => ((hh.hid D hm).2 z).elim) nt_lst, h2.stay e.ks⟩⟩
structure Out (m0 : Ms) (H0 : Hp) (D : Addr) (m : Ms) (H : Hp) : Prop where
  pre : ∀ n : Nat, ∀ l, l ≠ [] → m0.v[n]? = some (some l) → m.v[n]? = some none ∨ ∃ l', m.v[n]? = some (some l') ∧ l'.head? = l.head?
  pre0 : ∀ n : Nat, m0.v[n]? = some none → m.v[n]? = some none
  keep : ∀ b o, H0 b = some o → (VL m0 b → ¬ Chg o) → Nt o → H b = some o
  new : ∀ b, VL m b → ¬ VL m0 b → H0 b = none
  tbk : ∀ b ps, H0 b = some (.tbl ps) → ∃ qs, H b = some (.tbl qs)
theorem Out.ext {m0 m m' : Ms} {H0 H H' : Hp} {D : Addr} (a : Out m0 H0 D m H) (b : Ext m H m' H') : Out m0 H0 D m' H' where
  pre := fun n l nl h => by
    rcases a.pre n l nl h with h1 | ⟨l1, h1, e1⟩
    · exact .inl (b.pre0 n h1)
    · rcases b.pre n l1 (fun z => by subst z; cases l with | nil => exact nl rfl | cons => simp at e1) h1 with h2 | ⟨l2, h2, e2⟩
      · exact .inl h2
      · exact .inr ⟨l2, h2, e2.trans e1⟩
  pre0 := fun n h => b.pre0 n (a.pre0 n h)
  keep := fun c o h n nt => b.keep c o (a.keep c o h n nt) (fun q => by
    by_cases hc : VL m0 c
    · exact n hc
    · have := a.new c q hc
      rw [h] at this
      cases this) nt
  tbk := fun c ps h => let ⟨qs, w⟩ := a.tbk c ps h; b.tbk c qs w
  new := fun c hc n => by
    by_cases h1 : VL m c
    · exact a.new c h1 n
    · have z := b.new c hc h1
      cases q : H0 c with
      | none => rfl
      | some o =>
        rcases nt_or o with nt | ⟨ps, rfl⟩
        · rw [a.keep c o q (fun k => (n k).elim) nt] at z
          cases z
        · obtain ⟨qs, w⟩ := a.tbk c ps q
          rw [w] at z
          cases z
theorem Out.grow {m0 m : Ms} {H0 H : Hp} {D : Addr} {u : HO} (a : Out m0 H0 D m H) (hD : H0 D = none) : Out m0 H0 D m (upd H D u) :=
  ⟨a.pre, a.pre0, fun b o h n nt => by rw [upd_ne (ne_of_none h hD)]; exact a.keep b o h n nt, a.new, fun b ps h => by rw [upd_ne (ne_of_none h hD)]; exact a.tbk b ps h⟩
theorem Out.start {m : Ms} {H : Hp} {D : Addr} (hD : H D = none) (u : HO) : Out m H D (m.hide D) (upd H D u) :=
  ⟨fun n l _ h => .inr ⟨l, h, rfl⟩, fun _ h => h, fun b o h _ _ => by rw [upd_ne (ne_of_none h hD)]; exact h, fun b h n => (n h).elim, fun b ps h => ⟨ps, by rw [upd_ne (ne_of_none h hD)]; exact h⟩⟩
theorem lc_end {K : PySem.W.Frag} {m0 m : Ms} {H0 H : Hp} {D : Addr} {acc : List PyData} {μ : Mem} {own : Bool} {σ : L2.St} {Q : VK} (o : Out m0 H0 D m H) (hD : H0 D = none) (hn : D ∉ m0.h) (h : Hid K D m0.h m H acc) (hh : RH K m H μ)
    (g : Gd K ct Z m0 σ H0 (lcEnd own acc μ) (PV K Q)) : Q (.ref D) H := by
  obtain ⟨vs, h1, h2⟩ := h.at_
  have hm : D ∈ m.h := by rw [h.hid]; simp
  have hnv : D ∉ fps m.v := (hh.hid D hm).2
  have hin : ∀ b ∈ m0.h, b ∈ m.h := fun b hb => by rw [h.hid]; exact List.mem_cons_of_mem _ hb
  unfold lcEnd at g
  split at g
  · -- by place
    have less : ∀ b, Live { v := m.v ++ [some [D]], h := m0.h } b → Live m b := fun b hb => by
      rcases hb with hb | hb
      · change b ∈ fps (m.v ++ [some [D]]) at hb
        rw [fps_append, fps_one, List.mem_append] at hb
        rcases hb with hb | hb
        · exact .inl hb
        · rw [List.mem_singleton.mp hb]
          exact .inr hm
      · exact .inr (hin b hb)
    refine g { v := m.v ++ [some [D]], h := m0.h } H ⟨fun n l nl q => ?_, fun n q => mem_get _ (o.pre0 n q), rfl, o.keep, fun b hb n => ?_, o.tbk⟩ ⟨fun q hq => (hh.tb q hq).go (keeps_less less) fun _ z => z, ?_, by simp [hh.len], fun b hb => ⟨(hh.hid b (hin b hb)).1, fun z => ?_⟩, fun n p u q1 q2 => ?_, fun _ _ _ e => rf_app hh.rf (fun _ _ z => by cases z) e⟩ _ (.inr ⟨[D], D, ?_, rfl, rfl⟩)
    · rcases o.pre n l nl q with q | ⟨l', q, q'⟩
      · exact .inl (mem_get _ q)
      · exact .inr ⟨l', mem_get _ q, q'⟩
    · change b ∈ fps (m.v ++ [some [D]]) at hb
      rw [fps_append, fps_one, List.mem_append] at hb
      rcases hb with hb | hb
      · exact o.new b hb n
      · rw [List.mem_singleton.mp hb]
        exact hD
    · change (fps (m.v ++ [some [D]])).Nodup
      rw [fps_append, fps_one, List.nodup_append]
      exact ⟨hh.nd, by simp, fun a ha b hb => by
        rw [List.mem_singleton.mp hb]
        rintro rfl
        exact hnv ha⟩
    · change b ∈ fps (m.v ++ [some [D]]) at z
      rw [fps_append, fps_one, List.mem_append] at z
      rcases z with z | z
      · exact (hh.hid b (hin b hb)).2 z
      · rw [List.mem_singleton.mp z] at hb
        exact hn hb
    · change (m.v ++ [some [D]])[n]? = _ at q1
      by_cases hlt : n < m.v.length
      · rw [List.getElem?_append_left hlt] at q1
        rw [List.getElem?_append_left (by rw [← hh.len]; exact hlt)] at q2
        exact (hh.at_ n p u q1 q2).keeps (keeps_less less) (fun _ _ _ _ _ _ r => r.app _ _) fun _ _ _ _ _ q => q
      · have e : n = m.v.length := by
          have := (List.getElem?_eq_some_iff.mp q1).1
          simp at this
          omega
        subst e
        rw [List.getElem?_append_right (Nat.le_refl _)] at q1
        rw [hh.len, List.getElem?_append_right (Nat.le_refl _)] at q2
        simp only [Nat.sub_self, List.getElem?_cons_zero, Option.some.injEq] at q1 q2
        subst q1
        subst q2
        exact ⟨D, vs, rfl, h1, h2.stay (keeps_less less)⟩
    · change (m.v ++ [some [D]])[μ.length]? = _
      rw [← hh.len, List.getElem?_append_right (Nat.le_refl _)]
      simp
  · have less : ∀ b, Live { v := m.v, h := m0.h } b → Live m b := fun b hb => hb.elim .inl fun z => .inr (hin b z)
    refine g { v := m.v, h := m0.h } H ⟨o.pre, o.pre0, rfl, o.keep, o.new, o.tbk⟩ ⟨fun q hq => (hh.tb q hq).go (keeps_less less) fun _ z => z, hh.nd, hh.len, fun b hb => hh.hid b (hin b hb), fun n p u q1 q2 => (hh.at_ n p u q1 q2).keeps (keeps_less less) (fun _ _ _ _ _ _ r => r) fun _ _ _ _ _ q => q, hh.rf⟩ _ (.lst ⟨h1, fun z => ?_⟩ (h2.stay (keeps_less less)))
    rcases z with z | z
    · exact hnv z
    · exact hn z
theorem lc_one {dt : DT} {de : DE} {m : Ms} {ρ : Env} {σ : L2.St} {H : Hp} {μ μ1 : Mem} {acc acc1 : List PyData} {D : Addr} {h0 : List Addr} {Nx : Hp → Prop} {K : PySem.W.Frag} (hρ : EnvR K m H ρ σ) (hh : RH K m H μ) (hid : Hid K D h0 m H acc)
    (h : lcOne dt de ρ acc μ = .ok acc1 μ1)
    (k : ∀ m2 H2, Hid K D h0 m2 H2 acc1 → RH K m2 H2 μ1 → Exw m H m2 H2 → (∀ m0 H0, Out m0 H0 D m H → H0 D = none → Out m0 H0 D m2 H2) → Nx H2) :
    tT K ct ZF dt σ H fun b H3 => if b = true then tE K ct ZF de σ H3 fun y H4 => ∃ acc, H4 D = some (.lst acc) ∧ acc.length < sizeLine ∧ Nx (upd H4 D (.lst (acc ++ [y]))) else Nx H3 := by
  refine ⟨m, ρ, μ, hρ, hh, ?_⟩
  unfold lcOne at h
  cases q : dt ρ μ with
  | bad => rw [q] at h; cases h
  | exc x μ1 => rw [q] at h; cases h
  | ok b μ2 =>
    rw [q, show noX (Res.ok b μ2) = Res.ok b μ2 from rfl, bnd_ok] at h
    intro m1 H1 e1 h1
    have hid1 := hid_ext hid hh e1
    cases b with
    | false =>
      cases h
      exact iteF (k m1 H1 hid1 h1 e1.w fun m0 H0 o _ => o.ext e1)
    | true =>
      refine iteT ⟨m1, ρ, μ2, hρ.ext e1, h1, ?_⟩
      rw [if_pos rfl] at h
      cases q2 : de ρ μ2 with
      | bad => rw [q2] at h; cases h
      | exc x μ3 => rw [q2] at h; cases h
      | ok w μ3 =>
        rw [q2, show noX (Res.ok w μ3) = Res.ok w μ3 from rfl, bnd_ok] at h
        intro m2 H2 e2 h2 y r2
        cases w with
        | r n => cases h
        | s n => cases h
        | e _ _ _ _ => cases h
        | o _ => cases h
        | d x =>
          have hid2 := hid_ext hid1 h1 e2
          obtain ⟨vs, a1, a2, a3, a4, a5⟩ := hid_grow hid2 h2 r2
          dsimp only at h
          split at h
          · rename_i hz
            cases h
            exact ⟨vs, a1, by rw [a2]; exact hz, k m2 _ a3 a4 ((e1.trans e2).w.trans a5) fun m0 H0 o hD => ((o.ext e1).ext e2).grow hD⟩
          · cases h
theorem lc_walk {s : Src} {g : PyData → Env → Option Env} {f : Env → List PyData → Mem → Res (List PyData)} {us vs : List Nat} {J : It} {K : PySem.W.Frag} {D : Addr} {h0 : List Addr} {m1 : Ms} {H1 : Hp} {ρ : Env} {σ : L2.St} {acc0 accN : List PyData} {μ0 μN : Mem} {Qe : Hp → Prop}
    {tb : (Hp → Prop) → L2.St → Hp → Prop} (sv : Srv K J m1 H1 s) (hsub : ∀ j ∈ us, j ∈ vs) (he : EnvR K m1 H1 ρ σ) (hh : RH K m1 H1 μ0) (hid : Hid K D h0 m1 H1 acc0)
    (hL : lcL s g f (wipeE ρ vs) s.1 acc0 μ0 = .ok accN μN)
    (hb : ∀ m ρ1 σ1 H μ acc acc1 μ1 Nx, EnvR K m H ρ1 σ1 → RH K m H μ → Hid K D h0 m H acc → f ρ1 acc μ = .ok acc1 μ1 →
      (∀ m2 H2, Hid K D h0 m2 H2 acc1 → RH K m2 H2 μ1 → Exw m H m2 H2 → (∀ m0 H0, Out m0 H0 D m H → H0 D = none → Out m0 H0 D m2 H2) → Nx H2) → tb Nx σ1 H)
    (hend : ∀ m2 H2, Hid K D h0 m2 H2 accN → RH K m2 H2 μN → Exw m1 H1 m2 H2 → (∀ m0 H0, Out m0 H0 D m1 H1 → H0 D = none → Out m0 H0 D m2 H2) → Qe H2) :
    ∃ W : Nat → Nat → Hp → Prop, (∃ k, W 0 k H1) ∧ ∀ i k H, W i k H → (J.stop i H ∧ Qe H) ∨ (J.go i H ∧ ∃ Nx : Hp → Prop, (∀ H', Nx H' → ∃ k', k' < k ∧ W (i + 1) k' H') ∧ ∀ x H', J.yld i H x H' → tG K g us x (wipe σ vs) H' fun σ2 H2 => wipe σ2 vs = wipe σ vs ∧ tb Nx σ2 H2) := by
  refine ⟨fun i k H => i + k = s.1.length ∧ ∃ m acc μ, Exw m1 H1 m H ∧ RH K m H μ ∧ Hid K D h0 m H acc ∧ (∀ m0 H0, Out m0 H0 D m1 H1 → H0 D = none → Out m0 H0 D m H) ∧ lcL s g f (wipeE ρ vs) (s.1.drop i) acc μ = .ok accN μN,
    ⟨s.1.length, by omega, m1, acc0, μ0, .refl _ _, hh, hid, fun _ _ o _ => o, by simpa using hL⟩, fun i k H h => ?_⟩
  obtain ⟨hik, m, acc, μ, ex, hh', hid', ho, hl⟩ := h
  by_cases hlt : i < s.1.length
  · refine .inr ?_
    rw [List.drop_eq_getElem_cons hlt] at hl
    simp only [lcL] at hl
    split at hl
    · rename_i lv
      refine ⟨sv.go i m H μ hlt ex hh' lv, _, fun H' z => ⟨k - 1, by omega, by omega, z⟩, fun x H' hy => ?_⟩
      obtain ⟨d, hd, rd, e2, hh2⟩ := sv.yld i m H μ x H' ex hh' lv hlt hy
      rw [List.getElem?_eq_getElem hlt] at hd
      cases hd
      split at hl
      · cases hl
      · rename_i ρ1 eg
        have he2 : EnvR K m H' (wipeE ρ vs) (wipe σ vs) := ((he.extw ex).ext e2).wipe vs
        refine ⟨m, _, ρ1, _, he2, rd, eg, fun σ3 he3 l3 q3 => ⟨wipe_same hsub l3 q3, ?_⟩⟩
        cases ef : f ρ1 acc μ with
        | bad => rw [ef] at hl; cases hl
        | exc x μ' => rw [ef] at hl; cases hl
        | ok acc1 μ1 =>
          rw [ef, bnd_ok] at hl
          exact hb m ρ1 σ3 H' μ acc acc1 μ1 _ he3 hh2 (hid_ext hid' hh' e2) ef fun m2 H2 a1 a2 a3 a4 => ⟨m2, acc1, μ1, (ex.trans e2.w).trans a3, a2, a1, fun m0 H0 o hD => a4 m0 H0 ((ho m0 H0 o hD).ext e2) hD, hl⟩
    · cases hl
  · refine .inl ?_
    have hi : i = s.1.length := by omega
    subst hi
    rw [List.drop_length] at hl
    simp only [lcL] at hl
    split at hl
    · rename_i lv
      cases hl
      exact ⟨sv.stop m H _ ex hh' lv, hend m H hid' hh' ex ho⟩
    · cases hl
structure MP (X : Cx) (ct : Ct) (Z : WX) (ifs : List Expr) (d : DT) : Prop where
  pp : PTs X ifs (tT X.K ct Z d)
def dYes : DT := fun _ μ => .ok true μ
theorem pts_imp {ifs : List Expr} {t t' : TT} (h : PTs X ifs t) (k : ∀ σ H Q, t' σ H Q → t σ H Q) : PTs X ifs t' := ⟨fun pins s σ H Q I q => h.run pins s σ H Q I (k σ H Q q)⟩
theorem mpNil : MP X ct Z [] dYes := ⟨pts_imp pts_nil fun σ H Q ⟨m, ρ, μ, he, hh, g⟩ => g m H (.refl _ _) hh⟩
theorem mpOne {c : Expr} {d : DT} (h : MT X ct Z c d) : MP X ct Z [c] d := ⟨pts_one h.pt⟩
theorem lcL_ok {s : Src} {g : PyData → Env → Option Env} {f : Env → List PyData → Mem → Res (List PyData)} {ρ : Env} (hf : ∀ ρ acc μ x μ', f ρ acc μ ≠ .exc x μ') : ∀ (xs acc : List PyData) (μ : Mem) (x : Xc) (μ' : Mem), lcL s g f ρ xs acc μ ≠ .exc x μ'
  | [], acc, μ, x, μ' => by
    unfold lcL
    split <;> intro h <;> cases h
  | y :: r, acc, μ, x, μ' => by
    unfold lcL
    split
    · split
      · intro h; cases h
      · rename_i ρ1 _
        cases e : f ρ1 acc μ with
        | ok a b => exact lcL_ok hf r a b x μ'
        | exc a b => exact (hf _ _ _ _ _ e).elim
        | bad => intro h; cases h
    · intro h; cases h
theorem lcOne_ok {tt : DT} {te : DE} (ρ : Env) (acc : List PyData) (μ : Mem) (x : Xc) (μ' : Mem) : lcOne tt te ρ acc μ ≠ .exc x μ' := by
  unfold lcOne
  cases tt ρ μ with
  | bad => intro h; cases h
  | exc _ _ => intro h; cases h
  | ok b μ1 =>
    simp only [noX, bnd_ok]
    split
    · cases te ρ μ1 with
      | bad => intro h; cases h
      | exc _ _ => intro h; cases h
      | ok w μ2 =>
        cases w with
        | r n => intro h; cases h
        | s n => intro h; cases h
        | e _ _ _ _ => intro h; cases h
        | o _ => intro h; cases h
        | d y =>
          simp only [noX, bnd_ok]
          split <;> intro h <;> cases h
    · intro h; cases h
section
variable {scope : Scope} {own : List (Str × Nat)} {tg iter elt : Expr} {ifs : List Expr} {pos : Pos} {di : DI} {g : PyData → Env → Option Env} {us : List Nat} {dt : DT} {de : DE} {ow : Bool}
theorem tLc_of {σ : L2.St} {H : Hp} {Q : VK} (hsub : ∀ j ∈ us, j ∈ own.map (·.2)) (h : tE X.K ct Z (dLc ow di g dt de (own.map (·.2))) σ H Q) :
    tLc (tI X.K ct Z di) (tG X.K g us) (tT X.K ct ZF dt) (tE X.K ct ZF de) (own.map (·.2)) σ H Q := by
  obtain ⟨m, ρ, μ, he, hh, gg⟩ := h
  refine ⟨m, ρ, μ, he, hh, (Gd.bnd gg).mono fun s μ1 m1 H1 e1 h1 g1 J sv D hD => ?_⟩
  cases hL : lcL s g (lcOne dt de) (wipeE ρ (own.map (·.2))) s.1 [] μ1 with
  | bad => rw [hL] at g1; exact g1.elim
  | exc x μ2 => exact (lcL_ok lcOne_ok _ _ _ _ _ hL).elim
  | ok accN μN =>
    rw [hL, bnd_ok] at g1
    have hn : D ∉ m1.h := fun z => h1.notin hD (.inr z)
    exact lc_walk (sv.later (Exw.hide hD (.lst []))) hsub ((he.ext e1).extw (Exw.hide hD (.lst []))) (h1.hide hD (.lst [])) ⟨rfl, [], upd_same, .nil⟩ hL
      (fun m ρ1 σ1 H μ acc acc1 μ1 Nx a1 a2 a3 a4 a5 => lc_one a1 a2 a3 a4 a5) fun m2 H2 a1 a2 a3 a4 => lc_end (a4 m1 H1 (.start hD _) hD) hD hn a1 a2 g1
theorem mLc (hc : X.calm = true) (hN : X.N.Nodup) (hi : MI X ct Z tg iter di) (ok : BlkOk X.N X.env.scope scope own) (hsub : ∀ j ∈ us, j ∈ own.map (·.2))
    (hg : ∀ (s : Shared) (H : Hp) (C : Addr) (cl : List (Str × Addr)) (fp : List Addr), MG (X.blk s H scope (compEnvC scope cl C X.env) fp) tg g us) (ht : ∀ (s : Shared) (H : Hp) (C : Addr) (cl : List (Str × Addr)) (fp : List Addr), MP (X.blk s H scope (compEnvC scope cl C X.env) fp) ct ZF ifs dt)
    (he : ∀ (s : Shared) (H : Hp) (C : Addr) (cl : List (Str × Addr)) (fp : List Addr), ME (X.blk s H scope (compEnvC scope cl C X.env) fp) ct ZF elt de) (hs : ∀ x, foldedSetIterable iter X.env x = pure x := by intro _; rfl) :
    ME X ct Z (.ListComp elt [⟨tg, iter, ifs, 0⟩] scope pos) (dLc ow di g dt de (own.map (·.2))) :=
  ⟨pe_imp (pe_lc hc hN hi.pi ok (fun s H C cl fp => (hg s H C cl fp).pg) (fun s H C cl fp => (ht s H C cl fp).pp) (fun s H C cl fp => (he s H C cl fp).pe) hs) fun _ _ _ h => tLc_of hsub h⟩
theorem msSetLc {i : Nat} {y : Str} {py spos : Pos} (hc : X.calm = true) (hN : X.N.Nodup) (hy : X.N[i]? = some y := by rfl) (hyl : X.env.scope.names.lookup y = some .local := by rfl)
    (hsw : swapsWith (.ListComp elt [⟨tg, iter, ifs, 0⟩] scope pos) (some (.Name y py)) spos.line X.env = pure true := by first | exact sw_true rfl rfl rfl (by decide +kernel) | rfl) (hi : MI X ct Z tg iter di) (ok : BlkOk X.N X.env.scope scope own) (hsub : ∀ j ∈ us, j ∈ own.map (·.2))
    (hg : ∀ (s : Shared) (H : Hp) (C : Addr) (cl : List (Str × Addr)) (fp : List Addr), MG (X.blk s H scope (compEnvC scope cl C X.env) fp) tg g us) (ht : ∀ (s : Shared) (H : Hp) (C : Addr) (cl : List (Str × Addr)) (fp : List Addr), MP (X.blk s H scope (compEnvC scope cl C X.env) fp) ct ZF ifs dt)
    (he : ∀ (s : Shared) (H : Hp) (C : Addr) (cl : List (Str × Addr)) (fp : List Addr), ME (X.blk s H scope (compEnvC scope cl C X.env) fp) ct ZF elt de) (hs : ∀ x, foldedSetIterable iter X.env x = pure x := by intro _; rfl) :
    MS X ct Z (.Assign [.Name y py] (.ListComp elt [⟨tg, iter, ifs, 0⟩] scope pos) spos) (sSet i (dLc ow di g dt de (own.map (·.2)))) :=
  ⟨ps_imp (ps_setLc hc hN hy hyl hsw hi.pi ok (fun s H C cl fp => (hg s H C cl fp).pg) (fun s H C cl fp => (ht s H C cl fp).pp) (fun s H C cl fp => (he s H C cl fp).pe) hs) fun _ _ _ h => tLc_of hsub (tSet_of h)⟩
end
end
end Mok05
set_option autoImplicit false
namespace Mok05
variable [Wd]
open PySem PySem.Spec PyProof.Rows L2
section
variable {X : Cx} {ct : Ct} {Z : WX}
section
variable {scope : Scope} {own : List (Str × Nat)} {tg iter tg1 iter1 elt : Expr} {ifs ifs1 : List Expr} {pos : Pos} {di di1 : DI} {g g1 : PyData → Env → Option Env} {us us1 vs1 : List Nat} {dt dt1 : DT} {de : DE} {ow : Bool}
end
end
end Mok05
set_option autoImplicit false
namespace Mok05
variable [Wd]
open PySem PySem.Spec PyProof.Rows L2
def listV : W → Mem → Option (List PyData)
  | .d (.list xs), _ => some xs
  | .r n, μ => match μ[n]? with
    | some (.l xs) => some xs
    | _ => none
  | _, _ => none
theorem listV_ok {K : PySem.W.Frag} {m : Ms} {H : Hp} {μ : Mem} {w : W} {v : V} {xs : List PyData} (r : RV K m H w v) (hh : RH K m H μ) (e : listV w μ = some xs) : ∃ a vs, v = .ref a ∧ H a = some (.lst vs) ∧ DvAll K (Live m) H vs xs := by
  cases w with
  | d x =>
    cases r with
    | lst hs ha => cases e; exact ⟨_, _, rfl, hs.1, ha⟩
    | _ => cases e
  | r n =>
    simp only [listV] at e
    split at e
    · rename_i ys q
      cases e
      obtain ⟨a, vs, h1, rfl, h2, h3⟩ := lst_at r hh q
      exact ⟨a, vs, rfl, h2, h3⟩
    · cases e
  | s ns => cases e
  | e _ _ _ _ => cases e
  | o _ => cases e
def pI (i : Int) (μ : Mem) : Option (W × Mem) := some (.d (.int i), μ)
def pB (b : Bool) (μ : Mem) : Option (W × Mem) := some (.d (.bool b), μ)
theorem GdO.now {K : PySem.W.Frag} {m : Ms} {H : Hp} {w : W} {μ : Mem} {Q : VK} {v : V} (g : GdO K m H (some (w, μ)) Q) (hh : RH K m H μ) (r : RV K m H w v) : Q v H := g m H v (.refl _ _) hh r
def opAdd (own : Bool) : Op
  | [.d (.int i), .d (.int j)], μ => pI (i + j) μ
  | [.d (.str x), .d (.str y)], μ => if x.length + y.length ≤ sizeLine then some (.d (.str (x ++ y)), μ) else none
  | [.d (.tuple xs), .d (.tuple ys)], μ => mkT (xs ++ ys) μ
  | [a, b], μ => match listV a μ, listV b μ with
    | some xs, some ys => mkL own (xs ++ ys) μ
    | _, _ => none
  | _, _ => none
section
variable {X : Cx}
theorem two {K : PySem.W.Frag} {m : Ms} {H : Hp} {ws : List W} {x y : V} (r : RVs K m H ws [x, y]) : ∃ a b, ws = [a, b] ∧ RV K m H a x ∧ RV K m H b y := by
  cases r with
  | cons r1 t =>
    cases t with
    | cons r2 t =>
      cases t
      exact ⟨_, _, rfl, r1, r2⟩
theorem one {K : PySem.W.Frag} {m : Ms} {H : Hp} {ws : List W} {x : V} (r : RVs K m H ws [x]) : ∃ a, ws = [a] ∧ RV K m H a x := by
  cases r with
  | cons r1 t =>
    cases t
    exact ⟨_, rfl, r1⟩
theorem op2_add {own : Bool} : Op2R X (binaryOp .Add) (opAdd own) := by
  intro pins s σ H x y v u Q I rx ry h
  obtain ⟨m, μ, ws, r, hh, g⟩ := h
  obtain ⟨a, b, rfl, r1, r2⟩ := two r
  unfold opAdd at g
  split at g
  · rename_i i j e
    simp only [List.cons.injEq, and_true] at e
    obtain ⟨rfl, rfl⟩ := e
    cases r1
    cases r2
    exact op_add pins s σ H _ _ v u Q I rx ry ⟨i, j, rfl, rfl, g.now hh (.int _)⟩
  · rename_i p q e
    simp only [List.cons.injEq, and_true] at e
    obtain ⟨rfl, rfl⟩ := e
    cases r1
    cases r2
    split at g
    · exact op_add_str pins s σ H _ _ v u Q I rx ry ⟨p, q, rfl, rfl, by assumption, g.now hh (.str _)⟩
    · exact g.elim
  · rename_i xs ys e
    simp only [List.cons.injEq, and_true] at e
    obtain ⟨rfl, rfl⟩ := e
    cases r1 with
    | tup h1 h2 =>
      cases r2 with
      | tup k1 k2 =>
        rename_i a us b vs
        have hl : us.length + vs.length ≤ sizeLine := by
          have := tup_len hh (h2.app k2) g
          simpa using this
        refine op_catF pins s σ H _ _ v u Q I rx ry ⟨a, b, us, vs, rfl, rfl, h1.sq, k1.sq, hl, fun e => ?_, fun e1 e2 => ?_, fun e1 e2 p o hd hp => (tup_new hh (h2.app k2) g hd hp).2⟩
        · subst e
          cases h2
          unfold mkT at g
          split at g
          · exact g.now hh (.tup k1 k2)
          · exact g.elim
        · subst e2
          cases k2
          unfold mkT at g
          split at g
          · refine g.now hh (.tup h1 ?_)
            rw [List.append_nil]
            exact h2
          · exact g.elim
  · rename_i p q e
    rename_i hno1 hno2 hno3
    simp only [List.cons.injEq, and_true] at e
    obtain ⟨rfl, rfl⟩ := e
    split at g
    · rename_i xs ys e1 e2
      obtain ⟨a, us, rfl, h1, h2⟩ := listV_ok r1 hh e1
      obtain ⟨b, vs, rfl, k1, k2⟩ := listV_ok r2 hh e2
      exact op_cat pins s σ H _ _ v u Q I rx ry ⟨a, b, us, vs, rfl, rfl, h1, k1, by simpa using lst_len hh (h2.app k2) g, fun p hp => (lst_new hh (h2.app k2) g hp).2⟩
    · exact g.elim
  · exact g.elim
def opSub : Op
  | [.d (.int i), .d (.int j)], μ => pI (i - j) μ
  | _, _ => none
theorem op2_int {op : Value → Value → Sem Value} {C : Int → Int → Prop} [∀ i j, Decidable (C i j)] {h : Int → Int → Int} (ho : OpR X op (rI C fun i j => .int (h i j))) {f : Op} (hf : ∀ ws μ, f ws μ = match ws with
    | [.d (.int i), .d (.int j)] => if C i j then pI (h i j) μ else none
    | _ => none) : Op2R X op f := by
  intro pins s σ H x y v u Q I rx ry hq
  obtain ⟨m, μ, ws, r, hh, g⟩ := hq
  obtain ⟨a, b, rfl, r1, r2⟩ := two r
  rw [hf] at g
  split at g
  · rename_i i j e
    simp only [List.cons.injEq, and_true] at e
    obtain ⟨rfl, rfl⟩ := e
    cases r1
    cases r2
    split at g
    · exact ho pins s σ H _ _ v u Q I rx ry ⟨i, j, rfl, rfl, by assumption, g.now hh (.int _)⟩
    · exact g.elim
  · exact g.elim
theorem op2_sub : Op2R X (binaryOp .Sub) opSub := by
  intro pins s σ H x y v u Q I rx ry hq
  obtain ⟨m, μ, ws, r, hh, g⟩ := hq
  obtain ⟨a, b, rfl, r1, r2⟩ := two r
  unfold opSub at g
  split at g
  · rename_i i j e
    simp only [List.cons.injEq, and_true] at e
    obtain ⟨rfl, rfl⟩ := e
    cases r1
    cases r2
    exact op_sub pins s σ H _ _ v u Q I rx ry ⟨i, j, rfl, rfl, g.now hh (.int _)⟩
  · exact g.elim
instance (i j : Int) : Decidable (CMulX i j) := by unfold CMulX; infer_instance
instance (i j : Int) : Decidable (CDivW i j) := by unfold CDivW; infer_instance
instance (i j : Int) : Decidable (CPow i j) := by unfold CPow; infer_instance
instance (i j : Int) : Decidable (CShl i j) := by unfold CShl; infer_instance
def opDiv : Op := fun ws μ => match ws with
  | [.d (.int i), .d (.int j)] => if CDivW i j then pI (i / j) μ else none
  | _ => none
theorem op2_div : Op2R X (binaryOp .FloorDiv) opDiv := op2_int op_fdivW fun _ _ => rfl
def opMod : Op := fun ws μ => match ws with
  | [.d (.int i), .d (.int j)] => if 0 < j then pI (i % j) μ else none
  | _ => none
theorem op2_mod : Op2R X (binaryOp .Mod) opMod := op2_int (C := fun _ j => 0 < j) op_mod fun _ _ => rfl
def opPow : Op := fun ws μ => match ws with
  | [.d (.int i), .d (.int j)] => if CPow i j then pI (i ^ j.toNat) μ else none
  | _ => none
theorem op2_pow : Op2R X (binaryOp .Pow) opPow := op2_int op_pow fun _ _ => rfl
def opShl : Op := fun ws μ => match ws with
  | [.d (.int i), .d (.int j)] => if CShl i j then pI (i * 2 ^ j.toNat) μ else none
  | _ => none
theorem op2_int0 {op : Value → Value → Sem Value} {h : Int → Int → Int} (ho : OpR X op (rI0 fun i j => .int (h i j))) {f : Op} (hf : ∀ ws μ, f ws μ = match ws with
    | [.d (.int i), .d (.int j)] => pI (h i j) μ
    | _ => none) : Op2R X op f := by
  intro pins s σ H x y v u Q I rx ry hq
  obtain ⟨m, μ, ws, r, hh, g⟩ := hq
  obtain ⟨a, b, rfl, r1, r2⟩ := two r
  rw [hf] at g
  split at g
  · rename_i i j e
    simp only [List.cons.injEq, and_true] at e
    obtain ⟨rfl, rfl⟩ := e
    cases r1
    cases r2
    exact ho pins s σ H _ _ v u Q I rx ry ⟨i, j, rfl, rfl, g.now hh (.int _)⟩
  · exact g.elim
def opAnd : Op := fun ws μ => match ws with
  | [.d (.int i), .d (.int j)] => pI (Builtin.bitAnd i j) μ
  | _ => none
def opOr : Op := fun ws μ => match ws with
  | [.d (.int i), .d (.int j)] => pI (Builtin.bitOr i j) μ
  | _ => none
def opXor : Op := fun ws μ => match ws with
  | [.d (.int i), .d (.int j)] => pI (Builtin.bitXor i j) μ
  | _ => none
def opNeg : Op := fun ws μ => match ws with
  | [.d (.int i)] => pI (-i) μ
  | _ => none
theorem op1_neg : Op1R X (unaryOp .USub) opNeg := by
  intro pins s σ H x v Q I rx hq
  obtain ⟨m, μ, ws, r, hh, g⟩ := hq
  obtain ⟨a, rfl, r1⟩ := one r
  unfold opNeg at g
  split at g
  · rename_i i e
    simp only [List.cons.injEq, and_true] at e
    subst e
    cases r1
    exact un_neg pins s σ H _ v Q I rx ⟨i, rfl, g.now hh (.int _)⟩
  · exact g.elim
def reps (k : Nat) (xs : List PyData) : List PyData := (List.replicate k xs).flatten
def opMul (own : Bool) : Op
  | [.d (.int i), .d (.int j)], μ => if CMulX i j then pI (i * j) μ else none
  | [.d (.tuple xs), .d (.int k)], μ => if xs ≠ [] ∧ 2 ≤ k ∧ k ≤ 1000 ∧ xs.length ≤ 1000 then some (.d (.tuple (reps k.toNat xs)), μ) else none
  | [a, .d (.int k)], μ => match listV a μ with
    | some xs => if -(2 ^ 63) ≤ k ∧ k < 2 ^ 63 ∧ xs.length * k.toNat ≤ sizeLine then mkL own (reps k.toNat xs) μ else none
    | _ => none
  | _, _ => none
theorem reps_all {K : PySem.W.Frag} {L : Addr → Prop} {H : Hp} {vs : List V} {xs : List PyData} (h : DvAll K L H vs xs) : ∀ k : Nat, DvAll K L H (List.replicate k vs).flatten (reps k xs)
  | 0 => .nil
  | k + 1 => by
    unfold reps
    rw [List.replicate_succ, List.replicate_succ, List.flatten_cons, List.flatten_cons]
    exact h.app (reps_all h k)
def rRepF (K : PySem.W.Frag) : R2 := fun x y H Q => ∃ l k xs, x = .ref l ∧ y = .int k ∧ SqT K H l xs ∧ xs ≠ [] ∧ 2 ≤ k ∧ k ≤ 1000 ∧ xs.length ≤ 1000 ∧ ∀ p o, o.dict = none → H p = none → Q (.ref p) (upd H p (.frz o (.tup (List.replicate k.toNat xs).flatten)))
theorem op_repF : OpR X (binaryOp .Mult) (rRepF X.K) := by
  intro pins s σ H x y v u Q I rx ry h
  obtain ⟨l, k, xs, rfl, rfl, hT, hne, h1, h2, hz, q⟩ := h
  cases rx
  obtain ⟨t, rfl⟩ := ry
  obtain ⟨its, r, ⟨⟨cls, dd, data, sl⟩, ho, hc, n, hd⟩, hs⟩ := I.tuple hT
  simp only at hc hd
  subst hc hd
  have hle : its.length = xs.length := r.length.symm
  have hn : its ≠ [] := fun e => hne (by
    rw [e] at hle
    exact List.eq_nil_of_length_eq_zero hle.symm)
  have hi : its.toArray.isEmpty = false := by
    cases its with
    | nil => exact absurd rfl hn
    | cons a b => rfl
  have hsz0 : its.toArray.size = xs.length := by rw [List.size_toArray, hle]
  have hm : ((its.toArray.size : Nat) : Int) * k ≤ 1000000 := by
    rw [hsz0]
    have a1 : ((xs.length : Nat) : Int) * k ≤ 1000 * k := Int.mul_le_mul_of_nonneg_right (by omega) (by omega)
    omega
  have flen : (List.replicate k.toNat its).flatten.length ≤ sizeLine := by
    rw [PyProof.Rows.lm_len_rep_flat, hle, sizeLine_eq]
    have a1 : k.toNat * xs.length ≤ 1000 * 1000 := Nat.mul_le_mul (by omega) hz
    omega
  have c0 : (decide (k < -(2 ^ 63)) || decide (k ≥ 2 ^ 63)) = false := by
    rw [decide_eq_false (by omega), decide_eq_false (by omega)] <;> rfl
  have c1 : (its.toArray.isEmpty || k == 1) = false := by
    rw [hi, Bool.false_or]
    exact beq_eq_false_iff_ne.mpr (by omega)
  have c2 : (decide (k ≤ 0) || its.toArray.isEmpty) = false := by
    rw [hi, Bool.or_false]
    exact decide_eq_false (by omega)
  have c4 : Builtin.Tuple.tupleTooMany (((its.toArray.size : Nat) : Int) * k) = false := by
    unfold Builtin.Tuple.tupleTooMany
    rw [sizeLine_eq]
    exact decide_eq_false (by omega)
  refine wpAny_binaryOp_repeat_ref (T := "tuple") (U := "int") (by decide) ⟨_, ho, rfl⟩ (fun s' => typeIs_int s' k t) noFill_tuple_mul F.fills_int_mul F.slot_int_rmul repeat_tuple F.slot_int_index.lookup
    (call_meets F.slot_int_rmul (typeIs_int s k t) F.entry_int_rmul (F.args_int_rmul_2 _ _) (int_rmul_tuple k t l its.toArray n dd sl)
      ⟨ho, rfl, ⟨_, ho, rfl⟩, call_meets F.slot_tuple_mul ⟨_, ho, rfl⟩ F.entry_tuple_mul (F.args_tuple_mul_2 _ _) (tuple_mulW l its.toArray n dd sl k t c0 c1 c2 (by omega) c4 (by rw [size_rep, List.size_toArray]; exact flen)) ⟨ho, ?_⟩⟩)
  rw [size_rep]
  refine ⟨.ref s.heap.objs.size, _, I.laid (t' := s.toks) (o := .frz { cls := .type "tuple", data := .seq (List.replicate k.toNat its).flatten.toArray } (.tup (List.replicate k.toNat xs).flatten)) (fun b ob q => Heap.get?_push_of_some _ q) (Nat.le_refl _) ?_, rfl, q _ _ rfl (I.hok.fresh (Nat.le_refl _))⟩
  exact ⟨Heap.get?_push_size _ rfl, by rw [PyProof.Rows.lm_len_rep_flat, sizeLine_eq]; have a1 : k.toNat * xs.length ≤ 1000 * 1000 := Nat.mul_le_mul (by omega) hz; omega, _, r.rep k.toNat, IsTup.new _ _⟩
theorem op2_mul {own : Bool} : Op2R X (binaryOp .Mult) (opMul own) := by
  intro pins s σ H x y v u Q I rx ry h
  obtain ⟨m, μ, ws, r, hh, g⟩ := h
  obtain ⟨a, b, rfl, r1, r2⟩ := two r
  unfold opMul at g
  split at g
  · rename_i i j e
    simp only [List.cons.injEq, and_true] at e
    obtain ⟨rfl, rfl⟩ := e
    cases r1
    cases r2
    split at g
    · exact op_mulX pins s σ H _ _ v u Q I rx ry ⟨i, j, rfl, rfl, by assumption, g.now hh (.int _)⟩
    · exact g.elim
  · rename_i xs k e
    simp only [List.cons.injEq, and_true] at e
    obtain ⟨rfl, rfl⟩ := e
    cases r2
    cases r1 with
    | tup h1 h2 =>
      rename_i a us
      split at g
      · rename_i hc
        have hl := h2.len
        refine op_repF pins s σ H _ _ v u Q I rx ry ⟨a, k, us, rfl, rfl, h1.sq, fun z => hc.1 (by subst z; cases h2; rfl), hc.2.1, hc.2.2.1, by rw [hl]; exact hc.2.2.2, fun p o hd hp => ?_⟩
        exact g m _ _ (.laid hp _) (hh.laid hp _) (.tup (.new hd) ((reps_all h2 _).stay (Ext.laid hp _).ks))
      · exact g.elim
  · rename_i p k hno1 hno2 e
    simp only [List.cons.injEq, and_true] at e
    obtain ⟨rfl, rfl⟩ := e
    cases r2
    split at g
    · rename_i xs e1
      obtain ⟨a, us, rfl, h1, h2⟩ := listV_ok r1 hh e1
      split at g
      · rename_i hc
        exact op_rep pins s σ H _ _ v u Q I rx ry ⟨a, k, us, rfl, rfl, h1, hc.1, hc.2.1, by rw [h2.len]; exact hc.2.2, fun p hp => (lst_new hh (reps_all h2 _) g hp).2⟩
      · exact g.elim
    · exact g.elim
  · exact g.elim
def Op2I (X : Cx) (op : Operator) (f : Op) : Prop := PIp X op fun v u H Q => rN X.K f [v, u] H Q
theorem ip_int0 {op : Operator} {h : Int → Int → Int} (ho : OpR X (inplaceOp op) (rI0 fun i j => .int (h i j))) {f : Op} (hf : ∀ ws μ, f ws μ = match ws with
    | [.d (.int i), .d (.int j)] => pI (h i j) μ
    | _ => none) : Op2I X op f := op2_int0 (op := inplaceOp op) ho hf
def opIAdd : Op := fun ws μ => match ws with
  | [.d (.int i), .d (.int j)] => pI (i + j) μ
  | _ => none
theorem opi_add : Op2I X .Add opIAdd := ip_int0 iop_add fun _ _ => rfl
instance (i j : Int) : Decidable (CMul i j) := by unfold CMul; infer_instance
end
end Mok05
set_option autoImplicit false
namespace Mok05
variable [Wd]
open PySem PySem.Spec PyProof.Rows L2
def peek : W → Mem → Option PyData
  | .d x, _ => some x
  | .r n, μ => match μ[n]? with
    | some (.l xs) => some (.list xs)
    | some (.k kvs) => some (.dict kvs)
    | _ => none
  | .s _, _ => none
  | .e _ _ _ _, _ => none
  | .o _, _ => none
abbrev L0 : Addr → Prop := fun _ => False
theorem keeps0 {L : Addr → Prop} {H : Hp} : Keeps L H L0 H := keeps_less fun _ h => h.elim
theorem peek_ok {K : PySem.W.Frag} {m : Ms} {H : Hp} {μ : Mem} {w : W} {v : V} {x : PyData} (r : RV K m H w v) (hh : RH K m H μ) (e : peek w μ = some x) : Dv K L0 H v x := by
  cases w with
  | d y =>
    cases e
    exact Dv.stay r keeps0
  | r n =>
    simp only [peek] at e
    split at e
    · rename_i ys q
      cases e
      obtain ⟨a, vs, h1, rfl, h2, h3⟩ := lst_at r hh q
      exact .lst ⟨h2, id⟩ (h3.stay keeps0)
    · rename_i kvs q
      cases e
      obtain ⟨l, a, h1, h2, rfl, a', h4, us, h5, h6⟩ := ref_at r hh q (by intro z; cases z)
      cases h4
      cases h2
      exact .dK (.inl h5) id (DvK.stay' keeps0 h6)
    · cases e
  | s ns => cases e
  | e _ _ _ _ => cases e
  | o _ => cases e
theorem shaped_lay {d : PyData} (h : SeqAt.shaped d = true) : d.canLay0 = true := SeqAt.canLay_of_shaped h
def bothS : PyData → PyData → Bool
  | .str _, .str _ => true
  | _, _ => false
def opEq (neg : Bool) : Op
  | [a, b], μ => match peek a μ, peek b μ with
    | some x, some y => if (bothS x y || (SeqAt.shaped x && SeqAt.shaped y)) = true then pB (if neg = true then !PyData.eqv x y else PyData.eqv x y) μ else none
    | _, _ => none
  | _, _ => none
theorem eqv_strs {x y : Str} : PyData.eqv (.str x) (.str y) = decide (V.str x = V.str y) := by
  have e : PyData.eqv (.str x) (.str y) = (x == y) := by simp [PyData.eqv]
  rw [e]
  by_cases h : x = y
  · subst h; simp
  · have n : ¬ V.str x = V.str y := fun z => h (V.str.inj z)
    simp [h]
section
variable {X : Cx}
theorem op2_eq (hu : X.A.units + 64 < cLine) : Op2R X (compareOp .Eq) (opEq false) := by
  intro pins s σ H x y v u Q I rx ry h
  obtain ⟨m, μ, ws, r, hh, g⟩ := h
  obtain ⟨a, b, rfl, r1, r2⟩ := two r
  unfold opEq at g
  dsimp only at g
  split at g
  · rename_i p q e1 e2
    split at g
    · rename_i hs
      rw [Bool.or_eq_true, Bool.and_eq_true] at hs
      rcases hs with hs | hs
      · cases p <;> cases q <;> first | (cases hs; done) | skip
        cases peek_ok r1 hh e1
        cases peek_ok r2 hh e2
        rw [eqv_strs] at g
        exact op_eq pins s σ H _ _ v u Q I rx ry ⟨rfl, g.now hh (.bl _)⟩
      · exact op_eqD hu pins s σ H _ _ v u Q I rx ry ⟨p, q, (peek_ok r1 hh e1).dp (shaped_lay hs.1), (peek_ok r2 hh e2).dp (shaped_lay hs.2), hs.1, hs.2, g.now hh (.bl _)⟩
    · exact g.elim
  · exact g.elim
theorem op2_ne (hu : X.A.units + 64 < cLine) : Op2R X (compareOp .NotEq) (opEq true) := by
  intro pins s σ H x y v u Q I rx ry h
  obtain ⟨m, μ, ws, r, hh, g⟩ := h
  obtain ⟨a, b, rfl, r1, r2⟩ := two r
  unfold opEq at g
  dsimp only at g
  split at g
  · rename_i p q e1 e2
    split at g
    · rename_i hs
      rw [Bool.or_eq_true, Bool.and_eq_true] at hs
      rcases hs with hs | hs
      · cases p <;> cases q <;> first | (cases hs; done) | skip
        cases peek_ok r1 hh e1
        cases peek_ok r2 hh e2
        rw [eqv_strs] at g
        exact op_ne pins s σ H _ _ v u Q I rx ry ⟨rfl, g.now hh (.bl _)⟩
      · exact op_neD hu pins s σ H _ _ v u Q I rx ry ⟨p, q, (peek_ok r1 hh e1).dp (shaped_lay hs.1), (peek_ok r2 hh e2).dp (shaped_lay hs.2), hs.1, hs.2, g.now hh (.bl _)⟩
    · exact g.elim
  · exact g.elim
def isN : W → Bool
  | .d .none => true
  | _ => false
theorem isN_ok {K : PySem.W.Frag} {m : Ms} {H : Hp} {μ : Mem} {w : W} {v : V} (r : RV K m H w v) (hh : RH K m H μ) (hd : ∀ n, w = .r n → ∃ o, μ[n]? = some o ∧ o ≠ .dead) : decide (v = .non) = isN w := by
  cases w with
  | d x => cases r <;> rfl
  | r n =>
    obtain ⟨o, h1, h2⟩ := hd n rfl
    obtain ⟨l, a, _, _, rfl, _⟩ := ref_at r hh h1 h2
    rfl
  | s ns =>
    obtain ⟨a, rfl, _⟩ := r
    rfl
  | e a d C x =>
    obtain ⟨rfl, _⟩ := r
    rfl
  | o t =>
    cases t with
    | fn f c q ρ σ =>
      obtain ⟨rfl, _⟩ := r
      rfl
    | st xs =>
      obtain ⟨a, L, rfl, _⟩ := r
      rfl
    | gf x =>
      obtain ⟨f, rfl, _⟩ := r
      rfl
def there : W → Mem → Bool
  | .r n, μ => match μ[n]? with
    | some .dead => false
    | some _ => true
    | none => false
  | _, _ => true
theorem there_ok {w : W} {μ : Mem} (h : there w μ = true) : ∀ n, w = .r n → ∃ o, μ[n]? = some o ∧ o ≠ .dead := by
  rintro n rfl
  simp only [there] at h
  split at h
  · cases h
  · rename_i o _ e
    exact ⟨_, e, ‹_›⟩
  · cases h
def opIs (neg : Bool) : Op
  | [a, .d .none], μ => if there a μ = true then pB (if neg = true then !isN a else isN a) μ else none
  | [.d (.bool a), .d (.bool b)], μ => pB (if neg = true then !(a == b) else a == b) μ
  | _, _ => none
theorem op2_is : Op2R X (compareOp .Is) (opIs false) := by
  intro pins s σ H x y v u Q I rx ry h
  obtain ⟨m, μ, ws, r, hh, g⟩ := h
  obtain ⟨a, b, rfl, r1, r2⟩ := two r
  unfold opIs at g
  split at g
  · rename_i p e
    simp only [List.cons.injEq, and_true] at e
    obtain ⟨rfl, rfl⟩ := e
    cases r2
    split at g
    · rename_i ht
      refine op_isN pins s σ H _ _ v u Q I rx ry ⟨rfl, ?_⟩
      rw [isN_ok r1 hh (there_ok ht)]
      exact g.now hh (.bl _)
    · exact g.elim
  · rename_i p q e
    simp only [List.cons.injEq, and_true] at e
    obtain ⟨rfl, rfl⟩ := e
    cases r1
    cases r2
    refine op_is_bl pins s σ H _ _ v u Q I rx ry ⟨p, q, rfl, rfl, ?_⟩
    have : decide (p = q) = (p == q) := by cases p <;> cases q <;> rfl
    rw [this]
    exact g.now hh (.bl _)
  · exact g.elim
theorem op2_isnot : Op2R X (compareOp .IsNot) (opIs true) := by
  intro pins s σ H x y v u Q I rx ry h
  obtain ⟨m, μ, ws, r, hh, g⟩ := h
  obtain ⟨a, b, rfl, r1, r2⟩ := two r
  unfold opIs at g
  split at g
  · rename_i p e
    simp only [List.cons.injEq, and_true] at e
    obtain ⟨rfl, rfl⟩ := e
    cases r2
    split at g
    · rename_i ht
      refine op_notN pins s σ H _ _ v u Q I rx ry ⟨rfl, ?_⟩
      rw [isN_ok r1 hh (there_ok ht)]
      exact g.now hh (.bl _)
    · exact g.elim
  · rename_i p q e
    simp only [List.cons.injEq, and_true] at e
    obtain ⟨rfl, rfl⟩ := e
    cases r1
    cases r2
    refine op_isnot_bl pins s σ H _ _ v u Q I rx ry ⟨p, q, rfl, rfl, ?_⟩
    have : decide (p = q) = (p == q) := by cases p <;> cases q <;> rfl
    rw [this]
    exact g.now hh (.bl _)
  · exact g.elim
end
end Mok05
set_option autoImplicit false
namespace Mok05
variable [Wd]
open PySem PySem.Spec PyProof.Rows L2
open PySem.SeqAt (EqAt RcLt)
open PySem.W (keyToks keyToksAll dataLt alike alikeAll)
mutual
def same : PyData → PyData → Bool
  | .none, .none => true
  | .bool a, .bool b => a == b
  | .int a, .int b => a == b
  | .str a, .str b => a == b
  | .list a, .list b => sames a b
  | .tuple a, .tuple b => sames a b
  | _, _ => false
def sames : List PyData → List PyData → Bool
  | [], [] => true
  | x :: xs, y :: ys => same x y && sames xs ys
  | _, _ => false
end
mutual
theorem same_eq : ∀ (x y : PyData), same x y = true → x = y
  | .none, y, h => by cases y <;> simp [same] at h ⊢
  | .bool a, y, h => by cases y <;> simp [same] at h ⊢; exact h
  | .int a, y, h => by cases y <;> simp [same] at h ⊢; exact h
  | .str a, y, h => by cases y <;> simp [same] at h ⊢; exact h
  | .list a, y, h => by cases y <;> simp [same] at h ⊢; exact sames_eq _ _ h
  | .tuple a, y, h => by cases y <;> simp [same] at h ⊢; exact sames_eq _ _ h
  | .dict a, y, h => by cases y <;> simp [same] at h
theorem sames_eq : ∀ (x y : List PyData), sames x y = true → x = y
  | [], y, h => by cases y <;> simp [sames] at h ⊢
  | x :: xs, y, h => by
    cases y with
    | nil => simp [sames] at h
    | cons y ys =>
      simp only [sames, Bool.and_eq_true] at h
      rw [same_eq _ _ h.1, sames_eq _ _ h.2]
end
mutual
theorem same_refl : ∀ (x : PyData), x.canLay0 = true → same x x = true ∧ PyData.eqv x x = true
  | .none, _ => ⟨rfl, rfl⟩
  | .bool a, _ => by simp [same, PyData.eqv]
  | .int a, _ => by simp [same, PyData.eqv]
  | .str a, _ => by simp [same, PyData.eqv]
  | .list a, h => by
    have := sames_refl a (by simpa [PyData.canLay0] using h)
    simpa [same, PyData.eqv] using this
  | .tuple a, h => by
    have := sames_refl a (by simpa [PyData.canLay0] using h)
    simpa [same, PyData.eqv] using this
  | .dict a, h => by simp [PyData.canLay0] at h
theorem sames_refl : ∀ (x : List PyData), PyData.canLayAll0 x = true → sames x x = true ∧ PyData.eqvAll x x = true
  | [], _ => ⟨rfl, rfl⟩
  | x :: xs, h => by
    simp only [PyData.canLayAll0, Bool.and_eq_true] at h
    have h1 := same_refl x h.1
    have h2 := sames_refl xs h.2
    simp [sames, PyData.eqvAll, h1, h2]
end
mutual
def cmpOk : PyData → PyData → Bool
  | .bool _, .bool _ => true
  | .int _, .int _ => true
  | .str _, .str _ => true
  | .tuple xs, .tuple ys => cmpOks xs ys
  | _, _ => false
def cmpOks : List PyData → List PyData → Bool
  | x :: xs, y :: ys => if same x y = true then cmpOks xs ys else cmpOk x y
  | _, _ => true
end
mutual
theorem cmp_eqv : ∀ (x y : PyData), cmpOk x y = true → same x y = false → PyData.eqv x y = false
  | .bool a, y, h, n => by cases y <;> simp [cmpOk] at h; simpa [same, PyData.eqv] using n
  | .int a, y, h, n => by cases y <;> simp [cmpOk] at h; simpa [same, PyData.eqv] using n
  | .str a, y, h, n => by cases y <;> simp [cmpOk] at h; simpa [same, PyData.eqv] using n
  | .tuple a, y, h, n => by
    cases y <;> simp [cmpOk] at h
    simp only [same] at n
    simpa [PyData.eqv] using cmp_eqvs _ _ h n
  | .none, y, h, _ => by simp [cmpOk] at h
  | .list _, y, h, _ => by simp [cmpOk] at h
  | .dict _, y, h, _ => by simp [cmpOk] at h
theorem cmp_eqvs : ∀ (x y : List PyData), cmpOks x y = true → sames x y = false → PyData.eqvAll x y = false
  | [], [], _, n => by simp [sames] at n
  | [], y :: ys, _, _ => rfl
  | x :: xs, [], _, _ => rfl
  | x :: xs, y :: ys, h, n => by
    simp only [cmpOks] at h
    simp only [PyData.eqvAll]
    split at h
    · rename_i e
      simp only [sames, e, Bool.true_and] at n
      rw [cmp_eqvs xs ys h n, Bool.and_false]
    · rename_i e
      rw [cmp_eqv x y h (by simpa using e), Bool.false_and]
end
theorem str_ne {x y : Str} (h : x ≠ y) : x.cps.toList ≠ y.cps.toList := fun e => h (PySem.W.str_of_cps e)
mutual
theorem tok_split : ∀ (d e : PyData), cmpOk d e = true → same d e = false → ∀ r t, lexLt itemOrd (keyToks d ++ r) (keyToks e ++ t) = lexLt itemOrd (keyToks d) (keyToks e)
  | .str x, e, h, n, r, t => by
    cases e <;> simp [cmpOk] at h
    rename_i y
    have ne : (Sum.inr x.cps.toList : Int ⊕ List Nat) ≠ .inr y.cps.toList := fun e => str_ne (fun e => by subst e; simp [same] at n) (Sum.inr.inj e)
    simp only [keyToks, List.cons_append, List.nil_append]
    rw [PyProof.Rows.lex_diff (O := itemOrd) ne, PyProof.Rows.lex_diff (O := itemOrd) ne]
  | .int x, e, h, n, r, t => by
    cases e <;> simp [cmpOk] at h
    rename_i y
    have ne : (Sum.inl x : Int ⊕ List Nat) ≠ .inl y := fun e => by cases Sum.inl.inj e; simp [same] at n
    simp only [keyToks, List.cons_append, List.nil_append]
    rw [PyProof.Rows.lex_diff (O := itemOrd) ne, PyProof.Rows.lex_diff (O := itemOrd) ne]
  | .bool x, e, h, n, r, t => by
    cases e <;> simp [cmpOk] at h
    rename_i y
    have ne : (Sum.inl (if x = true then 1 else 0) : Int ⊕ List Nat) ≠ .inl (if y = true then 1 else 0) := fun e => by
      cases x <;> cases y <;> simp [same] at n e
    simp only [keyToks, List.cons_append, List.nil_append]
    rw [PyProof.Rows.lex_diff (O := itemOrd) ne, PyProof.Rows.lex_diff (O := itemOrd) ne]
  | .tuple xs, e, h, n, r, t => by
    cases e <;> simp [cmpOk] at h
    simp only [keyToks]
    exact toks_split xs _ h (by simpa [same] using n) r t
  | .none, _, h, _, _, _ => by simp [cmpOk] at h
  | .list _, _, h, _, _, _ => by simp [cmpOk] at h
  | .dict _, _, h, _, _, _ => by simp [cmpOk] at h
theorem toks_split : ∀ (xs ys : List PyData), cmpOks xs ys = true → sames xs ys = false → ∀ r t, lexLt itemOrd (keyToksAll xs ++ r) (keyToksAll ys ++ t) = lexLt itemOrd (keyToksAll xs) (keyToksAll ys)
  | [], [], _, h, _, _ => by simp [sames] at h
  | [], y :: ys, _, _, r, t => by
    simp only [keyToksAll, List.cons_append, List.nil_append]
    rw [PyProof.Rows.lex_diff (O := itemOrd) (by simp), PyProof.Rows.lex_diff (O := itemOrd) (by simp)]
  | x :: xs, [], _, _, r, t => by
    simp only [keyToksAll, List.cons_append, List.nil_append]
    rw [PyProof.Rows.lex_diff (O := itemOrd) (by simp), PyProof.Rows.lex_diff (O := itemOrd) (by simp)]
  | x :: xs, y :: ys, h, n, r, t => by
    simp only [cmpOks] at h
    simp only [keyToksAll, List.cons_append, List.append_assoc]
    rw [PyProof.Rows.lex_self (O := itemOrd), PyProof.Rows.lex_self (O := itemOrd)]
    split at h
    · rename_i e
      have e' := same_eq _ _ e
      subst e'
      rw [PySem.W.lex_pre, PySem.W.lex_pre]
      exact toks_split xs ys h (by simpa [sames, e] using n) r t
    · rename_i e
      have e : same x y = false := by simpa using e
      rw [tok_split x y h e, tok_split x y h e]
end
theorem lt_same {x : PyData} {xs ys : List PyData} : lexLt itemOrd (keyToksAll (x :: xs)) (keyToksAll (x :: ys)) = lexLt itemOrd (keyToksAll xs) (keyToksAll ys) := by
  simp only [keyToksAll]
  rw [PyProof.Rows.lex_self (O := itemOrd), PySem.W.lex_pre]
theorem lt_diff {x y : PyData} {xs ys : List PyData} (h : cmpOk x y = true) (n : same x y = false) : lexLt itemOrd (keyToksAll (x :: xs)) (keyToksAll (y :: ys)) = dataLt x y := by
  simp only [keyToksAll]
  rw [PyProof.Rows.lex_self (O := itemOrd)]
  exact tok_split x y h n _ _
theorem lt0 (y : PyData) (ys : List PyData) : lexLt itemOrd (keyToksAll []) (keyToksAll (y :: ys)) = true := by
  simp only [keyToksAll]
  rw [PyProof.Rows.lex_diff (O := itemOrd) (by simp)]
  decide
theorem lt1 (y : PyData) (ys : List PyData) : lexLt itemOrd (keyToksAll (y :: ys)) (keyToksAll []) = false := by
  simp only [keyToksAll]
  rw [PyProof.Rows.lex_diff (O := itemOrd) (by simp)]
  decide
theorem lt_asym (a b : PyData) (h : dataLt a b = true) : dataLt b a = false := by
  rcases SrtO.bcase (dataLt b a) with q | q
  · have := PyProof.Rows.lex_trans (O := itemOrd) _ _ _ h q
    rw [PyProof.Rows.lex_irrefl] at this
    cases this
  · exact q
theorem lt_tr (a b c : PyData) (h1 : dataLt b a = false) (h2 : dataLt c b = false) : dataLt c a = false := by
  rcases SrtO.bcase (dataLt c a) with q | q
  · rcases PyProof.Rows.lex_negTrans (O := itemOrd) _ (keyToks b) _ q with z | z
    · exact absurd (h2.symm.trans z) (by decide)
    · exact absurd (h1.symm.trans z) (by decide)
  · exact q
theorem lt_total {a b : PyData} (h : cmpOk a b = true) (h1 : dataLt a b = false) (h2 : dataLt b a = false) : same a b = true := by
  rcases SrtO.bcase (same a b) with q | q
  · exact q
  · have e := PyProof.Rows.lex_total (O := itemOrd) _ _ h1 h2
    have z := tok_split a b h q [.inl 5] [.inl 7]
    rw [e, PySem.W.lex_pre, PyProof.Rows.lex_irrefl] at z
    exact absurd z (by decide)
inductive Fst (A : Around) (s : Shared) (fin : Bool) : List (Value × Value) → Bool → Prop
  | nil : Fst A s fin [] fin
  | same {p q : Value} {r : List (Value × Value)} {k : Bool} : EqAt A s p q true → Fst A s fin r k → Fst A s fin ((p, q) :: r) k
  | diff {p q : Value} {r : List (Value × Value)} {k : Bool} : EqAt A s p q false → RcLt A s p q k → Fst A s fin ((p, q) :: r) k
section
open PySem.AutoSeq1 in
theorem tup_ltF (l b : Addr) (items items2 : Array Value) (n n2 : Nat) (dd dd2 : Option Addr) (sl sl2 : Array (Option Value)) (k : Bool) :
    Meets (Builtin.«tuple.__lt__» ⟨[.ref l, .ref b], []⟩)
      (fun A R s => s.heap.get? l = some { cls := .type "tuple", dict := dd, data := .seq items n, slots := sl } ∧ s.heap.get? b = some { cls := .type "tuple", dict := dd2, data := .seq items2 n2, slots := sl2 } ∧
        Fst A.in1 s (decide (items.size < items2.size)) (items.toList.zip items2.toList) k ∧ R (.ok (.ret (.bool k))) s) :=
  .of_wp fun prog w A R s h => by
    obtain ⟨hp, g, d, tk, os⟩ := s
    obtain ⟨hl, hb, hf, h⟩ := h
    have f2 := PySem.AutoSeq1.sub_tuple_tuple
    wp_walk using wpAny_loadPart' hl, wpAny_loadPart' hb, wpAny_forIn_list _ (fun rest c s' => c.1 = none ∧ s' = ⟨hp, g, d, tk, os⟩ ∧ Fst A.in1 ⟨hp, g, d, tk, os⟩ (decide (items.size < items2.size)) rest k) _
    case turn =>
      rintro ⟨y, x⟩ rest c s' ⟨hc, rfl, hF⟩
      cases hF with
      | same he hr =>
        refine wpAny_bind (he prog w _ _ ?_)
        wp_walk
        exact ⟨rfl, rfl, hr⟩
      | diff he hr =>
        refine wpAny_bind (he prog w _ _ ?_)
        have hr' := fun E Q => hr prog w E Q
        wp_walk using hr'
        exact ⟨_, rfl, h⟩
    case fin =>
      rintro ⟨c1, c2⟩ s' ⟨hc, rfl, hF⟩
      simp only at hc
      subst hc
      cases hF
      wp_walk
      exact ⟨_, rfl, by simpa [Builtin.Tuple.tupleCompareSizes] using h⟩
    case h =>
      exact ⟨rfl, rfl, hf⟩
end
theorem rc_tupF {A : Around} {s : Shared} {l b : Addr} {items items2 : Array Value} {k : Bool} (hl : s.heap.IsTuple l items) (hb : s.heap.IsTuple b items2) (hu : A.units < cLine)
    (hF : Fst A.in1 s (decide (items.size < items2.size)) (items.toList.zip items2.toList) k) : RcLt A s (.ref l) (.ref b) k := fun prog w E Q h => by
  obtain ⟨⟨cls, dd, data, sl⟩, ho, hc, n, hd⟩ := id hl
  obtain ⟨⟨cls2, dd2, data2, sl2⟩, ho2, hc2, n2, hd2⟩ := id hb
  simp only at hc hd hc2 hd2
  subst hc hd hc2 hd2
  exact PySem.richCompare_meets_room (op := .Lt) ⟨_, ho, rfl⟩ ⟨_, ho2, rfl⟩ F.slot_tuple_lt F.entry_tuple_lt (F.args_tuple_lt_2 _ _) (tup_ltF l b items items2 n n2 dd dd2 sl sl2 k)
    ⟨ho, ho2, hF, show Value.bool k ≠ Value.notImplemented ∧ Q (.bool k) s from ⟨(fun x => nomatch x), h⟩⟩ hu
mutual
theorem rc_data : ∀ (d e : PyData) (A : Around) (s : Shared) (a b : Value) (as bs : List Addr), Reads s.heap a d as → Reads s.heap b e bs → cmpOk d e = true → d.canLay0 = true → e.canLay0 = true → A.units + min d.depth e.depth < cLine → RcLt A s a b (dataLt d e)
  | .str x, e, A, s, a, b, as, bs, ra, rb, h, _, _, hu => by
    cases e <;> simp [cmpOk] at h
    exact PySem.W.rcLt_alike _ _ A s a b as bs ra rb rfl (by simp) hu
  | .int x, e, A, s, a, b, as, bs, ra, rb, h, _, _, hu => by
    cases e <;> simp [cmpOk] at h
    exact PySem.W.rcLt_alike _ _ A s a b as bs ra rb rfl (by simp) hu
  | .bool x, e, A, s, a, b, as, bs, ra, rb, h, _, _, hu => by
    cases e <;> simp [cmpOk] at h
    exact PySem.W.rcLt_alike _ _ A s a b as bs ra rb rfl (by simp) hu
  | .tuple xs, e, A, s, a, b, as, bs, ra, rb, h, l1, l2, hu => by
    cases e <;> simp [cmpOk] at h
    rename_i ys
    cases ra with
    | @tuple l o vs n _ as₁ h1 h2 h3 h4 =>
      cases rb with
      | @tuple l' o' vs' n' _ bs₁ k1 k2 k3 k4 =>
        rw [PySem.W.dataLt_tuple]
        refine rc_tupF ⟨_, h1, h2, _, h3⟩ ⟨_, k1, k2, _, k3⟩ (PySem.SeqAt.room_here hu) ?_
        have := rc_datas xs ys A.in1 s vs.toList vs'.toList _ _ h4 k4 h (by simpa [PyData.canLay0] using l1) (by simpa [PyData.canLay0] using l2) (PySem.SeqAt.room_in hu)
        simpa using this
  | .none, _, _, _, _, _, _, _, _, _, h, _, _, _ => by simp [cmpOk] at h
  | .list _, _, _, _, _, _, _, _, _, _, h, _, _, _ => by simp [cmpOk] at h
  | .dict _, _, _, _, _, _, _, _, _, _, h, _, _, _ => by simp [cmpOk] at h
theorem rc_datas : ∀ (xs ys : List PyData) (A : Around) (s : Shared) (vs ws : List Value) (as bs : List Addr), ReadsAll s.heap vs xs as → ReadsAll s.heap ws ys bs → cmpOks xs ys = true → PyData.canLayAll0 xs = true → PyData.canLayAll0 ys = true →
    A.units + min (PyData.depthAll xs) (PyData.depthAll ys) < cLine → Fst A s (decide (vs.length < ws.length)) (vs.zip ws) (lexLt itemOrd (keyToksAll xs) (keyToksAll ys))
  | [], [], A, s, _, _, _, _, ra, rb, _, _, _, _ => by
    cases ra
    cases rb
    rw [PyProof.Rows.lex_irrefl]
    exact .nil
  | [], y :: ys, A, s, _, _, _, _, ra, rb, _, _, _, _ => by
    cases ra
    cases rb
    rw [lt0]
    simpa using Fst.nil (A := A) (s := s) (fin := true)
  | x :: xs, [], A, s, _, _, _, _, ra, rb, _, _, _, _ => by
    cases ra
    cases rb
    rw [lt1]
    exact .nil
  | x :: xs, y :: ys, A, s, _, _, _, _, ra, rb, hc, l1, l2, hu => by
    simp only [PyData.canLayAll0, Bool.and_eq_true] at l1 l2
    simp only [cmpOks] at hc
    cases ra with
    | cons r rs =>
      cases rb with
      | cons r' rs' =>
        have he := PySem.SeqAt.eqAt_reads x y A s _ _ _ _ r r' l1.1 l2.1 (PySem.SeqAt.room_head hu)
        split at hc
        · rename_i e
          have e' := same_eq _ _ e
          subst e'
          rw [(same_refl x l1.1).2] at he
          rw [lt_same]
          have := rc_datas xs ys A s _ _ _ _ rs rs' hc l1.2 l2.2 (PySem.SeqAt.room_tail hu)
          refine .same he ?_
          have hd : ∀ {v w' : Value} {vs ws : List Value}, decide ((v :: vs).length < (w' :: ws).length) = decide (vs.length < ws.length) := fun {v w' vs ws} => by simp
          rw [hd]
          exact this
        · rename_i e
          have e : same x y = false := by simpa using e
          rw [cmp_eqv x y hc e] at he
          rw [lt_diff hc e]
          exact .diff he (rc_data x y A s _ _ _ _ r r' hc l1.1 l2.1 (PySem.SeqAt.room_head hu))
end
end Mok05
set_option autoImplicit false
namespace Mok05
variable [Wd]
open PySem PySem.Spec PyProof.Rows L2
theorem atI_all {K : PySem.W.Frag} {L : Addr → Prop} {H : Hp} {vs : List V} {xs : List PyData} {i : Int} {x : PyData} (h : DvAll K L H vs xs) (e : atI xs i = some x) : ∃ v, atI vs i = some v ∧ Dv K L H v x := by
  unfold atI at e ⊢
  rw [h.len]
  cases q : ixN xs.length i with
  | none => rw [q] at e; cases e
  | some j =>
    rw [q] at e
    exact h.get e
def seqV : W → Mem → Option (List PyData)
  | .s ns, _ => some (ns.map .int)
  | w, μ => viewL w μ
theorem ints_all {K : PySem.W.Frag} {L : Addr → Prop} {H : Hp} : ∀ ns : List Int, DvAll K L H (ns.map V.int) (ns.map .int)
  | [] => .nil
  | n :: ns => .cons (.int n) (ints_all ns)
theorem seq_ok {K : PySem.W.Frag} {m : Ms} {H : Hp} {μ : Mem} {w : W} {v : V} {xs : List PyData} (r : RV K m H w v) (hh : RH K m H μ) (e : seqV w μ = some xs) : ∃ a vs, v = .ref a ∧ (SqL K H a vs ∨ SqT K H a vs) ∧ DvAll K (Live m) H vs xs := by
  cases w with
  | d x => exact view_ok r hh e
  | r n => exact view_ok r hh e
  | s ns =>
    cases e
    obtain ⟨a, rfl, h⟩ := r
    exact ⟨a, _, rfl, .inl h.sq, ints_all ns⟩
  | e _ _ _ _ => cases e
  | o _ => cases e
def opIx : Op
  | [o, .d (.int i)], μ => match seqV o μ with
    | some xs => match atI xs i with
      | some x => some (.d x, μ)
      | none => none
    | none => match o with
      | .d (.str z) => if sz z.length = true then (match atI z.cps.toList i with
        | some c => some (.d (.str ⟨#[c]⟩), μ)
        | none => none) else none
      | _ => none
  | _, _ => none
section
variable {X : Cx} {ct : Ct} {Z : WX}
theorem ix_op : IxR X (fun x y H Q => rN X.K opIx [x, y] H Q) := by
  intro value slice pins s σ H x y v u Q I rx ry h hs
  obtain ⟨m, μ, ws, r, hh, g⟩ := h
  obtain ⟨a, b, rfl, r1, r2⟩ := two r
  unfold opIx at g
  split at g
  · rename_i o i e
    simp only [List.cons.injEq, and_true] at e
    obtain ⟨rfl, rfl⟩ := e
    cases r2
    split at g
    · rename_i xs e1
      obtain ⟨p, vs, rfl, hq, ha⟩ := seq_ok r1 hh e1
      split at g
      · rename_i x e2
        obtain ⟨z, h1, h2⟩ := atI_all ha e2
        exact ix_seq value slice pins s σ H _ _ v u Q I rx ry (hq.elim (fun q => .inl ⟨p, vs, i, z, rfl, rfl, q, h1, g.now hh h2⟩) fun q => .inr (.inl ⟨p, vs, i, z, rfl, rfl, q, h1, g.now hh h2⟩)) hs
      · exact g.elim
    · split at g
      · split at g
        · rename_i z _ hz
          cases r1
          split at g
          · rename_i c e2
            exact ix_seq value slice pins s σ H _ _ v u Q I rx ry (.inr (.inr ⟨z, i, c, rfl, rfl, sz_le hz, e2, g.now hh (.str _)⟩)) hs
          · exact g.elim
        · exact g.elim
      · exact g.elim
  · exact g.elim
abbrev DO := Env → Mem → Res (Option Int)
def tO (K : PySem.W.Frag) (ct : Ct) (Z : WX) (d : DO) : TO := fun σ H Q => ∃ m ρ μ, EnvR K m H ρ σ ∧ RH K m H μ ∧ Gd K ct Z m σ H (d ρ μ) (fun o _ _ H' => Q o H')
structure MO' (X : Cx) (ct : Ct) (Z : WX) (e : Option Expr) (d : DO) : Prop where
  po : PO X e (tO X.K ct Z d)
theorem po_imp {e : Option Expr} {t t' : TO} (h : PO X e t) (k : ∀ σ H Q, t' σ H Q → t σ H Q) : PO X e t' := ⟨fun pins s σ H Q I q => h.run pins s σ H Q I (k σ H Q q)⟩
def dNo : DO := fun _ μ => .ok none μ
def asI : W → Mem → Res (Option Int)
  | .d (.int i), μ => .ok (some i) μ
  | _, _ => .bad
def dPart (d : DE) : DO := fun ρ μ => bnd (d ρ μ) asI
theorem moNo : MO' X ct Z none dNo := ⟨po_imp po_none fun σ H Q ⟨m, ρ, μ, he, hh, g⟩ => g m H (.refl _ _) hh⟩
theorem moPart {e : Expr} {d : DE} (h : ME X ct Z e d) : MO' X ct Z (some e) (dPart d) := by
  refine ⟨po_imp (po_some h.pe) fun σ H Q h => ?_⟩
  obtain ⟨m, ρ, μ, he, hh, g⟩ := h
  refine ⟨m, ρ, μ, he, hh, (Gd.bnd g).mono fun w μ1 m1 H1 e1 h1 g1 v r1 => ?_⟩
  unfold asI at g1
  split at g1
  · rename_i i
    cases r1
    exact ⟨i, rfl, g1 m1 H1 (.refl _ _) h1⟩
  · exact g1.elim
def cutD {α : Type} (xs : List α) (lo hi : Option Int) : List α := (xs.drop (HT.sIx xs.length 0 lo)).take (HT.sIx xs.length xs.length hi - HT.sIx xs.length 0 lo)
theorem cut_all {K : PySem.W.Frag} {L : Addr → Prop} {H : Hp} {vs : List V} {xs : List PyData} (h : DvAll K L H vs xs) (lo hi : Option Int) : DvAll K L H (cutV vs lo hi) (cutD xs lo hi) := by
  unfold cutV cutD
  rw [h.len]
  exact (h.drop _).take _
def slW (own : Bool) (lo hi : Option Int) : W → Mem → Option (W × Mem)
  | .d (.tuple xs), μ => mkT (cutD xs lo hi) μ
  | .d (.str z), μ => if sz z.length = true then some (.d (.str (cutS z lo hi)), μ) else none
  | .s ns, μ => mkL own ((cutD ns lo hi).map .int) μ
  | w, μ => match listV w μ with
    | some xs => mkL own (cutD xs lo hi) μ
    | none => none
def rSl (K : PySem.W.Frag) (own : Bool) : V → Option Int → Option Int → Hp → VK → Prop := fun x lo hi H Q => ∃ m μ w, RV K m H w x ∧ RH K m H μ ∧ GdO K m H (slW own lo hi w μ) Q
theorem cut_map (ns : List Int) (lo hi : Option Int) : cutV (ns.map V.int) lo hi = (cutD ns lo hi).map V.int := by
  unfold cutV cutD
  simp
theorem cut_len {α : Type} (xs : List α) (lo hi : Option Int) : (cutD xs lo hi).length ≤ xs.length := by
  unfold cutD
  rw [List.length_take, List.length_drop]
  omega
theorem cut_whole {xs : List PyData} {lo hi : Option Int} (h : HT.sIx xs.length 0 lo = 0 ∧ HT.sIx xs.length xs.length hi = xs.length) : cutD xs lo hi = xs := by
  unfold cutD
  rw [h.1, h.2]
  simp
theorem sl_op {own : Bool} : SlR X (rSl X.K own) := by
  intro pins s σ H x v vl vu lo hi sl Q I rx hs pl pu h
  obtain ⟨m, μ, w, r, hh, g⟩ := h
  unfold slW at g
  split at g
  · cases r with
    | tup h1 h2 =>
      rename_i a us
      refine sl_tupF pins s σ H _ v vl vu lo hi sl Q I rx hs pl pu ⟨a, us, rfl, h1.sq, fun q => ?_, fun q p o hd hp => (tup_new hh (cut_all h2 lo hi) g hd hp).2⟩
      rw [h2.len] at q
      rw [cut_whole q] at g
      unfold mkT at g
      split at g
      · exact g.now hh (.tup h1 h2)
      · exact g.elim
  · split at g
    · cases r
      exact sl_str pins s σ H _ v vl vu lo hi sl Q I rx hs pl pu ⟨_, rfl, sz_le (by assumption), g.now hh (.str _)⟩
    · exact g.elim
  · rename_i ns _
    obtain ⟨a, rfl, h⟩ := r
    refine sl_list pins s σ H _ v vl vu lo hi sl Q I rx hs pl pu ⟨a, _, rfl, h.sq, fun p hp => ?_⟩
    rw [cut_map]
    exact (lst_new hh (ints_all _) g hp).2
  · split at g
    · rename_i xs e
      obtain ⟨a, us, rfl, h1, h2⟩ := listV_ok r hh e
      exact sl_list pins s σ H _ v vl vu lo hi sl Q I rx hs pl pu ⟨a, us, rfl, .inl (.inl h1), fun p hp => (lst_new hh (cut_all h2 lo hi) g hp).2⟩
    · exact g.elim
def dSl (own : Bool) (da : DE) (dl dh : DO) : DE := fun ρ μ => bnd (da ρ μ) fun x μ1 => bnd (dl ρ μ1) fun lo μ2 => bnd (dh ρ μ2) fun hi μ3 => ofO (slW own lo hi x μ3)
theorem mSl {own : Bool} {e : Expr} {lo hi : Option Expr} {p2 pos : Pos} {da : DE} {dl dh : DO} (ha : ME X ct Z e da) (hl : MO' X ct Z lo dl) (hu : MO' X ct Z hi dh) : ME X ct Z (.Subscript e (.Slice lo hi none p2) pos) (dSl own da dl dh) := by
  refine ⟨pe_imp (pe_slice (sl_op (own := own)) ha.pe hl.po hu.po) fun σ H Q h => ?_⟩
  obtain ⟨m, ρ, μ, he, hh, g⟩ := h
  refine ⟨m, ρ, μ, he, hh, (Gd.bnd g).mono fun w μ1 m1 H1 e1 h1 g1 v r1 => ⟨m1, ρ, μ1, he.ext e1, h1, (Gd.bnd g1).mono fun l μ2 m2 H2 e2 h2 g2 => ⟨m2, ρ, μ2, (he.ext e1).ext e2, h2, (Gd.bnd g2).mono fun u μ3 m3 H3 e3 h3 g3 => ?_⟩⟩⟩
  refine ⟨m3, μ3, w, (r1.ext e2).ext e3, h3, ?_⟩
  unfold GdO
  cases q : slW own l u w μ3 with
  | none => rw [q] at g3; exact g3
  | some p => rw [q] at g3; exact fun m' H' v e' h' r' => g3 m' H' e' h' v r'
def CallO (X : Cx) (f : Value) (o : Op) : Prop := CallR X f fun vs H Q => rN X.K o vs H Q
theorem mCallB {e : Expr} {es : List Expr} {x : Str} {id : String} {p pos : Pos} {o : Op} {da : DA} (hc : CallO X (.builtin id) o) (ha : MA X ct Z (e :: es) da) (hm : X.mg x = none) (hg : Gl X x := by rfl) (hv : bootBuiltins x = some (.builtin id) := by decide +kernel)
    (he : starEach (e :: es) X.env = (false, eval e X.env) :: starEach es X.env := by rfl) (hpl : (backTo pos (starEach es X.env)).any (·.1) = false := by rfl) (hn : x ≠ "__name__" := by decide) (hdb : (x == ("__debug__" : Str)) = false := by decide) : ME X ct Z (.Call (.Name x p) (e :: es) [] pos) (dPn o da) :=
  ⟨pe_imp (pe_callB hc hg hm hv ha.pa hn hdb he hpl) fun _ _ _ h => tn_of h⟩
theorem mCallT {e : Expr} {es : List Expr} {x : Str} {T : String} {p pos : Pos} {o : Op} {da : DA} (hc : CallO X (.type T) o) (ha : MA X ct Z (e :: es) da) (hm : X.mg x = none) (hg : Gl X x := by rfl) (hv : bootBuiltins x = some (.type T) := by decide +kernel)
    (he : starEach (e :: es) X.env = (false, eval e X.env) :: starEach es X.env := by rfl) (hpl : (backTo pos (starEach es X.env)).any (·.1) = false := by rfl) (hn : x ≠ "__name__" := by decide) (hdb : (x == ("__debug__" : Str)) = false := by decide) : ME X ct Z (.Call (.Name x p) (e :: es) [] pos) (dPn o da) :=
  ⟨pe_imp (pe_callTy hc hg hm hv ha.pa hn hdb he hpl) fun _ _ _ h => tn_of h⟩
def opLen : Op
  | [w], μ => match seqV w μ with
    | some xs => pI xs.length μ
    | none => match w with
      | .d (.str z) => if sz z.length = true then pI z.length μ else none
      | _ => none
  | _, _ => none
theorem len_op : CallO X (.builtin "len") opLen := by
  intro pins s σ H xs us Q I r h
  obtain ⟨m, μ, ws, rr, hh, g⟩ := h
  unfold opLen at g
  split at g
  · rename_i w
    cases rr with
    | cons r1 t =>
      cases t
      rename_i v
      split at g
      · rename_i ys e
        obtain ⟨a, vs, rfl, hq, ha⟩ := seq_ok r1 hh e
        refine call_len_seq pins s σ H _ us Q I r ⟨a, vs, rfl, hq, ?_⟩
        rw [ha.len]
        exact g.now hh (.int _)
      · split at g
        · split at g
          · cases r1
            exact call_len_str pins s σ H _ us Q I r ⟨_, rfl, sz_le (by assumption), g.now hh (.int _)⟩
          · exact g.elim
        · exact g.elim
  · exact g.elim
def opTuple : Op
  | [.d (.tuple xs)], μ => some (.d (.tuple xs), μ)
  | [w], μ => match seqV w μ with
    | some xs => mkT xs μ
    | none => none
  | [], μ => some (.d (.tuple []), μ)
  | _, _ => none
def opList (own : Bool) : Op
  | [w], μ => match seqV w μ with
    | some xs => mkL own xs μ
    | none => none
  | [], μ => mkL own [] μ
  | _, _ => none
theorem seq_list {K : PySem.W.Frag} {m : Ms} {H : Hp} {μ : Mem} {w : W} {v : V} {xs : List PyData} (r : RV K m H w v) (hh : RH K m H μ) (e : seqV w μ = some xs) (n : ∀ ys, w ≠ .d (.tuple ys)) : ∃ a vs, v = .ref a ∧ SqL K H a vs ∧ DvAll K (Live m) H vs xs := by
  cases w with
  | d x =>
    cases r with
    | lst hs ha => cases e; exact ⟨_, _, rfl, hs.sq, ha⟩
    | tup hs ha => exact (n _ rfl).elim
    | _ => cases e
  | r k =>
    obtain ⟨a, vs, rfl, h1, h2⟩ := listV_ok (w := .r k) r hh e
    exact ⟨a, vs, rfl, .inl (.inl h1), h2⟩
  | s ns =>
    cases e
    obtain ⟨a, rfl, h⟩ := r
    exact ⟨a, _, rfl, h.sq, ints_all ns⟩
  | e _ _ _ _ => cases e
  | o _ => cases e
theorem tuple_op1 {w : W} {v : V} {m : Ms} {μ : Mem} {H : Hp} {pins : List (Addr × Obj)} {s : Shared} {σ : L2.St} {us : List Value} {Q : VK} (I : Inv X pins σ H s) (r : Vals [v] us) (r1 : RV X.K m H w v) (hh : RH X.K m H μ) (g : GdO X.K m H (opTuple [w] μ) Q) :
    wpAny (model X.prog X.w) X.A (call (.type "tuple") us) (EP X pins σ Q) X.xe s := by
  unfold opTuple at g
  split at g
  · rename_i xs e
    simp only [List.cons.injEq, and_true] at e
    subst e
    cases r1 with
    | tup h1 h2 => exact call_tupleF pins s σ H _ us Q I r ⟨_, _, rfl, .inr ⟨h1.sq, g.now hh (.tup h1 h2)⟩⟩
  · rename_i hno e
    simp only [List.cons.injEq, and_true] at e
    subst e
    split at g
    · rename_i xs e
      obtain ⟨a, vs, rfl, hq, ha⟩ := seq_list r1 hh e fun ys q => hno ys (by rw [q])
      exact call_tupleF pins s σ H _ us Q I r ⟨_, _, rfl, .inl ⟨hq, fun p o hd hp => (tup_new hh ha g hd hp).2⟩⟩
    · exact g.elim
  · rename_i e
    cases e
  · exact g.elim
theorem list_op1 {own : Bool} {w : W} {v : V} {m : Ms} {μ : Mem} {H : Hp} {pins : List (Addr × Obj)} {s : Shared} {σ : L2.St} {us : List Value} {Q : VK} (I : Inv X pins σ H s) (r : Vals [v] us) (r1 : RV X.K m H w v) (hh : RH X.K m H μ) (g : GdO X.K m H (opList own [w] μ) Q) :
    wpAny (model X.prog X.w) X.A (call (.type "list") us) (EP X pins σ Q) X.xe s := by
  unfold opList at g
  dsimp only at g
  split at g
  · rename_i xs e
    obtain ⟨a, vs, rfl, hq, ha⟩ := seq_ok r1 hh e
    exact call_list_of pins s σ H _ us Q I r ⟨_, _, rfl, hq, fun p hp => (lst_new hh ha g hp).2⟩
  · exact g.elim
end
end Mok05
set_option autoImplicit false
namespace Mok05
variable [Wd]
open PySem PySem.Spec PyProof.Rows L2
open PySem.W (dataLt)
section
variable {X : Cx} {ct : Ct} {Z : WX}
def opIn (neg : Bool) : Op
  | [a, b], μ => match peek a μ, peek b μ with
    | some x, some (.list ys) => if (SeqAt.shaped x && PyData.canLayAll0 ys) = true then pB (if neg = true then !(ys.any fun y => PyData.eqv y x) else ys.any fun y => PyData.eqv y x) μ else none
    | some x, some (.tuple ys) => if (SeqAt.shaped x && PyData.canLayAll0 ys) = true then pB (if neg = true then !(ys.any fun y => PyData.eqv y x) else ys.any fun y => PyData.eqv y x) μ else none
    | some (.str x), some (.str y) => pB (if neg = true then !!(Builtin.Str.occurrences y x 0 y.length 1).isEmpty else !(Builtin.Str.occurrences y x 0 y.length 1).isEmpty) μ
    | _, _ => none
  | _, _ => none
theorem shaped_dep {x : PyData} (h : SeqAt.shaped x = true) : x.depth ≤ 64 := by
  unfold SeqAt.shaped at h
  rw [Bool.and_eq_true] at h
  simpa using h.2
theorem op2_in (hu : X.A.units + 66 < cLine) : Op2R X (compareOp .In) (opIn false) := by
  intro pins s σ H x y v u Q I rx ry h
  obtain ⟨m, μ, ws, r, hh, g⟩ := h
  obtain ⟨a, b, rfl, r1, r2⟩ := two r
  unfold opIn at g
  dsimp only at g
  split at g
  · rename_i p ys e1 e2
    split at g
    · rename_i hs
      rw [Bool.and_eq_true] at hs
      obtain ⟨as, k1⟩ := Dp.reads I _ _ _ ((peek_ok r1 hh e1).dp (shaped_lay hs.1)) rx
      obtain ⟨bs, k2⟩ := Dp.reads I _ _ _ ((peek_ok r2 hh e2).dp (by simpa [PyData.canLay0] using hs.2)) ry
      refine SeqAt.in_list_reads k2 k1 hs.2 (shaped_lay hs.1) ?_ ⟨.bl _, H, I, rfl, g.now hh (.bl _)⟩
      have := Nat.min_le_right (PyData.depthAll ys) p.depth
      have := shaped_dep hs.1
      omega
    · exact g.elim
  · rename_i p ys e1 e2
    split at g
    · rename_i hs
      rw [Bool.and_eq_true] at hs
      obtain ⟨as, k1⟩ := Dp.reads I _ _ _ ((peek_ok r1 hh e1).dp (shaped_lay hs.1)) rx
      obtain ⟨bs, k2⟩ := Dp.reads I _ _ _ ((peek_ok r2 hh e2).dp (by simpa [PyData.canLay0] using hs.2)) ry
      refine SeqAt.in_tuple_reads k2 k1 hs.2 (shaped_lay hs.1) ?_ ⟨.bl _, H, I, rfl, g.now hh (.bl _)⟩
      have := Nat.min_le_right (PyData.depthAll ys) p.depth
      have := shaped_dep hs.1
      omega
    · exact g.elim
  · rename_i p q e1 e2
    cases (peek_ok r1 hh e1)
    cases (peek_ok r2 hh e2)
    exact op_in_str pins s σ H _ _ v u Q I rx ry ⟨p, q, rfl, rfl, g.now hh (.bl _)⟩
  · exact g.elim
theorem op2_notin (hu : X.A.units + 66 < cLine) : Op2R X (compareOp .NotIn) (opIn true) := by
  intro pins s σ H x y v u Q I rx ry h
  obtain ⟨m, μ, ws, r, hh, g⟩ := h
  obtain ⟨a, b, rfl, r1, r2⟩ := two r
  unfold opIn at g
  dsimp only at g
  split at g
  · rename_i p ys e1 e2
    split at g
    · rename_i hs
      rw [Bool.and_eq_true] at hs
      obtain ⟨as, k1⟩ := Dp.reads I _ _ _ ((peek_ok r1 hh e1).dp (shaped_lay hs.1)) rx
      obtain ⟨bs, k2⟩ := Dp.reads I _ _ _ ((peek_ok r2 hh e2).dp (by simpa [PyData.canLay0] using hs.2)) ry
      refine SeqAt.notIn_list_reads k2 k1 hs.2 (shaped_lay hs.1) ?_ ⟨.bl _, H, I, rfl, g.now hh (.bl _)⟩
      have := Nat.min_le_right (PyData.depthAll ys) p.depth
      have := shaped_dep hs.1
      omega
    · exact g.elim
  · rename_i p ys e1 e2
    split at g
    · rename_i hs
      rw [Bool.and_eq_true] at hs
      obtain ⟨as, k1⟩ := Dp.reads I _ _ _ ((peek_ok r1 hh e1).dp (shaped_lay hs.1)) rx
      obtain ⟨bs, k2⟩ := Dp.reads I _ _ _ ((peek_ok r2 hh e2).dp (by simpa [PyData.canLay0] using hs.2)) ry
      refine SeqAt.notIn_tuple_reads k2 k1 hs.2 (shaped_lay hs.1) ?_ ⟨.bl _, H, I, rfl, g.now hh (.bl _)⟩
      have := Nat.min_le_right (PyData.depthAll ys) p.depth
      have := shaped_dep hs.1
      omega
    · exact g.elim
  · rename_i p q e1 e2
    cases (peek_ok r1 hh e1)
    cases (peek_ok r2 hh e2)
    exact op_notin_str pins s σ H _ _ v u Q I rx ry ⟨p, q, rfl, rfl, g.now hh (.bl _)⟩
  · exact g.elim
def opCmp (f : Int → Int → Bool) : Op
  | [.d (.int i), .d (.int j)], μ => pB (f i j) μ
  | _, _ => none
theorem op2_cmp {op : CmpOp} {f : Int → Int → Bool} (ho : OpR X (compareOp op) (rI0 fun i j => .bl (f i j))) : Op2R X (compareOp op) (opCmp f) := by
  intro pins s σ H x y v u Q I rx ry h
  obtain ⟨m, μ, ws, r, hh, g⟩ := h
  obtain ⟨a, b, rfl, r1, r2⟩ := two r
  unfold opCmp at g
  split at g
  · rename_i i j e
    simp only [List.cons.injEq, and_true] at e
    obtain ⟨rfl, rfl⟩ := e
    cases r1
    cases r2
    exact ho pins s σ H _ _ v u Q I rx ry ⟨i, j, rfl, rfl, g.now hh (.bl _)⟩
  · exact g.elim
abbrev opLe : Op := opCmp fun i j => decide (i ≤ j)
abbrev opGt : Op := opCmp fun i j => decide (j < i)
abbrev opGe : Op := opCmp fun i j => decide (j ≤ i)
theorem op2_le : Op2R X (compareOp .LtE) opLe := op2_cmp op_le
theorem op2_gt : Op2R X (compareOp .Gt) opGt := op2_cmp op_gt
theorem op2_ge : Op2R X (compareOp .GtE) opGe := op2_cmp op_ge
def opLt : Op
  | [.d (.int i), .d (.int j)], μ => pB (decide (i < j)) μ
  | [.d x, .d y], μ => if (cmpOk x y && (SeqAt.shaped x && SeqAt.shaped y)) = true then pB (dataLt x y) μ else none
  | _, _ => none
theorem op2_lt (hu : X.A.units + 66 < cLine) : Op2R X (compareOp .Lt) opLt := by
  intro pins s σ H x y v u Q I rx ry h
  obtain ⟨m, μ, ws, r, hh, g⟩ := h
  obtain ⟨a, b, rfl, r1, r2⟩ := two r
  unfold opLt at g
  split at g
  · rename_i i j e
    simp only [List.cons.injEq, and_true] at e
    obtain ⟨rfl, rfl⟩ := e
    cases r1
    cases r2
    exact op_lt pins s σ H _ _ v u Q I rx ry ⟨i, j, rfl, rfl, g.now hh (.bl _)⟩
  · rename_i p q _ e
    simp only [List.cons.injEq, and_true] at e
    obtain ⟨rfl, rfl⟩ := e
    split at g
    · rename_i hs
      rw [Bool.and_eq_true, Bool.and_eq_true] at hs
      obtain ⟨as, k1⟩ := Dp.reads I _ _ _ (Dv.dp r1 (shaped_lay hs.2.1)) rx
      obtain ⟨bs, k2⟩ := Dp.reads I _ _ _ (Dv.dp r2 (shaped_lay hs.2.2)) ry
      refine rc_data p q X.A s v u as bs k1 k2 hs.1 (shaped_lay hs.2.1) (shaped_lay hs.2.2) ?_ _ _ _ _ ⟨.bl _, H, I, rfl, g.now hh (.bl _)⟩
      have := Nat.min_le_right p.depth q.depth
      have := shaped_dep hs.2.2
      omega
    · exact g.elim
  · exact g.elim
def opRepr : Op
  | [w], μ => match peek w μ with
    | some x => if (SeqAt.shaped x && (x.showable && sz x.shown.length)) = true then some (.d (.str x.shown), μ) else none
    | none => none
  | _, _ => none
theorem lay_noDict : ∀ {x : PyData}, x.canLay0 = true → x.hasDict = false := by
  intro x
  refine PyData.rec (motive_1 := fun x => x.canLay0 = true → x.hasDict = false) (motive_2 := fun xs => PyData.canLayAll0 xs = true → PyData.hasDictAll xs = false) (motive_3 := fun _ => True) (motive_4 := fun _ => True) ?_ ?_ ?_ ?_ ?_ ?_ ?_ ?_ ?_ ?_ ?_ ?_ x
  all_goals simp_all [PyData.canLay0, PyData.canLayAll0, PyData.hasDict, PyData.hasDictAll]
theorem repr_op (hgd : X.A.guards = some []) (hu : X.A.units + 66 < cLine) : CallO X (.builtin "repr") opRepr := by
  intro pins s σ H xs us Q I r h
  obtain ⟨m, μ, ws, rr, hh, g⟩ := h
  unfold opRepr at g
  split at g
  · rename_i w
    obtain ⟨v, rfl⟩ : ∃ v, xs = [v] := by
      cases rr with
      | cons _ t => cases t; exact ⟨_, rfl⟩
    have r1 : RV X.K m H w v := by
      cases rr with
      | cons h t => exact h
    split at g
    · rename_i x e
      split at g
      · rename_i hs
        rw [Bool.and_eq_true, Bool.and_eq_true] at hs
        obtain ⟨u, rfl, ru⟩ := vals1 r
        have dp := (peek_ok r1 hh e).dp (shaped_lay hs.1)
        have hz := sz_le hs.2.2
        have q := g.now (v := .str x.shown) hh (.str _)
        cases x with
        | none => cases dp; cases ru; exact PySem.P.repr_of_none ⟨.str _, H, I.tok _, ⟨_, rfl⟩, q⟩
        | bool b => cases dp; cases ru; exact PySem.P.repr_of_bool ⟨.str _, H, I.tok _, ⟨_, rfl⟩, q⟩
        | int i =>
          cases dp
          obtain ⟨t, rfl⟩ := ru
          exact PySem.P.repr_of_int (by simpa [PyData.showable] using hs.2.1) ⟨.str _, H, I.tok _, ⟨_, rfl⟩, q⟩
        | str z =>
          cases dp
          obtain ⟨t, rfl⟩ := ru
          exact PySem.P.repr_of_str ⟨.str _, H, I.tok _, ⟨_, rfl⟩, q⟩ hz
        | list ds =>
          obtain ⟨as, rd⟩ := Dp.reads I _ _ u dp ru
          have hd := shaped_dep hs.1
          have nd := lay_noDict (shaped_lay hs.1)
          cases dp with
          | lst hsq hall =>
            cases ru
            exact repr_of_reads' rd hs.2.1 (fun z => by rw [nd] at z; cases z) hgd (by omega) (fun _ _ e => e) (fun h' u tk hk => ⟨.str _, H, I.kept hk, ⟨_, rfl⟩, q⟩) hz
        | tuple ds =>
          obtain ⟨as, rd⟩ := Dp.reads I _ _ u dp ru
          have hd := shaped_dep hs.1
          have nd := lay_noDict (shaped_lay hs.1)
          cases dp with
          | tup hsq hall =>
            cases ru
            exact repr_of_reads' rd hs.2.1 (fun z => by rw [nd] at z; cases z) hgd (by omega) (fun _ _ e => e) (fun h' u tk hk => ⟨.str _, H, I.kept hk, ⟨_, rfl⟩, q⟩) hz
        | dict _ => exact absurd (shaped_lay hs.1) (by simp [PyData.canLay0])
      · exact g.elim
    · exact g.elim
  · exact g.elim
theorem put_lst {K : PySem.W.Frag} {m : Ms} {H : Hp} {μ : Mem} {n : Nat} {a : Addr} {vs us : List V} {ys : List PyData} (hh : RH K m H μ) (hm : m.v[n]? = some (some [a])) (hH : H a = some (.lst vs)) (ha : DvAll K (Live m) H us ys) :
    Ext m H m (upd H a (.lst us)) ∧ RH K m (upd H a (.lst us)) (μ.set n (.l ys)) := by
  have e : Ext m H m (upd H a (.lst us)) := .put (vl_at hm (by simp)) hH trivial
  exact ⟨e, hh.put hm hH trivial ⟨a, us, rfl, upd_same, ha.stay e.ks⟩⟩
def MtO (X : Cx) (id : String) (o : Op) : Prop := MtR X id fun x xs H Q => rN X.K o (x :: xs) H Q
def tyR (K : PySem.W.Frag) (T : String) (x : V) (H : Hp) : Prop := tyV K T x H ∨ (T = "dict" ∧ ∃ a, x = .ref a ∧ IsD H a) ∨ (T = "tuple" ∧ ∃ a xs, x = .ref a ∧ TpR K H a xs)
theorem tyR_is {pins : List (Addr × Obj)} {σ : L2.St} {H : Hp} {s : Shared} {T : String} {x : V} {v : Value} (I : Inv X pins σ H s) (r : RelV x v) (ty : tyR X.K T x H) :
    s.TypeIs v T ∧ ∀ a, v = .ref a → ∃ ob, s.heap.get? a = some ob ∧ ob.dict = none := by
  rcases ty with ty | ⟨rfl, a, rfl, h⟩ | ⟨rfl, a, xs, rfl, h⟩
  · exact tyV_is I r ty
  · cases r
    obtain ⟨h1, h2, _⟩ := isD_at I h
    exact ⟨h1, h2⟩
  · cases r
    rcases h with ⟨o, h, n⟩ | ⟨o, its, k, h1, h2, h3, _⟩
    · obtain ⟨ho, hz, its, rv, o', ho', hc, k, hdat⟩ := I.hok _ _ h
      obtain rfl : o = o' := Option.some.inj (ho.symm.trans ho')
      refine ⟨⟨o, ho, hc⟩, fun b e => ?_⟩
      cases e
      exact ⟨o, ho, n⟩
    · refine ⟨⟨o, I.kIn a o h1, h2⟩, fun b e => ?_⟩
      cases e
      exact ⟨o, I.kIn _ o h1, h3⟩
def tBR0 (K : PySem.W.Frag) (T : String) (r : V → List V → Hp → VK → Prop) (to : TE) : TE := fun σ H Q => to σ H fun x H1 => tyR K T x H1 ∧ r x [] H1 Q
def tBR (K : PySem.W.Frag) (T : String) (r : V → List V → Hp → VK → Prop) (to : TE) (t : TA) : TE := fun σ H Q => to σ H fun x H1 => tyR K T x H1 ∧ t σ H1 fun xs H2 => r x xs H2 Q
theorem pe_br0 {o : Expr} {to : TE} {name : Str} {apos cpos : Pos} {T id : String} {r : V → List V → Hp → VK → Prop} (pa : PlainAttrs T) (slot : Slot T name id) (hty : typeOf (.builtin id) = pure (.type "method_descriptor")) (hm : MtR X id r) (ho : PE X o to)
    (hbase : attributeBase o name X.env (eval o X.env) = eval o X.env) (hline : (apos.endLine == cpos.line) = true) : PE X (.Call (.Attribute o name apos) [] [] cpos) (tBR0 X.K T r to) := by
  refine ⟨fun pins s σ H Q I h => ?_⟩
  refine wpAny_Call_method0_late hbase hline (thn (ho.run pins s σ H _ I h) fun v s1 ⟨x, H1, I1, r1, ty, q1⟩ => ?_)
  obtain ⟨h1, h2⟩ := tyR_is I1 r1 ty
  exact ⟨T, id, pa, slot, hty, h1, h2, Calls.callWith_builtin rfl (PySem.evalArgs_none (hm pins s1 σ H1 x [] v [] Q I1 r1 .nil q1))⟩
theorem pe_br {o e : Expr} {es : List Expr} {to : TE} {t : TA} {name : Str} {apos cpos : Pos} {T id : String} {r : V → List V → Hp → VK → Prop} (pa : PlainAttrs T) (slot : Slot T name id) (hty : typeOf (.builtin id) = pure (.type "method_descriptor")) (hm : MtR X id r) (ho : PE X o to) (ha : PA X (e :: es) t)
    (hbase : attributeBase o name X.env (eval o X.env) = eval o X.env)
    (hfew : ((backTo cpos (starEach (e :: es) X.env)).all (fun x => !x.1) && (backToKw cpos (keywordEach [] X.env)).all (fun x => x.1.isSome)
      && decide ((e :: es).length + ([] : List Keyword).length + (if ([] : List Keyword).isEmpty then 0 else 1) < 30)) = true)
    (hline : (apos.endLine == cpos.line) = true) (hs : starEach (e :: es) X.env = (false, eval e X.env) :: starEach es X.env) (hplain : (backTo cpos (starEach es X.env)).any (·.1) = false) :
    PE X (.Call (.Attribute o name apos) (e :: es) [] cpos) (tBR X.K T r to t) := by
  refine ⟨fun pins s σ H Q I h => ?_⟩
  refine wpAny_Call_method_late hbase hfew hline rfl (thn (ho.run pins s σ H _ I h) fun v s1 ⟨x, H1, I1, r1, ty, q1⟩ => ?_)
  obtain ⟨h1, h2⟩ := tyR_is I1 r1 ty
  refine ⟨T, id, pa, slot, hty, h1, h2, ?_⟩
  have hA := ha.run cpos pins s1 σ H1 _ I1 q1
  rw [hs] at hA ⊢
  refine Calls.callWith_builtin (by show (false || (backTo cpos (starEach es X.env)).any (·.1)) = false; rw [hplain] <;> rfl) (Calls.evalArgs_plain ?_)
  exact thn hA fun us s2 ⟨vs, H2, I2, r2, q2⟩ => hm pins s2 σ H2 x vs v us Q I2 r1 r2 q2
def tyW (T : String) : W → Mem → Bool
  | .d (.str _), _ => T == "str"
  | .d (.int _), _ => T == "int"
  | .d (.list _), _ => T == "list"
  | .d (.tuple _), _ => T == "tuple"
  | .d (.dict _), _ => T == "dict"
  | .r n, μ => match μ[n]? with
    | some (.l _) => T == "list"
    | some (.k _) => T == "dict"
    | _ => false
  | _, _ => false
theorem tyW_ok {K : PySem.W.Frag} {m : Ms} {H : Hp} {μ : Mem} {w : W} {v : V} {T : String} (r : RV K m H w v) (hh : RH K m H μ) (e : tyW T w μ = true) : tyR K T v H := by
  unfold tyW at e
  split at e
  · cases r; exact .inl (eq_of_beq e)
  · cases r; exact .inl (eq_of_beq e)
  · cases r with
    | lst h1 h2 => exact .inl (.inl ⟨by simpa using e, _, h1.sq⟩)
  · cases r with
    | tup h1 h2 => exact .inr (.inr ⟨by simpa using e, _, _, rfl, h1⟩)
  · cases r with
    | dK h1 h2 h3 => exact .inr (.inl ⟨by simpa using e, _, rfl, .inl ⟨_, h1⟩⟩)
  · rename_i n _
    split at e
    · rename_i xs q
      obtain ⟨a, vs, h1, rfl, h2, h3⟩ := lst_at r hh q
      exact .inl (.inl ⟨by simpa using e, vs, .inl (.inl h2)⟩)
    · rename_i kvs q
      obtain ⟨l, a, h1, h2, rfl, a', h4, us, h5, h6⟩ := ref_at r hh q (by intro z; cases z)
      cases h4
      cases h2
      exact .inr (.inl ⟨by simpa using e, _, rfl, .inl ⟨us, .inl h5⟩⟩)
    · cases e
  · cases e
def dMt (T : String) (f : Op) (da : DE) (db : DA) : DE := fun ρ μ => bnd (da ρ μ) fun x μ1 => if tyW T x μ1 = true then bnd (db ρ μ1) fun ys μ2 => ofO (f (x :: ys) μ2) else .bad
theorem mMt {o e : Expr} {es : List Expr} {name : Str} {apos cpos : Pos} {T id : String} {f : Op} {da : DE} {db : DA} (pa : PlainAttrs T) (slot : Slot T name id) (hty : typeOf (.builtin id) = pure (.type "method_descriptor")) (hm : MtO X id f)
    (ha : ME X ct Z o da) (hb : MA X ct Z (e :: es) db) (hbase : attributeBase o name X.env (eval o X.env) = eval o X.env := by rfl)
    (hfew : ((backTo cpos (starEach (e :: es) X.env)).all (fun x => !x.1) && (backToKw cpos (keywordEach [] X.env)).all (fun x => x.1.isSome)
      && decide ((e :: es).length + ([] : List Keyword).length + (if ([] : List Keyword).isEmpty then 0 else 1) < 30)) = true := by rfl)
    (hline : (apos.endLine == cpos.line) = true := by rfl) (hs : starEach (e :: es) X.env = (false, eval e X.env) :: starEach es X.env := by rfl) (hplain : (backTo cpos (starEach es X.env)).any (·.1) = false := by rfl) :
    ME X ct Z (.Call (.Attribute o name apos) (e :: es) [] cpos) (dMt T f da db) := by
  refine ⟨pe_imp (pe_br pa slot hty hm ha.pe hb.pa hbase hfew hline hs hplain) fun σ H Q h => ?_⟩
  obtain ⟨m, ρ, μ, he, hh, g⟩ := h
  refine ⟨m, ρ, μ, he, hh, (Gd.bnd g).mono fun a μ1 m1 H1 e1 h1 g1 v r1 => ?_⟩
  split at g1
  · rename_i ht
    exact ⟨tyW_ok r1 h1 ht, m1, ρ, μ1, he.ext e1, h1, (Gd.bnd g1).mono fun b μ2 m2 H2 e2 h2 g2 us r2 => rN_of g2 (.cons (r1.ext e2) r2) h2⟩
  · exact g1.elim
theorem mMt0 {o : Expr} {name : Str} {apos cpos : Pos} {T id : String} {f : Op} {da : DE} (pa : PlainAttrs T) (slot : Slot T name id) (hty : typeOf (.builtin id) = pure (.type "method_descriptor")) (hm : MtO X id f)
    (ha : ME X ct Z o da) (hbase : attributeBase o name X.env (eval o X.env) = eval o X.env := by rfl) (hline : (apos.endLine == cpos.line) = true := by rfl) :
    ME X ct Z (.Call (.Attribute o name apos) [] [] cpos) (dMt T f da dNil) := by
  refine ⟨pe_imp (pe_br0 pa slot hty hm ha.pe hbase hline) fun σ H Q h => ?_⟩
  obtain ⟨m, ρ, μ, he, hh, g⟩ := h
  refine ⟨m, ρ, μ, he, hh, (Gd.bnd g).mono fun a μ1 m1 H1 e1 h1 g1 v r1 => ?_⟩
  split at g1
  · rename_i ht
    exact ⟨tyW_ok r1 h1 ht, rN_of g1 (.cons r1 .nil) h1⟩
  · exact g1.elim
def opAppend : Op
  | [.r n, .d x], μ => match μ[n]? with
    | some (.l xs) => if sz (xs.length + 1) = true then some (.d .none, μ.set n (.l (xs ++ [x]))) else none
    | _ => none
  | _, _ => none
theorem append_op : MtO X "list.append" opAppend := by
  intro pins s σ H x xs v us Q I rx rs h
  obtain ⟨m, μ, ws, r, hh, g⟩ := h
  unfold opAppend at g
  split at g
  · rename_i n d
    cases r with
    | cons r1 t =>
      cases t with
      | cons r2 t =>
        cases t
        split at g
        · rename_i ys e
          split at g
          · rename_i hz
            obtain ⟨a, vs, h1, rfl, h2, h3⟩ := lst_at r1 hh e
            obtain ⟨e1, h4⟩ := put_lst hh h1 h2 (h3.app (.one r2))
            exact mt_append pins s σ H _ _ v us Q I rx rs ⟨a, vs, _, rfl, rfl, h2, by have := sz_le hz; rw [h3.len]; omega, g _ _ _ e1 h4 .non⟩
          · exact g.elim
        · exact g.elim
  · exact g.elim
def opPop : Op
  | [.r n], μ => match μ[n]? with
    | some (.l xs) => match xs.getLast? with
      | some x => some (.d x, μ.set n (.l xs.dropLast))
      | none => none
    | _ => none
  | _, _ => none
theorem DvAll.init {K : PySem.W.Frag} {L : Addr → Prop} {H : Hp} {vs : List V} {xs : List PyData} (h : DvAll K L H vs xs) : DvAll K L H vs.dropLast xs.dropLast := by
  rw [List.dropLast_eq_take, List.dropLast_eq_take, h.len]
  exact h.take _
theorem pop_op : MtO X "list.pop" opPop := by
  intro pins s σ H x xs v us Q I rx rs h
  obtain ⟨m, μ, ws, r, hh, g⟩ := h
  unfold opPop at g
  split at g
  · rename_i n
    cases r with
    | cons r1 t =>
      cases t
      split at g
      · rename_i ys e
        split at g
        · rename_i d ed
          obtain ⟨a, vs, h1, rfl, h2, h3⟩ := lst_at r1 hh e
          rw [List.getLast?_eq_getElem?] at ed
          obtain ⟨y, ey, ry⟩ := h3.get ed
          rw [← h3.len] at ey
          obtain ⟨e1, h4⟩ := put_lst hh h1 h2 h3.init
          exact mt_pop pins s σ H _ _ v us Q I rx rs ⟨a, vs, y, rfl, rfl, h2, ey, g _ _ _ e1 h4 (ry.stay e1.ks)⟩
        · exact g.elim
      · exact g.elim
  · exact g.elim
end
end Mok05
set_option autoImplicit false
namespace Mok05
variable [Wd]
open PySem PySem.Spec PyProof.Rows L2
def orO (f g : Op) : Op := fun ws μ => match f ws μ with
  | some r => some r
  | none => g ws μ
theorem rN_or {K : PySem.W.Frag} {f g : Op} {vs : List V} {H : Hp} {Q : VK} (h : rN K (orO f g) vs H Q) : rN K f vs H Q ∨ rN K g vs H Q := by
  obtain ⟨m, μ, ws, r, hh, q⟩ := h
  unfold orO at q
  cases e : f ws μ with
  | none => rw [e] at q; exact .inr ⟨m, μ, ws, r, hh, q⟩
  | some p => rw [e] at q; exact .inl ⟨m, μ, ws, r, hh, by rw [e]; exact q⟩
section
variable {X : Cx} {ct : Ct} {Z : WX}
theorem Op2R.or {op : Value → Value → Sem Value} {f g : Op} (h : Op2R X op f) (k : Op2R X op g) : Op2R X op (orO f g) := by
  intro pins s σ H x y v u Q I rx ry q
  exact (rN_or q).elim (h pins s σ H x y v u Q I rx ry) (k pins s σ H x y v u Q I rx ry)
theorem CallO.or {c : Value} {f g : Op} (h : CallO X c f) (k : CallO X c g) : CallO X c (orO f g) := by
  intro pins s σ H x v Q I r q
  exact (rN_or q).elim (h pins s σ H x v Q I r) (k pins s σ H x v Q I r)
def getD (kvs : List (PyData × PyData)) (k : PyData) : Option PyData := (kvs.find? fun p => decide (keyD p.1 = keyD k)).map (·.2)
def putD (kvs : List (PyData × PyData)) (k x : PyData) : List (PyData × PyData) :=
  if (kvs.any fun p => decide (keyD p.1 = keyD k)) = true then kvs.map (fun p => if keyD p.1 = keyD k then (p.1, x) else p) else kvs ++ [(k, x)]
def mkD (ps : List (PyData × PyData)) : List (PyData × PyData) := ps.foldl (fun a p => putD a p.1 p.2) []
section
variable {K : PySem.W.Frag} {L : Addr → Prop} {H : Hp}
theorem DvK.len {us : List (Key × V)} {kvs : List (PyData × PyData)} (h : DvK K L H us kvs) : us.length = kvs.length := by
  induction us generalizing kvs with
  | nil => cases h; rfl
  | cons u us ih =>
    cases h with
    | cons _ _ t => simp [ih t]
theorem keyD_kV {x : PyData} {k : Key} (h : keyD x = some k) {v : V} (r : Dv K L H v x) : v = kV k := by
  cases x with
  | int i => cases h; cases r; rfl
  | str z => cases h; cases r; rfl
  | _ => cases h
theorem DvK.get {us : List (Key × V)} {kvs : List (PyData × PyData)} (h : DvK K L H us kvs) {x : PyData} {k : Key} (hk : keyD x = some k) : (∃ v y, valV us k = some v ∧ getD kvs x = some y ∧ Dv K L H v y) ∨ (valV us k = none ∧ getD kvs x = none) := by
  induction us generalizing kvs with
  | nil => cases h; exact .inr ⟨rfl, rfl⟩
  | cons u us ih =>
    cases h with
    | cons h0 h1 t =>
      rename_i k' v x' y kvs
      by_cases e : k' = k
      · exact .inl ⟨v, y, valV_pos e, by simp [getD, List.find?_cons, h0, hk, e], h1⟩
      · have e2 : getD ((x', y) :: kvs) x = getD kvs x := by simp [getD, List.find?_cons, h0, hk, e]
        rw [e2, valV_neg (p := (k', v)) e]
        exact ih t
theorem DvK.any {us : List (Key × V)} {kvs : List (PyData × PyData)} (h : DvK K L H us kvs) {x : PyData} {k : Key} (hk : keyD x = some k) : (us.any fun kv => decide (kv.1 = k)) = kvs.any fun p => decide (keyD p.1 = keyD x) := by
  induction us generalizing kvs with
  | nil => cases h; rfl
  | cons u us ih =>
    cases h with
    | cons h0 h1 t =>
      rw [List.any_cons, List.any_cons, ih t, h0, hk]
      congr 1
      simp
theorem DvK.repl {us : List (Key × V)} {kvs : List (PyData × PyData)} (h : DvK K L H us kvs) {x z : PyData} {k : Key} {w : V} (hk : keyD x = some k) (r : Dv K L H w z) :
    DvK K L H (us.map fun kv => if kv.1 = k then (kv.1, w) else kv) (kvs.map fun p => if keyD p.1 = keyD x then (p.1, z) else p) := by
  induction us generalizing kvs with
  | nil => cases h; exact .nil
  | cons u us ih =>
    cases h with
    | cons h0 h1 t =>
      rename_i k' v x' y kvs
      rw [List.map_cons, List.map_cons]
      by_cases e : k' = k
      · rw [if_pos e, if_pos (by rw [h0, hk, e])]
        exact .cons h0 r (ih t)
      · rw [if_neg e, if_neg (by rw [h0, hk]; simpa using e)]
        exact .cons h0 h1 (ih t)
theorem DvK.snoc {us : List (Key × V)} {kvs : List (PyData × PyData)} (h : DvK K L H us kvs) {x z : PyData} {k : Key} {w : V} (hk : keyD x = some k) (r : Dv K L H w z) : DvK K L H (us ++ [(k, w)]) (kvs ++ [(x, z)]) := by
  induction us generalizing kvs with
  | nil => cases h; exact .cons hk r .nil
  | cons u us ih =>
    cases h with
    | cons h0 h1 t => exact .cons h0 h1 (ih t)
theorem DvK.put {us : List (Key × V)} {kvs : List (PyData × PyData)} (h : DvK K L H us kvs) {x z : PyData} {k : Key} {w : V} (hk : keyD x = some k) (r : Dv K L H w z) : DvK K L H (putK us k w) (putD kvs x z) := by
  unfold putK putD
  rw [h.any hk]
  split
  · exact h.repl hk r
  · exact h.snoc hk r
end
theorem peek_dict {K : PySem.W.Frag} {m : Ms} {H : Hp} {μ : Mem} {w : W} {v : V} {kvs : List (PyData × PyData)} (r : RV K m H w v) (hh : RH K m H μ) (e : peek w μ = some (.dict kvs)) : ∃ a us, v = .ref a ∧ Rd H a (.dK us) ∧ DvK K (Live m) H us kvs := by
  cases w with
  | d y =>
    cases e
    cases r with
    | dK h1 h2 h3 => exact ⟨_, _, rfl, h1, h3⟩
  | r n =>
    simp only [peek] at e
    split at e
    · cases e
    · rename_i ks q
      cases e
      obtain ⟨l, a, h1, h2, rfl, a', h4, us, h5, h6⟩ := ref_at r hh q (by intro z; cases z)
      cases h4
      cases h2
      exact ⟨a, us, rfl, .inl h5, h6⟩
    · cases e
  | s ns => cases e
  | e _ _ _ _ => cases e
  | o _ => cases e
theorem ddget {H : Hp} {a : Addr} {us : List (Key × V)} {k : Key} (h : Rd H a (.dK us)) : DGet H a (kV k) (valV us k) := .inl ⟨us, k, h, rfl, rfl⟩
def opIxD : Op
  | [o, .d x], μ => match peek o μ with
    | some (.dict kvs) => if (keyD x).isSome = true then (match getD kvs x with
      | some y => some (.d y, μ)
      | none => none) else none
    | _ => none
  | _, _ => none
theorem ix_opD (hu : X.A.units + 66 < cLine) : IxR X (fun x y H Q => rN X.K opIxD [x, y] H Q) := by
  intro value slice pins s σ H x y v u Q I rx ry h hs
  obtain ⟨m, μ, ws, r, hh, g⟩ := h
  obtain ⟨a, b, rfl, r1, r2⟩ := two r
  unfold opIxD at g
  split at g
  · rename_i o x e
    simp only [List.cons.injEq, and_true] at e
    obtain ⟨rfl, rfl⟩ := e
    split at g
    · rename_i kvs e1
      split at g
      · rename_i hk
        obtain ⟨k, hk⟩ := Option.isSome_iff_exists.mp hk
        obtain ⟨p, us, rfl, h1, h2⟩ := peek_dict r1 hh e1
        rcases h2.get hk with ⟨z, y', k1, k2, k3⟩ | ⟨k1, k2⟩
        · rw [k2] at g
          have dg : DGet H p (kV k) (some z) := by rw [← k1]; exact ddget h1
          have ev := keyD_kV hk r2
          subst ev
          cases rx
          exact tail_any (dict_typeIs I dg) PySem.F.slot_dict_getitem.lookup (d_getItem (by omega) I dg ry fun w' s' I' rw' => ⟨z, H, I', rw', g.now hh k3⟩) hs
        · rw [k2] at g
          exact g.elim
      · exact g.elim
    · exact g.elim
  · exact g.elim
def opIxA : Op := orO opIx opIxD
theorem mIxA {a b : Expr} {pos : Pos} {da db : DE} (hu : X.A.units + 66 < cLine) (ha : ME X ct Z a da) (hb : ME X ct Z b db) (hs : PlainIx b := by exact fun _ _ => rfl) : ME X ct Z (.Subscript a b pos) (dP2 opIxA da db) := by
  have h : IxR X (fun x y H Q => rN X.K opIxA [x, y] H Q) := by
    intro value slice pins s σ H x y v u Q I rx ry q hs
    exact (rN_or q).elim (fun q => ix_op value slice pins s σ H x y v u Q I rx ry q hs) fun q => ix_opD hu value slice pins s σ H x y v u Q I rx ry q hs
  exact ⟨pe_imp (pe_ix h ha.pe hb.pe hs) fun _ _ _ h => t2_of h⟩
def opInD (neg : Bool) : Op
  | [.d x, o], μ => match peek o μ with
    | some (.dict kvs) => if (keyD x).isSome = true then pB (if neg = true then !(getD kvs x).isSome else (getD kvs x).isSome) μ else none
    | _ => none
  | _, _ => none
theorem DvK.some {K : PySem.W.Frag} {L : Addr → Prop} {H : Hp} {us : List (Key × V)} {kvs : List (PyData × PyData)} (h : DvK K L H us kvs) {x : PyData} {k : Key} (hk : keyD x = some k) : (valV us k).isSome = (getD kvs x).isSome := by
  rcases h.get hk with ⟨z, y', k1, k2, k3⟩ | ⟨k1, k2⟩
  · rw [k1, k2]; rfl
  · rw [k1, k2]; rfl
theorem op2_inD (hu : X.A.units + 66 < cLine) : Op2R X (compareOp .In) (opInD false) := by
  intro pins s σ H x y v u Q I rx ry h
  obtain ⟨m, μ, ws, r, hh, g⟩ := h
  obtain ⟨a, b, rfl, r1, r2⟩ := two r
  unfold opInD at g
  split at g
  · rename_i d o e
    simp only [List.cons.injEq, and_true] at e
    obtain ⟨rfl, rfl⟩ := e
    split at g
    · rename_i kvs e1
      split at g
      · rename_i hk
        obtain ⟨k, hk⟩ := Option.isSome_iff_exists.mp hk
        obtain ⟨p, us, rfl, h1, h2⟩ := peek_dict r2 hh e1
        have ev := keyD_kV hk r1
        subst ev
        cases ry
        refine d_in (by omega) I (ddget h1) rx fun s' I' => ⟨.bl _, H, I', rfl, ?_⟩
        rw [h2.some hk]
        exact g.now hh (.bl _)
      · exact g.elim
    · exact g.elim
  · exact g.elim
theorem op2_notinD (hu : X.A.units + 66 < cLine) : Op2R X (compareOp .NotIn) (opInD true) := by
  intro pins s σ H x y v u Q I rx ry h
  obtain ⟨m, μ, ws, r, hh, g⟩ := h
  obtain ⟨a, b, rfl, r1, r2⟩ := two r
  unfold opInD at g
  split at g
  · rename_i d o e
    simp only [List.cons.injEq, and_true] at e
    obtain ⟨rfl, rfl⟩ := e
    split at g
    · rename_i kvs e1
      split at g
      · rename_i hk
        obtain ⟨k, hk⟩ := Option.isSome_iff_exists.mp hk
        obtain ⟨p, us, rfl, h1, h2⟩ := peek_dict r2 hh e1
        have ev := keyD_kV hk r1
        subst ev
        cases ry
        refine d_notIn (by omega) I (ddget h1) rx fun s' I' => ⟨.bl _, H, I', rfl, ?_⟩
        rw [h2.some hk]
        exact g.now hh (.bl _)
      · exact g.elim
    · exact g.elim
  · exact g.elim
def opInA (neg : Bool) : Op := orO (opIn neg) (opInD neg)
theorem op2_inA (hu : X.A.units + 66 < cLine) : Op2R X (compareOp .In) (opInA false) := Op2R.or (op2_in hu) (op2_inD hu)
theorem op2_notinA (hu : X.A.units + 66 < cLine) : Op2R X (compareOp .NotIn) (opInA true) := Op2R.or (op2_notin hu) (op2_notinD hu)
def mkK (own : Bool) (kvs : List (PyData × PyData)) (μ : Mem) : Option (W × Mem) := if sz kvs.length = true then (if own = true then some (.r μ.length, μ ++ [.k kvs]) else some (.d (.dict kvs), μ)) else none
end
end Mok05
set_option autoImplicit false
namespace Mok05
variable [Wd]
open PySem PySem.Spec PyProof.Rows L2
def pairsD : List PyData → Option (List (PyData × PyData))
  | [] => some []
  | .tuple [k, x] :: r => if (keyD k).isSome = true then (pairsD r).map ((k, x) :: ·) else none
  | _ :: _ => none
section
variable {X : Cx} {ct : Ct} {Z : WX}
def opDict (own : Bool) : Op
  | [w], μ => match peek w μ with
    | some (.list xs) => (pairsD xs).bind fun ps => mkK own (mkD ps) μ
    | some (.tuple xs) => (pairsD xs).bind fun ps => mkK own (mkD ps) μ
    | some (.dict kvs) => mkK own kvs μ
    | _ => none
  | [], μ => mkK own [] μ
  | _, _ => none
def dNewD (own : Bool) : DE := fun _ μ => ofO (mkK own [] μ)
def opLenD : Op
  | [w], μ => match peek w μ with
    | some (.dict kvs) => pI kvs.length μ
    | _ => none
  | _, _ => none
theorem len_opD : CallO X (.builtin "len") opLenD := by
  intro pins s σ H xs us Q I r h
  obtain ⟨m, μ, ws, rr, hh, g⟩ := h
  unfold opLenD at g
  split at g
  · rename_i w
    cases rr with
    | cons r1 t =>
      cases t
      split at g
      · rename_i kvs e
        obtain ⟨a, us', rfl, h1, h2⟩ := peek_dict r1 hh e
        obtain ⟨u, rfl, ru⟩ := vals1 r
        cases ru
        refine d_len I h1 fun t s' I' => ⟨.int us'.length, H, I', ⟨t, rfl⟩, ?_⟩
        rw [h2.len]
        exact g.now hh (.int _)
      · exact g.elim
  · exact g.elim
theorem len_opA : CallO X (.builtin "len") (orO opLen opLenD) := CallO.or len_op len_opD
def opExtend : Op
  | [.r n, b], μ => match μ[n]? with
    | some (.l xs) => match viewL b μ with
      | some ys => if sz (xs.length + ys.length) = true then some (.d .none, μ.set n (.l (xs ++ ys))) else none
      | none => none
    | _ => none
  | _, _ => none
def stW : W → W → W → Mem → Option Mem
  | .r n, .d i, .d x, μ => match μ[n]? with
    | some (.l xs) => match i with
      | .int k => match ixN xs.length k with
        | some j => some (μ.set n (.l (xs.set j x)))
        | none => none
      | _ => none
    | some (.k kvs) => if ((keyD i).isSome && sz (kvs.length + 1)) = true then some (μ.set n (.k (putD kvs i x))) else none
    | _ => none
  | _, _, _, _ => none
def rSt (K : PySem.W.Frag) : TSet := fun o i v H Q => ∃ m μ wo wi wv, RV K m H wo o ∧ RV K m H wi i ∧ RV K m H wv v ∧ RH K m H μ ∧ (match stW wo wi wv μ with
  | some μ' => ∀ m' H', Ext m H m' H' → RH K m' H' μ' → Q H'
  | none => False)
theorem put_dict {K : PySem.W.Frag} {m : Ms} {H : Hp} {μ : Mem} {n : Nat} {a : Addr} {vs us : List (Key × V)} {ys : List (PyData × PyData)} (hh : RH K m H μ) (hm : m.v[n]? = some (some [a])) (hH : H a = some (.dK vs)) (ha : DvK K (Live m) H us ys) :
    Ext m H m (upd H a (.dK us)) ∧ RH K m (upd H a (.dK us)) (μ.set n (.k ys)) := by
  have e : Ext m H m (upd H a (.dK us)) := .put (vl_at hm (by simp)) hH trivial
  exact ⟨e, hh.put hm hH trivial ⟨a, rfl, us, upd_same, DvK.stay' e.ks ha⟩⟩
theorem st_ok (hu : X.A.units + 66 < cLine) : PSet X (rSt X.K) := by
  intro pins s σ H o i v ov iv u Q I ro ri rv h
  obtain ⟨m, μ, wo, wi, wv, r1, r2, r3, hh, g⟩ := h
  cases wo with
  | d x => simp [stW] at g
  | s ns => simp [stW] at g
  | e _ _ _ _ => simp [stW] at g
  | o _ => simp [stW] at g
  | r n =>
    cases wi with
    | r _ => simp [stW] at g
    | s _ => simp [stW] at g
    | e _ _ _ _ => simp [stW] at g
    | o _ => simp [stW] at g
    | d y =>
      cases wv with
      | r _ => simp [stW] at g
      | s _ => simp [stW] at g
      | e _ _ _ _ => simp [stW] at g
      | o _ => simp [stW] at g
      | d x =>
        simp only [stW] at g
        cases hq : μ[n]? with
        | none => rw [hq] at g; exact g.elim
        | some ob =>
          rw [hq] at g
          cases ob with
          | dead => exact g.elim
          | o y fs => exact g.elim
          | q y gs => exact g.elim
          | emp => exact g.elim
          | kl x => exact g.elim
          | kt x => exact g.elim
          | ll x => exact g.elim
          | l xs =>
            obtain ⟨a, vs, h1, rfl, h2, h3⟩ := lst_at r1 hh hq
            cases y with
            | int k =>
              cases r2
              dsimp only at g
              cases hj : ixN xs.length k with
              | none => rw [hj] at g; exact g.elim
              | some j =>
                rw [hj] at g
                obtain ⟨e1, h4⟩ := put_lst hh h1 h2 (h3.set j r3)
                exact set_list pins s σ H _ _ v ov iv u Q I ro ri rv ⟨a, vs, k, j, rfl, rfl, h2, by rw [h3.len]; exact hj, g _ _ e1 h4⟩
            | _ => exact g.elim
          | k kvs =>
            obtain ⟨l, a, h1, h2, rfl, a', h4, us, h5, h6⟩ := ref_at r1 hh hq (by intro z; cases z)
            cases h4
            cases h2
            dsimp only at g
            by_cases hc : ((keyD y).isSome && sz (kvs.length + 1)) = true
            · rw [if_pos hc] at g
              rw [Bool.and_eq_true] at hc
              obtain ⟨k, hk⟩ := Option.isSome_iff_exists.mp hc.1
              have ev := keyD_kV hk r2
              subst ev
              obtain ⟨e1, h7⟩ := put_dict hh h1 h5 (h6.put hk r3)
              refine set_dict (by omega) pins s σ H _ _ v ov iv u Q I ro ri rv ⟨a, _, rfl, .k h5 ?_, g _ _ e1 h7⟩
              have := sz_le hc.2
              rw [h6.len]
              omega
            · rw [if_neg hc] at g
              exact g.elim
def nxt {α : Type} (ρ : Env) (f : α → Env) : Res α → SR
  | .ok a μ => .nx (f a) μ
  | .exc x μ => .exc x ρ μ
  | .bad => .bad
def okM : Option Mem → Res Unit
  | some μ => .ok () μ
  | none => .bad
def sSt (dv do_ di : DE) : DS := fun ρ μ => nxt ρ (fun _ => ρ) (bnd (dv ρ μ) fun v μ1 => bnd (do_ ρ μ1) fun o μ2 => bnd (di ρ μ2) fun i μ3 => okM (stW o i v μ3))
theorem gs_gd {α : Type} {K : PySem.W.Frag} {D : Ends} {m : Ms} {σ : L2.St} {H : Hp} {ρ : Env} {r : Res α} {f : α → Env} {P : α → Mem → Ms → Hp → Prop} (he : EnvR K m H ρ σ) (g : Gs K ct Z D m H (nxt ρ f r)) (k : ∀ a μ m' H', Ext m H m' H' → RH K m' H' μ → Gs K ct Z D m' H' (.nx (f a) μ) → P a μ m' H') : Gd K ct Z m σ H r P := by
  cases r with
  | ok a μ1 => exact fun m' H' e hh => k a μ1 m' H' e hh fun m2 σ2 H2 e2 => g m2 σ2 H2 (e.trans e2)
  | exc x μ1 => exact fun m' H' cls d e hh xr => g m' σ H' cls d e hh (he.ext e) xr
  | bad => exact g
theorem msSt (hu : X.A.units + 66 < cLine) {o i e : Expr} {pos pos' : Pos} {dv do_ di : DE} (hv : ME X ct Z e dv) (ho : ME X ct Z o do_) (hi : ME X ct Z i di)
    (ha : ∀ v, assign (.Subscript o i pos') X.env v = (do
      let ov ← holding [v] (eval o X.env)
      let iv ← holding [v, ov] (eval i X.env)
      standAt pos'
      holding [v, ov, iv] (setItem ov iv v)
      release [v, ov, iv] []) := by intro _; rfl) (hs : swapsWithSole [.Subscript o i pos'] e pos.line X.env = pure false := by rfl) (hw : swappedStores [.Subscript o i pos'] e X.env = pure none := by rfl)
    (h1 : (assignEach [.Subscript o i pos'] X.env).map (·.2) = [assign (.Subscript o i pos') X.env] := by rfl) : MS X ct Z (.Assign [.Subscript o i pos'] e pos) (sSt dv do_ di) := by
  refine ⟨ps_imp (ps_asg hv.pe (pg_sub ho.pe hi.pe (st_ok hu) ha) hs hw h1) fun D σ H q => ?_⟩
  obtain ⟨m, ρ, μ, he, hh, g⟩ := q
  refine ⟨m, ρ, μ, he, hh, ?_⟩
  unfold sSt at g
  have g1 := gs_gd (σ := σ) (f := fun _ => ρ) (P := fun _ μ1 m1 H1 => D.nx σ H1) he g fun a μ1 m1 H1 e1 h1 g1 => g1 m1 σ H1 (.refl _ _) h1 (he.ext e1)
  refine (Gd.bnd g1).mono fun v μ1 m1 H1 e1 h1 g2 x r1 => ⟨m1, ρ, μ1, he.ext e1, h1, (Gd.bnd g2).mono fun o μ2 m2 H2 e2 h2 g3 y r2 => ⟨m2, ρ, μ2, (he.ext e1).ext e2, h2, (Gd.bnd g3).mono fun i μ3 m3 H3 e3 h3 g4 z r3 => ?_⟩⟩
  refine ⟨m3, μ3, o, i, v, r2.ext e3, r3, (r1.ext e2).ext e3, h3, ?_⟩
  cases q : stW o i v μ3 with
  | none => rw [q] at g4; exact g4
  | some μ4 => rw [q] at g4; exact g4
end
end Mok05
set_option autoImplicit false
namespace Mok05
variable [Wd]
open PySem PySem.Spec PyProof.Rows L2
abbrev Fn := List W → Mem → Res W
structure FnG (P : Program) (w : World) (K : PySem.W.Frag) (mg : Str → Option Value) (base : Heap) (ct : Ct) (k : Nat) (f : Addr) (fd : FuncData) (ps : List Str) (F : Fn) : Prop where
  len : ∀ ws μ, F ws μ ≠ .bad → ws.length = ps.length
  run : ∀ (A : Around) (outer : List PySem.Env) (s : Shared) (H : Hp) (args : Args) (us : List Value) (vs : List V) (Q : VK) (E : XK) (m : Ms) (μ : Mem) (ws : List W), Room k A → A.guards = some [] → Env0 P w K mg base A outer s H →
    BindsTo s fd args (ps.zip us) → Vals vs us → RVs K m H ws vs → RH K m H μ → Gd K ct (fun c d _ H' => E c d H') m [] H (F ws μ) (PV K Q) →
    codeAny (model P w) A (.call (.ref f) args) (CR (L2.CX P w) outer P w H s Q E) s
structure CalG (P : Program) (w : World) (K : PySem.W.Frag) (mg : Str → Option Value) (base : Heap) (ct : Ct) (k : Nat) (x : Str) (F : Fn) (dws : List PyData) : Prop where
  ex : ∃ (f : Addr) (fd : FuncData) (ps : List Str) (ds : List Value) (dvs : List V), FnG P w K mg base ct k f fd ps F ∧ mg x = some (.ref f) ∧ PySem.W.keepIn K (.ref f) = true ∧ Binds K fd ps ds ∧ Vals dvs ds ∧ ∀ L H, DvAll K L H dvs dws
def back (n : Nat) (μ0 μ : Mem) (o : Option MO) : Res W := match o with
  | some .dead => .bad
  | some (.q _ _) => .bad
  | some (.kl _) => .bad
  | some .emp => .bad
  | some (.ll _) => .bad
  | some (.kt _) => .bad
  | some o => .ok (.r μ0.length) (μ0 ++ [o])
  | none => .bad
def callF (F : Fn) (ws : List W) (μ : Mem) : Res W := match datas ws with
  | some _ => match F ws [] with
    | .ok (.d x) _ => .ok (.d x) μ
    | .ok (.r n) μ' => back n μ μ' μ'[n]?
    | .ok (.s _) _ => .bad
    | .ok (.e _ _ _ _) _ => .bad
    | .ok (.o _) _ => .bad
    | .exc x _ => .exc x μ
    | .bad => .bad
  | none => match F ws μ with
    | .ok (.d x) μ' => .ok (.d x) (μ'.take μ.length)
    | .ok (.r n) μ' => if n < μ.length then .ok (.r n) (μ'.take μ.length) else back n (μ'.take μ.length) μ' μ'[n]?
    | .ok (.s ns) μ' => .ok (.s ns) (μ'.take μ.length)
    | .ok (.e _ _ _ _) _ => .bad
    | .ok (.o _) _ => .bad
    | .exc x μ' => .exc x (μ'.take μ.length)
    | .bad => .bad
def dCall (F : Fn) (dws : List PyData) (da : DA) : DE := fun ρ μ => bnd (da ρ μ) fun ws μ1 => callF F (ws ++ dws.map W.d) μ1
section
variable {K : PySem.W.Frag} {ct : Ct}
def Ms.all (m : Ms) : Ms := { v := [], h := fps m.v ++ m.h }
theorem all_live {m : Ms} {b : Addr} : Live m b → b ∈ m.all.h := fun h => List.mem_append.mpr h
theorem all_vl {m : Ms} {b : Addr} : ¬ VL m.all b := fun h => by
  unfold VL Ms.all at h
  simp [fps] at h
structure Grw (H H1 : Hp) : Prop where
  k : ∀ b o, H b = some o → Nt o → H1 b = some o
  t : ∀ b ps, H b = some (.tbl ps) → ∃ qs, H1 b = some (.tbl qs)
theorem Grw.there {H H1 : Hp} (g : Grw H H1) {b : Addr} {o : HO} (e : H b = some o) : ∃ u, H1 b = some u := by
  rcases nt_or o with nt | ⟨ps, rfl⟩
  · exact ⟨o, g.k b o e nt⟩
  · obtain ⟨qs, h⟩ := g.t b ps e
    exact ⟨_, h⟩
theorem ObR.over {m m' : Ms} {H H1 : Hp} {p : Fp} {o : MO} (h : ObR K m H p o) (g : Grw H H1) (e : Keeps (Live m) H (Live m') H1) (hr : ∀ x gs, o = .q x gs → ∀ k, FRef gs k → ∀ v, RefR m k v → RefR m' k v) : ObR K m' H1 p o := h.keeps e hr fun l hl a ha u hu => by
  obtain ⟨u', h1, h2⟩ := h.there hl a ha
  rw [hu] at h1
  cases h1
  exact g.k _ _ hu h2.nt
theorem RH.over {m : Ms} {H H1 : Hp} {μ : Mem} (h : RH K m H μ) (k : Grw H H1) (tb : ∀ p ∈ Wd.T, TbR m H1 p) : RH K m H1 μ :=
  ⟨tb, h.nd, h.len, fun b hb => ⟨by obtain ⟨o, e⟩ := (h.hid b hb).1; exact k.there e, (h.hid b hb).2⟩, fun n p o h1 h2 => (h.at_ n p o h1 h2).over k ⟨fun b u e _ nt => k.k b u e nt, fun _ z n => (n z).elim, k.t⟩ (fun _ _ _ _ _ _ r => r), h.rf⟩
theorem RH.allH {m : Ms} {H : Hp} {μ : Mem} (h : RH K m H μ) : RH K m.all H [] :=
  ⟨fun q hq => (h.tb q hq).go (keeps_less fun b h => by
    rcases h with h | h
    · exact (all_vl h).elim
    · exact List.mem_append.mp h) fun _ z => z, List.nodup_nil, rfl, fun b hb => ⟨by
    rcases List.mem_append.mp hb with hb | hb
    · obtain ⟨u, e, _⟩ := h.there hb
      exact ⟨u, e⟩
    · exact (h.hid b hb).1, all_vl⟩, fun n p o h1 _ => by simp [Ms.all] at h1, fun n x gs e => by simp at e⟩
theorem keeps_all {m : Ms} {H : Hp} : Keeps (Live m) H (Live m.all) H := keeps_less fun b h => by
  rcases h with h | h
  · exact (all_vl h).elim
  · exact List.mem_append.mp h
theorem rvs_all {m : Ms} {H : Hp} {ws : List W} {vs : List V} {xs : List PyData} (r : RVs K m H ws vs) (e : datas ws = some xs) : RVs K m.all H ws vs := by
  induction r generalizing xs with
  | nil => exact .nil
  | @cons w v ws vs a b ih =>
    cases w with
    | d x =>
      simp only [datas, Option.map_eq_some_iff] at e
      obtain ⟨ys, h1, rfl⟩ := e
      exact .cons (Dv.stay' keeps_all a) (ih h1)
    | r n => simp [datas] at e
    | s n => simp [datas] at e
    | e _ _ _ _ => simp [datas] at e
    | o _ => simp [datas] at e
theorem ObR.less {m m' : Ms} {H : Hp} {p : Fp} {o : MO} (h : ObR K m H p o) (e : ∀ b, Live m' b → Live m b) (hr : ∀ x gs, o = .q x gs → ∀ k, FRef gs k → ∀ v, RefR m k v → RefR m' k v) : ObR K m' H p o := h.keeps (keeps_less e) hr fun _ _ _ _ _ q => q
theorem XcR.less {m m' : Ms} {H : Hp} {x : Xc} {c : Value} {d : Option Addr} (h : XcR K ct m H x c d) (e : ∀ b, Live m' b → Live m b) : XcR K ct m' H x c d := by
  obtain ⟨h1, dx, us, h2, h3, h4⟩ := h
  exact ⟨h1, dx, us, h2, h3, Paired.mapP h4 fun _ _ q => ⟨q.1, Dv.less' e q.2⟩⟩
theorem ob_one {m : Ms} {H : Hp} {p : Fp} {o : MO} (h : ObR K m H p o) (n : o ≠ .dead) (nq : (∀ x gs, o ≠ .q x gs) ∧ (∀ kvs, o ≠ .kl kvs) ∧ o ≠ .emp ∧ (∀ xss, o ≠ .ll xss) ∧ ∀ kvs, o ≠ .kt kvs) : ∃ a, p = some [a] := by
  cases o with
  | emp => exact (nq.2.2.1 rfl).elim
  | ll xss => exact (nq.2.2.2.1 xss rfl).elim
  | kt kvs => obtain ⟨a, _, q, _⟩ := h; exact ⟨a, q⟩
  | dead => exact (n rfl).elim
  | l xs => obtain ⟨a, _, q, _⟩ := h; exact ⟨a, q⟩
  | k xs => obtain ⟨a, q, _⟩ := h; exact ⟨a, q⟩
  | o x fs => obtain ⟨a, _, _, _, q, _⟩ := h; exact ⟨a, q⟩
  | kl kvs => exact (nq.2.1 kvs rfl).elim
  | q x gs => exact (nq.1 x gs rfl).elim
theorem add_live {m : Ms} {a b : Addr} (h : Live (m.add a) b) : b = a ∨ Live m b := by
  rcases h with h | h
  · unfold Ms.add at h
    rw [fps_append, fps_one, List.mem_append, List.mem_singleton] at h
    exact h.elim (fun h => .inr (.inl h)) .inl
  · exact .inr (.inr h)
theorem ObR.noext {m : Ms} {H : Hp} {l : List Addr} {o : MO} {b : Addr} {φ : Heap → Prop} (h : ObR K m H (some l) o) (hb : b ∈ l) (hk : ∀ kvs, o ≠ .kt kvs) : H b ≠ some (.ext φ) := by
  intro z
  cases o with
  | dead => cases (show some l = none from h)
  | l xs =>
    obtain ⟨a, vs, h0, h1, h2⟩ := h
    cases h0
    rw [List.mem_singleton.mp hb, h1] at z
    cases z
  | k kvs =>
    obtain ⟨a, h0, us, h1, _⟩ := h
    cases h0
    rw [List.mem_singleton.mp hb, h1] at z
    cases z
  | o x fs =>
    obtain ⟨a, C, dx, us, h0, h1, h2, h3⟩ := h
    cases h0
    rw [List.mem_singleton.mp hb, h2] at z
    cases z
  | kl kvs =>
    obtain ⟨a, us, bs, h0, h1, h2⟩ := h
    cases h0
    rcases List.mem_cons.mp hb with rfl | hb
    · rw [h1] at z; cases z
    · obtain ⟨vs, y⟩ := h2.there b hb
      rw [y] at z
      cases z
  | q x gs =>
    obtain ⟨a, C, dx, us, h0, h1, h2, h3⟩ := h
    cases h0
    rw [List.mem_singleton.mp hb, h2] at z
    cases z
  | kt kvs => exact hk kvs rfl
  | ll xss =>
    obtain ⟨a, bs, h0, h1, h2⟩ := h
    cases h0
    rcases List.mem_cons.mp hb with rfl | hb
    · rw [h1] at z; cases z
    · obtain ⟨vs, y⟩ := h2.there b hb
      rw [y] at z
      cases z
  | emp =>
    cases (show some l = some [] from h)
    cases hb
theorem RH.plus {m : Ms} {H : Hp} {μ : Mem} {a : Addr} {o : MO} (h : RH K m H μ) (n : ¬ Live m a) (ho : ObR K (m.add a) H (some [a]) o) (hx : ∀ (j : Nat) (p : Fp) (u : MO), m.v[j]? = some p → μ[j]? = some u → ObR K (m.add a) H p u) (hq : ∀ x gs, o = .q x gs → ∀ k, FRef gs k → k < μ.length) (hkt : ∀ kvs, o ≠ .kt kvs) : RH K (m.add a) H (μ ++ [o]) := by
  refine ⟨fun q hq => ?_, ?_, by simp [Ms.add, h.len], fun b hb => ⟨(h.hid b hb).1, fun z => ?_⟩, fun j q o' h1 h2 => ?_, fun _ _ _ e => rf_app h.rf hq e⟩
  · obtain ⟨ps, z1, z2, z3, z4⟩ := h.tb q hq
    have nl : ∀ b, ¬ Live m b → b ≠ a → ¬ Live (m.add a) b := fun b n1 n2 z => (add_live z).elim n2 n1
    refine ⟨ps, z1, nl _ z2 fun z => ?_, z3, fun pos cv hc => ?_⟩
    · obtain ⟨u, k1, k2⟩ := ho.there rfl a (by simp)
      rw [← z, z1] at k1
      cases k1
      exact k2
    · obtain ⟨c, y1, y2, y3⟩ := z4 pos cv hc
      refine ⟨c, y1, y2, nl _ y3 fun z => ?_⟩
      rw [z] at y2
      exact ho.noext (by simp) hkt y2
  · unfold Ms.add
    rw [fps_append, fps_one, List.nodup_append]
    exact ⟨h.nd, by simp, fun c hc b hb => by
      rw [List.mem_singleton.mp hb]
      rintro rfl
      exact n (.inl hc)⟩
  · unfold Ms.add at z
    rw [fps_append, fps_one, List.mem_append] at z
    rcases z with z | z
    · exact (h.hid b hb).2 z
    · rw [List.mem_singleton.mp z] at hb
      exact n (.inr hb)
  · unfold Ms.add at h1
    by_cases hn : j < m.v.length
    · rw [List.getElem?_append_left hn] at h1
      rw [List.getElem?_append_left (by rw [← h.len]; exact hn)] at h2
      exact hx j q o' h1 h2
    · have e : j = m.v.length := by
        have := (List.getElem?_eq_some_iff.mp h1).1
        simp at this
        omega
      subst e
      rw [List.getElem?_append_right (Nat.le_refl _)] at h1
      rw [h.len, List.getElem?_append_right (Nat.le_refl _)] at h2
      simp only [Nat.sub_self, List.getElem?_cons_zero, Option.some.injEq] at h1 h2
      subst h1
      subst h2
      exact ho
theorem rv_last {m : Ms} {H : Hp} {μ : Mem} {a : Addr} (hl : m.v.length = μ.length) : RV K (m.add a) H (.r μ.length) (.ref a) := by
  refine .inr ⟨[a], a, ?_, rfl, rfl⟩
  unfold Ms.add
  rw [← hl, List.getElem?_append_right (Nat.le_refl _)]
  simp
theorem back_ok {n : Nat} {μ0 μ : Mem} {o : Option MO} {w : W} {μ1 : Mem} (e : back n μ0 μ o = .ok w μ1) : ∃ u, o = some u ∧ (u ≠ .dead ∧ (∀ x gs, u ≠ .q x gs) ∧ (∀ kvs, u ≠ .kl kvs) ∧ u ≠ .emp ∧ (∀ xss, u ≠ .ll xss) ∧ ∀ kvs, u ≠ .kt kvs) ∧ w = .r μ0.length ∧ μ1 = μ0 ++ [u] := by
  unfold back at e
  split at e
  · cases e
  · cases e
  · cases e
  · cases e
  · cases e
  · cases e
  · rename_i u hu hq hk he hl ht
    cases e
    exact ⟨u, rfl, ⟨fun z => hu (by rw [z]), fun x gs z => hq x gs (by rw [z]), fun kvs z => hk kvs (by rw [z]), fun z => he (by rw [z]), fun xss z => hl xss (by rw [z]), fun kvs z => ht kvs (by rw [z])⟩, rfl, rfl⟩
  · cases e
theorem back_exc {n : Nat} {μ0 μ : Mem} {o : Option MO} {x : Xc} {μ1 : Mem} : back n μ0 μ o ≠ .exc x μ1 := by
  intro e
  unfold back at e
  split at e <;> cases e
theorem live_a {m m1 : Ms} (hi : m1.h = m.all.h) {b : Addr} (h : Live m b) : Live m1 b := .inr (by rw [hi]; exact all_live h)
theorem call_alone {F : Fn} {ws : List W} {μ : Mem} {m : Ms} {H : Hp} {σ : L2.St} {Z : WX} {Q : VK} {xs : List PyData} (hh : RH K m H μ) (e : datas ws = some xs) (g : Gd K ct Z m σ H (callF F ws μ) (PV K Q)) :
    Gd K ct (fun c d _ H' => Z c d σ H') m.all [] H (F ws []) (PV K Q) := by
  unfold callF at g
  rw [e] at g
  dsimp only at g
  have up : ∀ {m1 : Ms} {H1 : Hp}, Ext m.all H m1 H1 → Grw H H1 := fun ex => ⟨fun b o h nt => ex.keep b o h (fun q => (all_vl q).elim) nt, ex.tbk⟩
  have ex0 : ∀ {m1 : Ms} {H1 : Hp}, Ext m.all H m1 H1 → Ext m H m H1 := fun ex => ⟨fun n l _ h => .inr ⟨l, h, rfl⟩, fun _ h => h, rfl, fun b o h _ nt => (up ex).k b o h nt, fun _ h n => (n h).elim, ex.tbk⟩
  have tbm : ∀ {m1 : Ms} {H1 : Hp} {μ1 : Mem}, Ext m.all H m1 H1 → RH K m1 H1 μ1 → ∀ p ∈ Wd.T, TbR m H1 p := fun ex h1 p hp => (h1.tb p hp).go (keeps_less fun b => live_a ex.hid) fun _ z => z
  cases hr : F ws [] with
  | bad => rw [hr] at g; exact g
  | exc x μ' =>
    rw [hr] at g
    intro m1 H1 cls d ex h1 xr
    exact g m H1 cls d (ex0 ex) (hh.over (up ex) (tbm ex h1)) (xr.less fun b => live_a ex.hid)
  | ok w μ' =>
    rw [hr] at g
    intro m1 H1 ex h1 v r1
    cases w with
    | d x => exact g m H1 (ex0 ex) (hh.over (up ex) (tbm ex h1)) v (Dv.less' (fun b => live_a ex.hid) r1)
    | s ns => exact g.elim
    | e _ _ _ _ => exact g.elim
    | o _ => exact g.elim
    | r n =>
      dsimp only at g
      cases hb : back n μ μ' μ'[n]? with
      | bad => rw [hb] at g; exact g.elim
      | exc x _ => exact (back_exc hb).elim
      | ok w2 μ2 =>
        rw [hb] at g
        obtain ⟨u, hu, ⟨nd, nq⟩, rfl, rfl⟩ := back_ok hb
        obtain ⟨l, a, k1, k2, rfl, k4⟩ := ref_at r1 h1 hu nd
        obtain ⟨a', k5⟩ := ob_one k4 nd nq
        cases k5
        cases k2
        have va : VL m1 a := vl_at k1 (by simp)
        have na : ¬ Live m a := fun z => (h1.hid a (by rw [ex.hid]; exact all_live z)).2 va
        have less : ∀ b, Live (m.add a) b → Live m1 b := fun b hb => by
          rcases add_live hb with rfl | hb
          · exact .inl va
          · exact live_a ex.hid hb
        have e2 : Ext m H (m.add a) H1 := ⟨fun n l _ h => .inr ⟨l, mem_get _ h, rfl⟩, fun n h => mem_get _ h, rfl, fun b o h _ nt => (up ex).k b o h nt, (fun b hb hn => by
          rcases add_live (.inl hb) with rfl | z
          · exact ex.new b va all_vl
          · rcases z with z | z
            · exact (hn z).elim
            · unfold VL Ms.add at hb
              rw [fps_append, fps_one, List.mem_append, List.mem_singleton] at hb
              rcases hb with hb | hb
              · exact (hn hb).elim
              · subst hb
                exact (na (.inr z)).elim), ex.tbk⟩
        refine g (m.add a) H1 e2 ((hh.over (up ex) (tbm ex h1)).plus na (k4.less less fun x gs e => (nq.1 x gs e).elim) (fun j p u hj hu => ?_) (fun x gs e => (nq.1 x gs e).elim) nq.2.2.2.2) _ (rv_last hh.len)
        refine (hh.at_ j p u hj hu).over (up ex) ⟨fun b o h _ nt => (up ex).k b o h nt, fun b hb hn => ?_, ex.tbk⟩ fun _ _ _ _ _ _ r => r.app _ _
        rcases add_live hb with rfl | hb
        · exact ex.new b va all_vl
        · exact (hn hb).elim
theorem cut_live {m : Ms} {n : Nat} {b : Addr} (h : Live (m.cut n) b) : Live m b := h.elim (fun z => .inl (fps_take_mem z)) .inr
theorem call_all {F : Fn} {ws : List W} {μ : Mem} {m : Ms} {H : Hp} {σ : L2.St} {Z : WX} {Q : VK} (hh : RH K m H μ) (e : datas ws = none) (g : Gd K ct Z m σ H (callF F ws μ) (PV K Q)) :
    Gd K ct (fun c d _ H' => Z c d σ H') m [] H (F ws μ) (PV K Q) := by
  unfold callF at g
  rw [e] at g
  dsimp only at g
  cases hr : F ws μ with
  | bad => rw [hr] at g; exact g
  | exc x μ' =>
    rw [hr] at g
    intro m1 H1 cls d ex h1 xr
    rw [← hh.len] at g
    exact g _ H1 cls d ex.drop (h1.drop _) (xr.less fun b => cut_live)
  | ok w μ' =>
    rw [hr] at g
    intro m1 H1 ex h1 v r1
    rw [← hh.len] at g
    cases w with
    | d x => exact g _ H1 ex.drop (h1.drop _) v (Dv.less' (fun b => cut_live) r1)
    | s ns => exact g _ H1 ex.drop (h1.drop _) v r1
    | e _ _ _ _ => exact g.elim
    | o _ => exact g.elim
    | r n =>
      dsimp only at g
      by_cases hn : n < m.v.length
      · rw [if_pos hn] at g
        refine g _ H1 ex.drop (h1.drop _) v ?_
        have e : (m1.cut m.v.length).v[n]? = m1.v[n]? := List.getElem?_take_of_lt hn
        show (m1.cut m.v.length).v[n]? = some none ∨ _
        rw [e]
        exact r1
      · rw [if_neg hn] at g
        cases hb : back n (μ'.take m.v.length) μ' μ'[n]? with
        | bad => rw [hb] at g; exact g.elim
        | exc x _ => exact (back_exc hb).elim
        | ok w2 μ2 =>
          rw [hb] at g
          obtain ⟨u, hu, ⟨nd, nq⟩, rfl, rfl⟩ := back_ok hb
          obtain ⟨l, a, k1, k2, rfl, k4⟩ := ref_at r1 h1 hu nd
          obtain ⟨a', k5⟩ := ob_one k4 nd nq
          cases k5
          cases k2
          have va : VL m1 a := vl_at k1 (by simp)
          have tk : ∀ {j : Nat} {p : Fp}, (m1.v.take m.v.length)[j]? = some p → m1.v[j]? = some p ∧ j < m.v.length := fun {j p} hj => by
            have hlt : j < m.v.length := by
              have := (List.getElem?_eq_some_iff.mp hj).1
              rw [List.length_take] at this
              omega
            rw [List.getElem?_take_of_lt hlt] at hj
            exact ⟨hj, hlt⟩
          have na : ¬ Live (m1.cut m.v.length) a := fun z => by
            rcases z with z | z
            · obtain ⟨l, hl, hal⟩ := fps_iff.mp z
              obtain ⟨i, hi⟩ := List.mem_iff_getElem?.mp hl
              obtain ⟨hi, hlt⟩ := tk hi
              have := nodup_apart h1.nd hi k1 hal (by simp)
              omega
            · exact (h1.hid a z).2 va
          have less : ∀ b, Live ((m1.cut m.v.length).add a) b → Live m1 b := fun b hb => by
            rcases add_live hb with rfl | hb
            · exact .inl va
            · exact cut_live hb
          have ed := ex.drop
          have e2 : Ext m H ((m1.cut m.v.length).add a) H1 := ⟨fun n l nl h => by
            rcases ed.pre n l nl h with h2 | ⟨l', h2, h3⟩
            · exact .inl (mem_get _ h2)
            · exact .inr ⟨l', mem_get _ h2, h3⟩, fun n h => mem_get _ (ed.pre0 n h), ed.hid, ex.keep, (fun b hb hn => by
            refine ex.new b ?_ hn
            unfold VL Ms.add at hb
            rw [fps_append, fps_one, List.mem_append, List.mem_singleton] at hb
            rcases hb with hb | hb
            · exact fps_take_mem hb
            · rw [hb]
              exact va), ex.tbk⟩
          refine g _ H1 e2 ((h1.drop _).plus na (k4.less less fun x gs e => (nq.1 x gs e).elim) (fun j p u hj hu => ?_) (fun x gs e => (nq.1 x gs e).elim) nq.2.2.2.2) _ (rv_last (h1.drop _).len)
          have hu0 := hu
          obtain ⟨hj, hlt⟩ := tk hj
          rw [List.getElem?_take_of_lt hlt] at hu
          refine (h1.at_ j p u hj hu).less less fun x gs e k hk v r => ?_
          subst e
          have hkj := h1.rf j x gs hu k hk
          have e2 : (m1.v.take m.v.length)[k]? = m1.v[k]? := List.getElem?_take_of_lt (by omega)
          refine RefR.app (m := m1.cut m.v.length) ?_ _ _
          unfold RefR
          show (m1.v.take m.v.length)[k]? = some none ∨ ∃ l a, (m1.v.take m.v.length)[k]? = some (some l) ∧ l.head? = some a ∧ v = .ref a
          rw [e2]
          exact r
theorem call_gd {F : Fn} {ws : List W} {μ : Mem} {m : Ms} {H : Hp} {vs : List V} {σ : L2.St} {Z : WX} {Q : VK} (r : RVs K m H ws vs) (hh : RH K m H μ) (g : Gd K ct Z m σ H (callF F ws μ) (PV K Q)) :
    ∃ m0 μ0, RVs K m0 H ws vs ∧ RH K m0 H μ0 ∧ Gd K ct (fun c d _ H' => Z c d σ H') m0 [] H (F ws μ0) (PV K Q) := by
  cases e : datas ws with
  | none => exact ⟨m, μ, r, hh, call_all hh e g⟩
  | some xs => exact ⟨m.all, [], rvs_all r e, hh.allH, call_alone hh e g⟩
end
section
variable {X : Cx} {ct : Ct} {Z : WX} {k : Nat} {x : Str} {F : Fn} {dws : List PyData} {p pos : Pos}
theorem fn_run {f : Addr} {fd : FuncData} {ps : List Str} {ds : List Value} {dvs : List V} (G : FnG X.prog X.w X.K X.mg X.base ct k f fd ps F) (hb : Binds X.K fd ps ds) (hd : Vals dvs ds) (hD : ∀ L H, DvAll X.K L H dvs dws) (hr : Room k X.A) (hgd : X.A.guards = some []) (tk : Takes X Z)
    {pins : List (Addr × Obj)} {σ : L2.St} {H : Hp} {s : Shared} {Q : VK} {us : List Value} {vs : List V} {m : Ms} {μ : Mem} {ws : List W} (I : Inv X pins σ H s) (r : Vals vs us) (rv : RVs X.K m H ws vs) (hh : RH X.K m H μ)
    (g : Gd X.K ct Z m σ H (callF F (ws ++ dws.map W.d) μ) (PV X.K Q)) : wpAny (model X.prog X.w) X.A (call (.ref f) us) (EP X pins σ Q) X.xe s := by
  have r2 : Vals (vs ++ dvs) (us ++ ds) := r.append hd
  have rv2 : RVs X.K m H (ws ++ dws.map W.d) (vs ++ dvs) := rvs_app rv (rvs_map (hD _ H))
  obtain ⟨m0, μ0, k1, k2, k3⟩ := call_gd rv2 hh g
  have hl : (us ++ ds).length = ps.length := by
    rw [← r2.length, ← Paired.length k1]
    refine G.len _ μ0 fun z => ?_
    rw [z] at k3
    exact k3
  refine wpAny_call (codeAny_mono (G.run X.A X.stack s H ⟨us, []⟩ (us ++ ds) (vs ++ dvs) Q (WE Z σ) m0 μ0 _ hr hgd I.env0 (hb s us I.kIn hl) r2 k1 k2 k3) fun r s' hq => ?_)
  cases r with
  | error e => exact passAt tk σ pins H s e s' I hq
  | ok fl =>
    cases fl with
    | ret u => exact I.after hq
    | next => exact False.elim hq
    | brk => exact False.elim hq
    | cont => exact False.elim hq
theorem mCall (c : CalG X.prog X.w X.K X.mg X.base ct k x F dws) (hr : Room k X.A) (hgd : X.A.guards = some []) (tk : Takes X Z) {e : Expr} {es : List Expr} {da : DA} (ha : MA X ct Z (e :: es) da) (hg : Gl X x := by rfl)
    (hdb : (x == ("__debug__" : Str)) = false := by decide) (he : starEach (e :: es) X.env = (false, eval e X.env) :: starEach es X.env := by rfl) (hpl : (backTo pos (starEach es X.env)).any (·.1) = false := by rfl) : ME X ct Z (.Call (.Name x p) (e :: es) [] pos) (dCall F dws da) := by
  obtain ⟨f, fd, ps, ds, dvs, G, hm, hk, hb, hd, hD⟩ := c.ex
  refine ⟨⟨fun pins s σ H Q I h => ?_⟩⟩
  obtain ⟨m, ρ, μ, hρ, hh, g⟩ := h
  refine wpAny_Call_Name_kw (ld_glob I hg hm ?_ hdb)
  refine PySem.W.callWith_K (h₀ := X.base) I.ok.mod.kin hk (thn (ha.pa.run pos pins s σ H (fun vs H1 => ∃ m μ ws, RVs X.K m H1 ws vs ∧ RH X.K m H1 μ ∧ Gd X.K ct Z m σ H1 (callF F (ws ++ dws.map W.d) μ) (PV X.K Q)) I
    ⟨m, ρ, μ, hρ, hh, (Gd.bnd g).mono fun ws μ1 m1 H1 e1 h1 g1 vs r1 => ⟨m1, μ1, ws, r1, h1, g1⟩⟩) fun us s1 ⟨vs, H1, I1, r, m1, μ1, ws, r1, h1, g1⟩ => ⟨I1.kIn, ?_⟩) he hpl
  exact fn_run G hb hd hD hr hgd tk I1 r r1 h1 g1
end
def fnF (np n : Nat) (body : DS) : Fn := fun ws μ => if ws.length = np then (match body (ws.map some ++ List.replicate (n - ws.length) none) μ with
  | .nx _ μ' => .ok (.d .none) μ'
  | .rt w μ' => .ok w μ'
  | .exc x _ μ' => .exc x μ'
  | _ => .bad) else .bad
section
variable {P : Program} {w : World} {K : PySem.W.Frag} {mg : Str → Option Value} {base : Heap} {ct : Ct}
theorem paired_get {α β : Type} {R : α → β → Prop} {l₁ : List α} {l₂ : List β} (h : Paired R l₁ l₂) {i : Nat} {a : α} (e : l₁[i]? = some a) : ∃ b, l₂[i]? = some b ∧ R a b := by
  induction h generalizing i with
  | nil => simp at e
  | cons r t ih =>
    cases i with
    | zero =>
      simp only [List.getElem?_cons_zero, Option.some.injEq] at e
      subst e
      exact ⟨_, rfl, r⟩
    | succ i => exact ih (i := i) (by simpa using e)
theorem env_start {m : Ms} {H : Hp} {ws : List W} {vs : List V} {N : List Str} (r : RVs K m H ws vs) : EnvR K m H (ws.map some ++ List.replicate (N.length - ws.length) none) (L2.start N vs) := by
  have hl : ws.length = vs.length := Paired.length r
  refine ⟨by unfold L2.start; simp [hl], fun i w q => ?_⟩
  unfold L2.start
  by_cases hi : i < ws.length
  · rw [List.getElem?_append_left (by simpa using hi), List.getElem?_map] at q
    rw [List.getElem?_append_left (by rw [List.length_map, ← hl]; exact hi), List.getElem?_map]
    obtain ⟨w', h1, h2⟩ := Option.map_eq_some_iff.mp q
    cases h2
    obtain ⟨v, h3, h4⟩ := paired_get r h1
    exact ⟨v, by rw [h3]; rfl, h4⟩
  · rw [List.getElem?_append_right (by simpa using hi), List.getElem?_replicate] at q
    split at q <;> cases q
theorem fnG {x qual : Str} {st : Stmt} {f : Addr} {fd : FuncData} {N ps : List Str} {k : Nat} {body : DS} (Fu : C8.Fun K x qual st f fd) (S : FnScope N ps (C8.fnScope st))
    (hb : ∀ (cdv : Value) (A : Around) (outer : List PySem.Env) (s : Shared) (H : Hp) (E : XK), Room k (cxOf (L2.CX P w) P w K mg base N qual (C8.fnScope st) f cdv A outer s H E).A → (cxOf (L2.CX P w) P w K mg base N qual (C8.fnScope st) f cdv A outer s H E).A.guards = some [] →
      MSs (cxOf (L2.CX P w) P w K mg base N qual (C8.fnScope st) f cdv A outer s H E) ct (fun c d _ H' => E c d H') (C8.fnBody st) body) : FnG P w K mg base ct (k + 1) f fd ps (fnF ps.length N.length body) := by
  obtain ⟨oc, od, dV, kV, doc, pm, an, cdv, ctv, osl, rfl, look, code⟩ := Fu.ex
  have len : ∀ ws μ, fnF ps.length N.length body ws μ ≠ .bad → ws.length = ps.length := fun ws μ h => by
    unfold fnF at h
    split at h
    · assumption
    · exact (h rfl).elim
  refine ⟨len, fun A outer s H args us vs Q E m μ ws room hgd e0 bind rel rv hh g => ?_⟩
  have hws : ws.length = ps.length := len ws μ fun z => by rw [z] at g; exact g
  have hl : vs.length = ps.length := by rw [← Paired.length rv]; exact hws
  have inK : K.In s.heap := e0.mod.kin.keeps fun b o e => (e0.bs b o e).1
  have noLim : s.heap.NoLimit := e0.mod.nolimit.keeps fun b o e => (e0.bs b o e).1
  have kinds : ∀ z ∈ ps.zip us, (C8.fnScope st).names.lookup z.1 = some .local ∨ ((C8.fnScope st).names.lookup z.1 = some .cell ∧ ((cellsFrom (s.heap.objs.size + 1) (C8.fnScope st).names []).lookup z.1).isSome = true) := by
    rintro ⟨m, v⟩ hz
    rcases S.par m (List.of_mem_zip hz).1 with z | z
    · exact Or.inl z
    · exact Or.inr ⟨z, PySem.W.cellsFrom_some _ _ _ (Or.inl z)⟩
  apply codeAny_call_function room.depth (inK _ _ look) rfl S.co S.gen rfl (PySem.W.codeRec_of inK code)
  apply bind
  apply wpAny_newFunctionEnv_cells S.kind kinds
  intro env he s1 y
  subst he
  constructor
  · exact noLim.keeps y.toInCall.keep
  apply codeAny_func
  have J := inv_start (CX := L2.CX P w) (P := P) (w := w) (E := E) S room.hd e0 hl rel y
  have B := (hb cdv A outer s H E (room.deeper _) hgd).pss
  refine wpAny_mono (B.run [] s1 (L2.start N vs) H { nx := fun _ H' => Q .non H', rt := Q } J ⟨m, _, μ, env_start rv, hh, ?_⟩) (fun fl s' hs => ?_) fun e s' hs => hs
  · unfold fnF at g
    rw [if_pos hws] at g
    cases q : body (ws.map some ++ List.replicate (N.length - ws.length) none) μ with
    | nx ρ' μ' => rw [q] at g; exact fun m' σ' H' e h' _ => g m' H' e h' .non .non
    | rt w' μ' => rw [q] at g; exact fun m' H' v e h' r => g m' H' e h' v r
    | exc x' ρ' μ' => rw [q] at g; exact fun m' σ' H' cls d e h' _ xr => g m' H' cls d e h' xr
    | bk _ _ => rw [q] at g; exact g.elim
    | ct _ _ => rw [q] at g; exact g.elim
    | bad => rw [q] at g; exact g.elim
  · cases fl with
    | ret u =>
      obtain ⟨v, σ', H', I, rv, z⟩ := hs
      exact ⟨v, H', I.os, I.bare, I.base, I.hok, rv, z⟩
    | next =>
      obtain ⟨σ', H', I, z⟩ := hs
      exact ⟨V.non, H', I.os, I.bare, I.base, I.hok, rfl, z⟩
    | brk => exact hs.elim fun _ h => h.elim fun _ h => h.2.elim
    | cont => exact hs.elim fun _ h => h.elim fun _ h => h.2.elim
theorem def_takes {N : List Str} {qual : Str} {scope : Scope} {f : Addr} {cd : Value} {A : Around} {outer : List PySem.Env} {s : Shared} {H : Hp} {E : XK} : Takes (cxOf (L2.CX P w) P w K mg base N qual scope f cd A outer s H E) (fun c d _ H' => E c d H') :=
  takes_of rfl rfl rfl rfl
theorem def_owns {N : List Str} {qual : Str} {scope : Scope} {f : Addr} {cd : Value} {A : Around} {outer : List PySem.Env} {s : Shared} {H : Hp} {E : XK} :
    PassesOwn (model P w) (cxOf (L2.CX P w) P w K mg base N qual scope f cd A outer s H E).A (cxOf (L2.CX P w) P w K mg base N qual scope f cd A outer s H E).env (cxOf (L2.CX P w) P w K mg base N qual scope f cd A outer s H E).xe :=
  passes_of (X := cxOf (L2.CX P w) P w K mg base N qual scope f cd A outer s H E) rfl
end
theorem takesF {X : Cx} : Takes X ZF := fun _ _ h => by
  obtain ⟨_, _, _, _, _, _, _, _, _, _, _, _, _, _, _, _, w⟩ := h
  exact w.elim
end Mok05
set_option autoImplicit false
namespace Mok05
variable [Wd]
open PySem PySem.Spec PyProof.Rows L2
open PySem.AutoSeq1 in
theorem list_extend_tupleW (l : Addr) (items : Array Value) (n : Nat) (b : Addr) (items2 : Array Value) (n2 : Nat) (dd : Option Addr) (sl : Array (Option Value)) (hs0 : ¬(!items.isEmpty && Builtin.List.listTooLong (items.size + items2.size)) = true) (hs1 : items.size ≤ sizeLine) (hs2 : items.size + items2.size ≤ sizeLine + 1) :
    Meets (Builtin.«list.extend» ⟨[.ref l, .ref b], []⟩) (fun _ R s => s.heap.get? l = some { cls := .type "list", dict := none, data := .seq items n, slots := #[] } ∧ s.heap.get? b = some { cls := .type "tuple", dict := dd, data := .seq items2 n2, slots := sl } ∧ R (.ok (.ret Value.none)) { s with heap := s.heap.update l (Obj.mapSeq fun x => x ++ items2), toks := s.toks }) :=
  .of_wp fun prog w A R s h => by
    obtain ⟨hp, g, d, tk, os⟩ := s; obtain ⟨hl, hb, h⟩ := h; have f1 := idx_int; have f2 := PySem.AutoSeq1.sub_tuple_tuple; have f3 := PySem.AutoSeq1.sub_list_list; have f4 := PySem.AutoSeq1.sub_tuple_list; have f5 := PySem.AutoSeq1.sub_list_tuple;
    have hz' : (items ++ items2).size ≤ sizeLine + 1 := by rw [Array.size_append]; exact hs2
    wp_walk using (wpAny_updateSeq hl rfl (hz := hs1) (_hz' := hz')), wpAny_loadPart' hl, wpAny_loadPart' hb; exact ⟨_, rfl, h⟩
section
variable {X : Cx} {ct : Ct} {Z : WX}
def rExtendT (K : PySem.W.Frag) : V → List V → Hp → VK → Prop := fun x vs H Q => ∃ l b xs zs, x = .ref l ∧ vs = [.ref b] ∧ H l = some (.lst xs) ∧ SqT K H b zs ∧ xs.length + zs.length ≤ sizeLine ∧ Q .non (upd H l (.lst (xs ++ zs)))
theorem mt_extendT : MtM X "list.extend" (rExtendT X.K) := by
  intro pins s σ H x vs v us Q I rx rv h
  obtain ⟨l, b, xs, zs, rfl, rfl, hH, hB, hz, q⟩ := h
  cases rx
  obtain ⟨u, rfl, ru⟩ := rv.one
  cases ru
  obtain ⟨z, its, n, r, hl, e⟩ := I.lstM hH
  obtain ⟨its2, r2, ⟨⟨cls2, dd2, data2, sl2⟩, ho2, hc2, n2, hd2⟩, hl2⟩ := I.tuple hB
  simp only at hc2 hd2
  subst hc2 hd2
  have e2 := r2.length
  have hsz : its.toArray.size + its2.toArray.size ≤ sizeLine := by rw [List.size_toArray, List.size_toArray]; omega
  have hlong : ¬ (!its.toArray.isEmpty && Builtin.List.listTooLong (its.toArray.size + its2.toArray.size)) = true := by
    rw [notLongL hsz, Bool.and_false]
    exact Bool.false_ne_true
  refine call_meets F.slot_list_extend ⟨_, e, rfl⟩ F.entry_list_extend (F.args_list_extend_2 _ _)
    (list_extend_tupleW l its.toArray n b its2.toArray n2 dd2 sl2 hlong (by rw [List.size_toArray]; omega) (by omega)) ⟨e, ho2, ?_⟩
  refine ⟨.non, _, I.lset (its' := its ++ its2) hH e (by simp) (r.append r2) ?_, rfl, q⟩
  rw [List.length_append]
  omega
theorem extend_op : MtO X "list.extend" opExtend := by
  intro pins s σ H x xs v us Q I rx rs h
  obtain ⟨m, μ, ws, r, hh, g⟩ := h
  unfold opExtend at g
  split at g
  · rename_i n b
    cases r with
    | cons r1 t =>
      cases t with
      | cons r2 t =>
        cases t
        split at g
        · rename_i ys e
          split at g
          · rename_i zs e2
            split at g
            · rename_i hz
              obtain ⟨a, vs, h1, rfl, h2, h3⟩ := lst_at r1 hh e
              by_cases ht : ∃ ts, b = .d (.tuple ts)
              · obtain ⟨ts, rfl⟩ := ht
                cases e2
                cases r2 with
                | tup k1 k2 =>
                  obtain ⟨e1, h4⟩ := put_lst hh h1 h2 (h3.app k2)
                  exact mt_extendT pins s σ H _ _ v us Q I rx rs ⟨a, _, vs, _, rfl, rfl, h2, k1.sq, by have := sz_le hz; rw [h3.len, k2.len]; exact this, g _ _ _ e1 h4 .non⟩
              · have e3 : listV b μ = some zs := by
                  cases b with
                  | d y => cases y with
                    | list l => exact e2
                    | tuple l => exact (ht ⟨l, rfl⟩).elim
                    | _ => cases e2
                  | r n => exact e2
                  | s n => cases e2
                  | e _ _ _ _ => cases e2
                  | o _ => cases e2
                obtain ⟨b', us', rfl, k1, k2⟩ := listV_ok r2 hh e3
                obtain ⟨e1, h4⟩ := put_lst hh h1 h2 (h3.app k2)
                exact mt_extend pins s σ H _ _ v us Q I rx rs ⟨a, b', vs, us', rfl, rfl, h2, k1, by have := sz_le hz; rw [h3.len, k2.len]; exact this, g _ _ _ e1 h4 .non⟩
            · exact g.elim
          · exact g.elim
        · exact g.elim
  · exact g.elim
theorem mStar {e : Expr} {es : List Expr} {p : Pos} {da : DE} {dr : DA} (ha : ME X ct Z e da) (hr : MA X ct Z es dr) (hs : starEach (.Starred e p :: es) X.env = (true, eval e X.env) :: starEach es X.env := by rfl) : MA X ct Z (.Starred e p :: es) (dStar da dr) := by
  refine ⟨pa_imp (StX.pa_star ha.pe hr.pa hs) fun σ H Q h => ?_⟩
  obtain ⟨m, ρ, μ, he, hh, g⟩ := h
  refine ⟨m, ρ, μ, he, hh, (Gd.bnd g).mono fun a μ1 m1 H1 e1 h1 g1 v r1 => ?_⟩
  cases q : viewL a μ1 with
  | none => rw [q] at g1; exact g1.elim
  | some ys =>
    rw [q] at g1
    obtain ⟨b, vs, rfl, hq, hall⟩ := view_ok r1 h1 q
    refine ⟨b, vs, rfl, hq.symm, m1, ρ, μ1, he.ext e1, h1, (Gd.bnd g1).mono fun xs μ2 m2 H2 e2 h2 g2 us r2 => ?_⟩
    exact g2 m2 H2 (.refl _ _) h2 _ (rvs_app (rvs_map (hall.stay e2.ks)) r2)
def opTu : Op
  | [w], μ => opTuple [w] μ
  | _, _ => none
theorem tu_op : CallO X (.type "tuple") opTu := by
  intro pins s σ H xs us Q I r h
  obtain ⟨m, μ, ws, rr, hh, g⟩ := h
  unfold opTu at g
  split at g
  · cases rr with
    | cons r1 t =>
      cases t
      exact tuple_op1 I r r1 hh g
  · exact g.elim
def opLs (own : Bool) : Op
  | [w], μ => opList own [w] μ
  | _, _ => none
theorem ls_op {own : Bool} : CallO X (.type "list") (opLs own) := by
  intro pins s σ H xs us Q I r h
  obtain ⟨m, μ, ws, rr, hh, g⟩ := h
  unfold opLs at g
  split at g
  · cases rr with
    | cons r1 t =>
      cases t
      exact list_op1 I r r1 hh g
  · exact g.elim
def opInt : Op
  | [.d (.int i)], μ => pI i μ
  | [.d (.bool b)], μ => pI (if b then 1 else 0) μ
  | _, _ => none
def sLet (i : Nat) : DS := fun ρ μ => match ρ[i]? with
  | some (some w) => match frzW w μ with
    | some (x, μ1) => .nx (ρ.set i (some (.d x))) μ1
    | none => .bad
  | _ => .bad
theorem set_self {σ : L2.St} {i : Nat} {v : V} (h : σ[i]? = some (some v)) : σ.set i (some v) = σ := by
  apply List.ext_getElem?
  intro j
  by_cases e : i = j
  · subst e
    rw [List.getElem?_set_self (List.getElem?_eq_some_iff.mp h).1, h]
  · rw [List.getElem?_set_ne e]
theorem msLet (i : Nat) {sts : List Stmt} {d : DS} (h : MSs X ct Z sts d) : MSs X ct Z sts (sSeq (sLet i) d) := by
  refine ⟨pss_imp h.pss fun D σ H q => ?_⟩
  obtain ⟨m, ρ, μ, he, hh, g⟩ := q
  unfold sSeq sLet at g
  cases hw : ρ[i]? with
  | none => rw [hw] at g; exact g.elim
  | some o =>
    rw [hw] at g
    cases o with
    | none => exact g.elim
    | some w =>
      dsimp only at g
      cases hz : frzW w μ with
      | none => rw [hz] at g; exact g.elim
      | some p =>
        rw [hz] at g
        obtain ⟨v, h1, h2⟩ := he.at_ i w hw
        obtain ⟨m', e, h3, h4⟩ := frz_ok (x := p.1) (μ' := p.2) h2 hh hz
        refine ⟨m', _, _, ?_, h3, Gs.ext g e⟩
        have := (he.ext e).set (w := .d p.1) h4 i
        rwa [set_self h1] at this
end
theorem fnG_bad {P : Program} {w : World} {K : PySem.W.Frag} {mg : Str → Option Value} {base : Heap} {ct : Ct} {k : Nat} {f : Addr} {fd : FuncData} {ps : List Str} : FnG P w K mg base ct k f fd ps (fun _ _ => .bad) :=
  ⟨fun _ _ h => (h rfl).elim, fun _ _ _ _ _ _ _ _ _ _ _ _ _ _ _ _ _ _ _ g => g.elim⟩
def DefAt (K : PySem.W.Frag) (mg : Str → Option Value) (x : Str) (st : Stmt) (ps : List Str) : Prop := ∃ (f : Addr) (fd : FuncData), C8.Fun K x x st f fd ∧ mg x = some (.ref f) ∧ PySem.W.keepIn K (.ref f) = true ∧ Binds K fd ps []
section
variable {P : Program} {w : World} {K : PySem.W.Frag} {mg : Str → Option Value} {base : Heap} {ct : Ct} {k : Nat} {x : Str} {st : Stmt} {N ps : List Str} {body : DS}
theorem calG_bad (D : DefAt K mg x st ps) : CalG P w K mg base ct k x (fun _ _ => .bad) [] := by
  obtain ⟨f, fd, _, h2, h3, h4⟩ := D
  exact ⟨f, fd, ps, [], [], fnG_bad, h2, h3, h4, .nil, fun _ _ => .nil⟩
theorem calG_of (np n : Nat) (D : DefAt K mg x st ps) (S : FnScope N ps (C8.fnScope st)) (hnp : np = ps.length) (hn : n = N.length)
    (hb : ∀ (f : Addr) (cdv : Value) (A : Around) (outer : List PySem.Env) (s : Shared) (H : Hp) (E : XK), Room k (A.deeper (envOfC x (C8.fnScope st) s.heap.objs.size f cdv)) → (A.deeper (envOfC x (C8.fnScope st) s.heap.objs.size f cdv)).guards = some [] →
      MSs (cxOf (L2.CX P w) P w K mg base N x (C8.fnScope st) f cdv A outer s H E) ct (fun c d _ H' => E c d H') (C8.fnBody st) body) : CalG P w K mg base ct (k + 1) x (fnF np n body) [] := by
  subst hnp hn
  obtain ⟨f, fd, h1, h2, h3, h4⟩ := D
  exact ⟨f, fd, ps, [], [], fnG h1 S (hb f), h2, h3, h4, .nil, fun _ _ => .nil⟩
def CalP (P : Program) (w : World) (K : PySem.W.Frag) (mg : Str → Option Value) (base : Heap) (ct : Ct) (k : Nat) (x : Str) (ps : List Str) (F : Fn) : Prop := ∃ (f : Addr) (fd : FuncData), FnG P w K mg base ct k f fd ps F ∧ mg x = some (.ref f) ∧ Binds K fd ps []
theorem calP_of (np n : Nat) (D : DefAt K mg x st ps) (S : FnScope N ps (C8.fnScope st)) (hnp : np = ps.length) (hn : n = N.length)
    (hb : ∀ (f : Addr) (cdv : Value) (A : Around) (outer : List PySem.Env) (s : Shared) (H : Hp) (E : XK), Room k (A.deeper (envOfC x (C8.fnScope st) s.heap.objs.size f cdv)) → (A.deeper (envOfC x (C8.fnScope st) s.heap.objs.size f cdv)).guards = some [] →
      MSs (cxOf (L2.CX P w) P w K mg base N x (C8.fnScope st) f cdv A outer s H E) ct (fun c d _ H' => E c d H') (C8.fnBody st) body) : CalP P w K mg base ct (k + 1) x ps (fnF np n body) := by
  subst hnp hn
  obtain ⟨f, fd, h1, h2, h3, h4⟩ := D
  exact ⟨f, fd, fnG h1 S (hb f), h2, h4⟩
theorem def_at {h : Heap} {f : Addr} {oc kV doc pm cdv ctv : Value} {od an : Option Addr} {osl : Array (Option Value)} (KX : K.In h) (G : h.Ns mainGlobals mg) (a : PySem.W.nsIn K mainGlobals x = some (some (.ref f)))
    (l : K.lookup f = some ⟨oc, od, .func (PySem.W.fnOf x x (C8.fnArgs st) (C8.fnBody st) (C8.fnScope st) .none kV doc pm an cdv ctv), osl⟩) (c : PySem.W.codeIn K cdv x = true) (kp : PySem.W.keepIn K (.ref f) = true)
    (hb : ∀ (kV doc pm : Value) (an : Option Addr) (cdv ct : Value) (us : List Value), us.length = ps.length → bindArgs (PySem.W.fnOf x x (C8.fnArgs st) (C8.fnBody st) (C8.fnScope st) .none kV doc pm an cdv ct) ⟨us, []⟩ = pure (ps.zip us)) : DefAt K mg x st ps :=
  ⟨f, _, ⟨oc, od, .none, kV, doc, pm, an, cdv, ctv, osl, rfl, l, c⟩, PySem.W.mg_of KX G a, kp, .all (hb kV doc pm an cdv ctv)⟩
end
theorem hu4 {n m : Nat} (h : n + 66 < m) : n + 64 < m := by omega
theorem hu_room {A : Around} {k : Nat} (h : Room k A) : A.units + 66 < cLine := by
  have := h.un
  omega
end Mok05
set_option autoImplicit false
namespace Mok05
variable [Wd]
end Mok05
set_option autoImplicit false
namespace Mok05
variable [Wd]
open PySem PySem.Spec PyProof.Rows L2
def Ok {α : Type} (r : Res α) (P : α → Mem → Prop) : Prop := match r with
  | .ok a μ => P a μ
  | _ => False
def OkO (r : Option (W × Mem)) (P : W → Mem → Prop) : Prop := match r with
  | some (w, μ) => P w μ
  | none => False
def Oks (r : SR) (N : Env → Mem → Prop) (R : W → Mem → Prop) (B C : Env → Mem → Prop) : Prop := match r with
  | .nx ρ μ => N ρ μ
  | .rt w μ => R w μ
  | .bk ρ μ => B ρ μ
  | .ct ρ μ => C ρ μ
  | _ => False
section
variable {α β : Type} {P : α → Mem → Prop} {Pb : β → Mem → Prop} {Pw : W → Mem → Prop} {PB : Bool → Mem → Prop} {Pl : List W → Mem → Prop} {ρ : Env} {μ : Mem} {N B C : Env → Mem → Prop} {R : W → Mem → Prop}
@[simp] theorem ok_ok {a : α} : Ok (.ok a μ) P = P a μ := rfl
@[simp] theorem ok_bad : Ok (Res.bad : Res α) P = False := rfl
@[simp] theorem ok_exc {x : Xc} : Ok (Res.exc x μ : Res α) P = False := rfl
@[simp] theorem ok_bnd {r : Res α} {f : α → Mem → Res β} : Ok (bnd r f) Pb = Ok r fun a μ1 => Ok (f a μ1) Pb := by cases r <;> rfl
@[simp] theorem ok_ofO {o : Option (W × Mem)} : Ok (ofO o) Pw = OkO o Pw := by
  cases o with
  | none => rfl
  | some p => rfl
@[simp] theorem okO_some {w : W} : OkO (some (w, μ)) Pw = Pw w μ := rfl
@[simp] theorem okO_none : OkO none Pw = False := rfl
theorem Ok.mono {r : Res α} {P' : α → Mem → Prop} (h : Ok r P) (k : ∀ a μ, P a μ → P' a μ) : Ok r P' := by
  cases r with
  | ok a μ => exact k a μ h
  | exc _ _ => exact h
  | bad => exact h
theorem Ok.ex {r : Res α} (h : Ok r P) : ∃ a μ, r = .ok a μ ∧ P a μ := by
  cases r with
  | ok a μ => exact ⟨a, μ, rfl, h⟩
  | exc _ _ => exact h.elim
  | bad => exact h.elim
@[simp] theorem ok_dC {x : PyData} : Ok (dC x ρ μ) Pw = Pw (.d x) μ := rfl
@[simp] theorem ok_dP1 {f : Op} {a : DE} : Ok (dP1 f a ρ μ) Pw = Ok (a ρ μ) fun x μ1 => OkO (f [x] μ1) Pw := by simp [dP1]
@[simp] theorem ok_dP2 {f : Op} {a b : DE} : Ok (dP2 f a b ρ μ) Pw = Ok (a ρ μ) fun x μ1 => Ok (b ρ μ1) fun y μ2 => OkO (f [x, y] μ2) Pw := by simp [dP2]
@[simp] theorem ok_dPn {f : Op} {a : DA} : Ok (dPn f a ρ μ) Pw = Ok (a ρ μ) fun xs μ1 => OkO (f xs μ1) Pw := by simp [dPn]
@[simp] theorem ok_dMt {T : String} {f : Op} {a : DE} {b : DA} : Ok (dMt T f a b ρ μ) Pw = Ok (a ρ μ) fun x μ1 => tyW T x μ1 = true ∧ Ok (b ρ μ1) fun ys μ2 => OkO (f (x :: ys) μ2) Pw := by
  simp only [dMt, ok_bnd]
  congr 1
  funext x μ1
  split
  · simp [*]
  · simp [*]
@[simp] theorem ok_dNil : Ok (dNil ρ μ) Pl = Pl [] μ := rfl
@[simp] theorem ok_dCons {a : DE} {b : DA} : Ok (dCons a b ρ μ) Pl = Ok (a ρ μ) fun x μ1 => Ok (b ρ μ1) fun xs μ2 => Pl (x :: xs) μ2 := by simp [dCons]
@[simp] theorem ok_dStar {a : DE} {b : DA} : Ok (dStar a b ρ μ) Pl = Ok (a ρ μ) fun x μ1 => match viewL x μ1 with
    | some ys => Ok (b ρ μ1) fun xs μ2 => Pl (ys.map W.d ++ xs) μ2
    | none => False := by
  simp only [dStar, ok_bnd]
  congr 1
  funext x μ1
  cases viewL x μ1 <;> simp
@[simp] theorem ok_dCall {F : Fn} {dws : List PyData} {a : DA} : Ok (dCall F dws a ρ μ) Pw = Ok (a ρ μ) fun ws μ1 => Ok (callF F (ws ++ dws.map W.d) μ1) Pw := by simp [dCall]
@[simp] theorem ok_dIf {c : DT} {a b : DE} : Ok (dIf c a b ρ μ) Pw = Ok (c ρ μ) fun t μ1 => if t = true then Ok (a ρ μ1) Pw else Ok (b ρ μ1) Pw := by
  simp only [dIf, ok_bnd]
  congr 1
  funext t μ1
  split <;> rfl
@[simp] theorem ok_dTv {a : DE} : Ok (dTv a ρ μ) PB = Ok (a ρ μ) fun x μ1 => Ok (asB x μ1) PB := by simp [dTv]
@[simp] theorem ok_dTb {a : DE} : Ok (dTb a ρ μ) PB = Ok (a ρ μ) fun x μ1 => Ok (asBl x μ1) PB := by simp [dTb]
@[simp] theorem ok_asBl {b : Bool} : Ok (asBl (.d (.bool b)) μ) PB = PB b μ := rfl
@[simp] theorem ok_dNot {a : DT} : Ok (dNot a ρ μ) PB = Ok (a ρ μ) fun b μ1 => PB (!b) μ1 := by simp [dNot]
@[simp] theorem ok_dNotV {a : DE} : Ok (dNotV a ρ μ) Pw = Ok (a ρ μ) fun x μ1 => Ok (asB x μ1) fun b μ2 => Pw (.d (.bool !b)) μ2 := by simp [dNotV, dTv]
@[simp] theorem ok_dAnd {a b : DT} : Ok (dAnd a b ρ μ) PB = Ok (a ρ μ) fun t μ1 => if t = true then Ok (b ρ μ1) PB else PB false μ1 := by
  simp only [dAnd, ok_bnd]
  congr 1
  funext t μ1
  split <;> rfl
@[simp] theorem ok_dOr {a b : DT} : Ok (dOr a b ρ μ) PB = Ok (a ρ μ) fun t μ1 => if t = true then PB true μ1 else Ok (b ρ μ1) PB := by
  simp only [dOr, ok_bnd]
  congr 1
  funext t μ1
  split <;> rfl
@[simp] theorem ok_dAndV {a b : DE} : Ok (dAndV a b ρ μ) Pw = Ok (a ρ μ) fun x μ1 => Ok (asB x μ1) fun t μ2 => if t = true then Ok (b ρ μ2) Pw else Pw x μ2 := by
  simp only [dAndV, ok_bnd]
  congr 1
  funext x μ1
  congr 1
  funext t μ2
  split <;> rfl
@[simp] theorem ok_dChain {f f' : Op} {a b c : DE} : Ok (dChain f f' a b c ρ μ) Pw = Ok (a ρ μ) fun x μ1 => Ok (b ρ μ1) fun y μ2 => OkO (f [x, y] μ2) fun z μ3 => Ok (asBl z μ3) fun k μ4 => if k = true then Ok (c ρ μ4) fun u μ5 => OkO (f' [y, u] μ5) Pw else Pw (.d (.bool false)) μ4 := by
  simp only [dChain, ok_bnd, ok_ofO]
  congr 1
  funext x μ1
  congr 1
  funext y μ2
  congr 1
  funext z μ3
  congr 1
  funext k μ4
  split <;> simp
@[simp] theorem ok_dFrz {a : DE} : Ok (dFrz a ρ μ) Pw = Ok (a ρ μ) fun w μ1 => match frzW w μ1 with
    | some (x, μ2) => Pw (.d x) μ2
    | none => False := by
  simp only [dFrz, ok_bnd]
  congr 1
  funext x μ1
  cases frzW x μ1 <;> simp
@[simp] theorem ok_dNo {Po : Option Int → Mem → Prop} : Ok (dNo ρ μ) Po = Po none μ := rfl
@[simp] theorem ok_dPart {Po : Option Int → Mem → Prop} {a : DE} : Ok (dPart a ρ μ) Po = Ok (a ρ μ) fun x μ1 => Ok (asI x μ1) Po := by simp [dPart]
@[simp] theorem ok_asI {Po : Option Int → Mem → Prop} {i : Int} : Ok (asI (.d (.int i)) μ) Po = Po (some i) μ := rfl
@[simp] theorem ok_dSl {own : Bool} {a : DE} {l h : DO} : Ok (dSl own a l h ρ μ) Pw = Ok (a ρ μ) fun x μ1 => Ok (l ρ μ1) fun lo μ2 => Ok (h ρ μ2) fun hi μ3 => OkO (slW own lo hi x μ3) Pw := by simp [dSl]
@[simp] theorem ok_dI {f : W → Mem → Res Src} {a : DE} {Ps : Src → Mem → Prop} : Ok (dI f a ρ μ) Ps = Ok (a ρ μ) fun x μ1 => Ok (f x μ1) Ps := by simp [dI]
@[simp] theorem ok_dIs {f : List W → Mem → Res Src} {a : DA} {Ps : Src → Mem → Prop} : Ok (dIs f a ρ μ) Ps = Ok (a ρ μ) fun x μ1 => Ok (f x μ1) Ps := by simp [dIs]
@[simp] theorem ok_dV0 {w : W} : Ok (dV 0 (some w :: ρ) μ) Pw = Pw w μ := rfl
@[simp] theorem ok_dVs {i : Nat} {o : Option W} : Ok (dV (i + 1) (o :: ρ) μ) Pw = Ok (dV i ρ μ) Pw := by
  unfold dV
  rw [List.getElem?_cons_succ]
theorem dV_of {i : Nat} {w : W} (h : ρ[i]? = some (some w)) : dV i ρ μ = .ok w μ := by
  unfold dV
  rw [h]
@[simp] theorem oks_nx : Oks (.nx ρ μ) N R B C = N ρ μ := rfl
@[simp] theorem oks_rt {w : W} : Oks (.rt w μ) N R B C = R w μ := rfl
@[simp] theorem oks_bk : Oks (.bk ρ μ) N R B C = B ρ μ := rfl
@[simp] theorem oks_ct : Oks (.ct ρ μ) N R B C = C ρ μ := rfl
@[simp] theorem oks_bad : Oks .bad N R B C = False := rfl
@[simp] theorem oks_next : Oks (sNext ρ μ) N R B C = N ρ μ := rfl
@[simp] theorem oks_break : Oks (sBreak ρ μ) N R B C = B ρ μ := rfl
@[simp] theorem oks_cont : Oks (sCont ρ μ) N R B C = C ρ μ := rfl
@[simp] theorem oks_retN : Oks (sRetN ρ μ) N R B C = R (.d .none) μ := rfl
@[simp] theorem oks_seq {a b : DS} : Oks (sSeq a b ρ μ) N R B C = Oks (a ρ μ) (fun ρ1 μ1 => Oks (b ρ1 μ1) N R B C) R B C := by
  unfold sSeq
  cases a ρ μ <;> rfl
@[simp] theorem oks_ret {d : DE} : Oks (sRet d ρ μ) N R B C = Ok (d ρ μ) R := by
  unfold sRet
  cases d ρ μ <;> rfl
@[simp] theorem oks_set {i : Nat} {d : DE} : Oks (sSet i d ρ μ) N R B C = Ok (d ρ μ) fun w μ1 => N (ρ.set i (some w)) μ1 := by
  unfold sSet
  cases d ρ μ <;> rfl
@[simp] theorem oks_expr {d : DE} : Oks (sExpr d ρ μ) N R B C = Ok (d ρ μ) fun _ μ1 => N ρ μ1 := by
  unfold sExpr
  cases d ρ μ <;> rfl
@[simp] theorem oks_if {c : DT} {a b : DS} : Oks (sIf c a b ρ μ) N R B C = Ok (c ρ μ) fun t μ1 => if t = true then Oks (a ρ μ1) N R B C else Oks (b ρ μ1) N R B C := by
  unfold sIf
  cases c ρ μ with
  | ok t μ1 => cases t <;> rfl
  | exc _ _ => rfl
  | bad => rfl
@[simp] theorem oks_asg {g : PyData → Env → Option Env} {d : DE} : Oks (sAsg g d ρ μ) N R B C = Ok (d ρ μ) fun w μ1 => match w with
    | .d x => match g x ρ with
      | some ρ1 => N ρ1 μ1
      | none => False
    | _ => False := by
  unfold sAsg
  cases d ρ μ with
  | ok w μ1 =>
    cases w with
    | d x => dsimp only [ok_ok]; cases g x ρ <;> rfl
    | r n => rfl
    | s n => rfl
    | e _ _ _ _ => rfl
    | o _ => rfl
  | exc _ _ => rfl
  | bad => rfl
@[simp] theorem oks_st {dv o i : DE} : Oks (sSt dv o i ρ μ) N R B C = Ok (dv ρ μ) fun v μ1 => Ok (o ρ μ1) fun o μ2 => Ok (i ρ μ2) fun i μ3 => match stW o i v μ3 with
    | some μ4 => N ρ μ4
    | none => False := by
  unfold sSt
  rw [show ∀ r : Res Unit, Oks (nxt ρ (fun _ => ρ) r) N R B C = Ok r fun _ μ => N ρ μ from fun r => by cases r <;> rfl]
  simp only [ok_bnd]
  congr 1
  funext v μ1
  congr 1
  funext o μ2
  congr 1
  funext i μ3
  cases stW o i v μ3 <;> rfl
@[simp] theorem oks_let {i : Nat} : Oks (sLet i ρ μ) N R B C = Ok (dV i ρ μ) fun w μ1 => match frzW w μ1 with
    | some (x, μ2) => N (ρ.set i (some (.d x))) μ2
    | none => False := by
  unfold sLet dV
  cases ρ[i]? with
  | none => rfl
  | some o =>
    cases o with
    | none => rfl
    | some w =>
      dsimp only [ok_ok]
      cases frzW w μ <;> rfl
theorem ok_fnF {np n : Nat} {body : DS} {ws : List W} (h : ws.length = np) : Ok (fnF np n body ws μ) Pw = Oks (body (ws.map some ++ List.replicate (n - ws.length) none) μ) (fun _ μ1 => Pw (.d .none) μ1) Pw (fun _ _ => False) (fun _ _ => False) := by
  unfold fnF
  rw [if_pos h]
  cases body (ws.map some ++ List.replicate (n - ws.length) none) μ <;> rfl
def bk (w : W) (μ' μ : Mem) (P : W → Mem → Prop) : Prop := match w with
  | .d x => P (.d x) μ
  | .r n => match μ'[n]? with
    | some .dead => False
    | some (.q _ _) => False
    | some (.kl _) => False
    | some .emp => False
    | some (.ll _) => False
    | some (.kt _) => False
    | some o => P (.r μ.length) (μ ++ [o])
    | none => False
  | .s _ => False
  | .e _ _ _ _ => False
  | .o _ => False
@[simp] theorem bk_d {x : PyData} {μ' : Mem} : bk (.d x) μ' μ Pw = Pw (.d x) μ := rfl
def bkR (w : W) (μ' μ : Mem) (P : W → Mem → Prop) : Prop := match w with
  | .d x => P (.d x) (μ'.take μ.length)
  | .s x => P (.s x) (μ'.take μ.length)
  | .e _ _ _ _ => False
  | .o _ => False
  | .r n => if n < μ.length then P (.r n) (μ'.take μ.length) else match μ'[n]? with
    | some .dead => False
    | some (.q _ _) => False
    | some (.kl _) => False
    | some .emp => False
    | some (.ll _) => False
    | some (.kt _) => False
    | some o => P (.r (μ'.take μ.length).length) (μ'.take μ.length ++ [o])
    | none => False
@[simp] theorem bkR_d {x : PyData} {μ' : Mem} : bkR (.d x) μ' μ Pw = Pw (.d x) (μ'.take μ.length) := rfl
theorem ok_callR {F : Fn} {ws : List W} (h : datas ws = none) : Ok (callF F ws μ) Pw = Ok (F ws μ) fun w μ' => bkR w μ' μ Pw := by
  unfold callF
  rw [h]
  dsimp only
  cases F ws μ with
  | ok w μ' =>
    cases w with
    | d x => rfl
    | r n =>
      simp only [ok_ok, bkR, back]
      split
      · rfl
      · cases μ'[n]? with
        | none => rfl
        | some o => cases o <;> rfl
    | s n => rfl
    | e _ _ _ _ => rfl
    | o _ => rfl
  | exc _ _ => rfl
  | bad => rfl
theorem for_inv {xs : List PyData} {s : Src} {i : Nat} {b : DS} (I : List PyData → Env → Mem → Prop) (hs : s.1 = xs) (hl : ∀ done ρ μ, (∃ r, done ++ r = xs) → I done ρ μ → live s μ) (h0 : I [] ρ μ)
    (hstep : ∀ done x r ρ μ, done ++ x :: r = xs → I done ρ μ → Oks (b (ρ.set i (some (.d x))) μ) (fun ρ μ => I (done ++ [x]) ρ μ) R N (fun ρ μ => I (done ++ [x]) ρ μ)) (hend : ∀ ρ μ, I xs ρ μ → N ρ μ) :
    Oks (forL s (gN i) b s.1 ρ μ) N R B C := by
  rw [hs]
  suffices main : ∀ (r done : List PyData) (ρ : Env) (μ : Mem), done ++ r = xs → I done ρ μ → Oks (forL s (gN i) b r ρ μ) N R B C from main xs [] ρ μ rfl h0
  intro r
  induction r with
  | nil =>
    intro done ρ μ e hI
    rw [forL, if_pos (hl _ _ _ ⟨[], e⟩ hI)]
    rw [List.append_nil] at e
    subst e
    exact hend _ _ hI
  | cons x r ih =>
    intro done ρ μ e hI
    rw [forL, if_pos (hl _ _ _ ⟨_, e⟩ hI)]
    have hs := hstep done x r ρ μ e hI
    simp only [gN]
    cases q : b (ρ.set i (some (.d x))) μ with
    | nx ρ2 μ2 => rw [q] at hs; exact ih _ _ _ (by rw [List.append_assoc]; exact e) hs
    | ct ρ2 μ2 => rw [q] at hs; exact ih _ _ _ (by rw [List.append_assoc]; exact e) hs
    | bk ρ2 μ2 => rw [q] at hs; exact hs
    | rt w μ2 => rw [q] at hs; exact hs
    | exc _ _ _ => rw [q] at hs; exact hs
    | bad => rw [q] at hs; exact hs
@[simp] theorem oks_for {di : DI} {g : PyData → Env → Option Env} {b : DS} : Oks (sFor di g b ρ μ) N R B C = Ok (di ρ μ) fun s μ1 => Oks (forL s g b s.1 ρ μ1) N R B C := by
  unfold sFor
  cases di ρ μ <;> rfl
theorem ok_noX {r : Res α} : Ok (noX r) P = Ok r P := by cases r <;> rfl
theorem ok_dLc {own : Bool} {di : DI} {g : PyData → Env → Option Env} {tt : DT} {te : DE} {vs : List Nat} : Ok (dLc own di g tt te vs ρ μ) Pw = Ok (di ρ μ) fun s μ1 => Ok (lcL s g (lcOne tt te) (wipeE ρ vs) s.1 [] μ1) fun acc μ2 => Ok (lcEnd own acc μ2) Pw := by
  unfold dLc
  simp
@[simp] theorem lcEnd_f {acc : List PyData} : Ok (lcEnd false acc μ) Pw = Pw (.d (.list acc)) μ := rfl
@[simp] theorem lcEnd_t {acc : List PyData} : Ok (lcEnd true acc μ) Pw = Pw (.r μ.length) (μ ++ [.l acc]) := rfl
theorem ok_lcOne {tt : DT} {te : DE} {acc : List PyData} {Pa : List PyData → Mem → Prop} : Ok (lcOne tt te ρ acc μ) Pa = Ok (tt ρ μ) fun b μ1 => if b = true then Ok (te ρ μ1) fun w μ2 => match w with
    | .d y => acc.length < sizeLine ∧ Pa (acc ++ [y]) μ2
    | _ => False else Pa acc μ1 := by
  unfold lcOne
  simp only [ok_bnd, ok_noX]
  congr 1
  funext b μ1
  split
  · simp only [ok_bnd, ok_noX]
    congr 1
    funext w μ2
    cases w with
    | d y =>
      dsimp only
      split
      · rename_i hz; simp [hz]
      · rename_i hz; simp [hz]
    | r n => rfl
    | s n => rfl
    | e _ _ _ _ => rfl
    | o _ => rfl
  · rfl
theorem lc_inv {s : Src} {xs acc : List PyData} {i : Nat} {f : Env → List PyData → Mem → Res (List PyData)} {Pa : List PyData → Mem → Prop} (I : List PyData → List PyData → Mem → Prop) (hs : s.1 = xs) (hl : ∀ done acc μ, (∃ r, done ++ r = xs) → I done acc μ → live s μ) (h0 : I [] acc μ)
    (hstep : ∀ done x r acc μ, done ++ x :: r = xs → I done acc μ → Ok (f (ρ.set i (some (.d x))) acc μ) fun acc1 μ1 => I (done ++ [x]) acc1 μ1) (hend : ∀ acc μ, I xs acc μ → Pa acc μ) : Ok (lcL s (gN i) f ρ s.1 acc μ) Pa := by
  rw [hs]
  suffices main : ∀ (r done acc : List PyData) (μ : Mem), done ++ r = xs → I done acc μ → Ok (lcL s (gN i) f ρ r acc μ) Pa from main xs [] acc μ rfl h0
  intro r
  induction r with
  | nil =>
    intro done acc μ e hI
    rw [lcL, if_pos (hl _ _ _ ⟨[], e⟩ hI)]
    rw [List.append_nil] at e
    subst e
    exact hend _ _ hI
  | cons x r ih =>
    intro done acc μ e hI
    rw [lcL, if_pos (hl _ _ _ ⟨_, e⟩ hI)]
    have hs := hstep done x r acc μ e hI
    simp only [gN]
    obtain ⟨a, μ1, q, h⟩ := hs.ex
    rw [q, bnd_ok]
    exact ih _ _ _ (by rw [List.append_assoc]; exact e) h
theorem lc_map {s : Src} {xs ys : List PyData} {i : Nat} {te : DE} {Pa : List PyData → Mem → Prop} (hs : s.1 = xs) (hl : live s μ) (hx : xs.length = ys.length) (hz : xs.length ≤ sizeLine)
    (hstep : ∀ (j : Nat) (x y : PyData), xs[j]? = some x → ys[j]? = some y → te (ρ.set i (some (.d x))) μ = .ok (.d y) μ) (hend : Pa ys μ) : Ok (lcL s (gN i) (lcOne dYes te) ρ s.1 [] μ) Pa := by
  refine lc_inv (xs := xs) (fun done acc μ' => acc = ys.take done.length ∧ μ' = μ) hs (fun _ _ _ _ h => h.2 ▸ hl) ⟨by simp, rfl⟩ (fun done x r acc μ' e h => ?_) fun acc μ' h => ?_
  · obtain ⟨rfl, rfl⟩ := h
    have hj : xs[done.length]? = some x := by rw [← e]; simp
    have hd : done.length < xs.length := (List.getElem?_eq_some_iff.mp hj).1
    have hy : ys[done.length]? = some (ys[done.length]'(by omega)) := List.getElem?_eq_getElem _
    have := hstep _ _ _ hj hy
    rw [ok_lcOne]
    simp only [dYes, ok_ok, if_true, this]
    refine ⟨by rw [List.length_take]; omega, ?_, trivial⟩
    rw [List.length_append, List.length_singleton, List.take_add_one, hy]
    rfl
  · obtain ⟨rfl, rfl⟩ := h
    rw [hx, List.take_length]
    exact hend
end
section
variable {μ : Mem} {Pw : W → Mem → Prop}
@[simp] theorem listV_l {xs : List PyData} : listV (.d (.list xs)) μ = some xs := rfl
@[simp] theorem viewL_l {xs : List PyData} : viewL (.d (.list xs)) μ = some xs := rfl
@[simp] theorem viewL_t {xs : List PyData} : viewL (.d (.tuple xs)) μ = some xs := rfl
@[simp] theorem seqV_l {xs : List PyData} : seqV (.d (.list xs)) μ = some xs := rfl
@[simp] theorem seqV_t {xs : List PyData} : seqV (.d (.tuple xs)) μ = some xs := rfl
@[simp] theorem seqV_str {x : Str} : seqV (.d (.str x)) μ = none := rfl
@[simp] theorem peek_d {x : PyData} : peek (.d x) μ = some x := rfl
@[simp] theorem iV_l {xs : List PyData} {Ps : Src → Mem → Prop} : Ok (iV (.d (.list xs)) μ) Ps = Ps (xs, none) μ := rfl
@[simp] theorem iV_t {xs : List PyData} {Ps : Src → Mem → Prop} : Ok (iV (.d (.tuple xs)) μ) Ps = Ps (xs, none) μ := rfl
@[simp] theorem frzW_d {x : PyData} : frzW (.d x) μ = some (x, μ) := rfl
end
end Mok05
set_option autoImplicit false
namespace Mok05
variable [Wd]
open PySem PySem.Spec PyProof.Rows L2
section
variable {μ : Mem} {Pw : W → Mem → Prop}
@[simp] theorem atI_0 {α : Type} {x : α} {xs : List α} : atI (x :: xs) 0 = some x := by
  unfold atI ixN
  rw [if_pos (by decide), if_pos (by rw [List.length_cons]; omega)]
  rfl
@[simp] theorem atI_1 {α : Type} {x y : α} {xs : List α} : atI (x :: y :: xs) 1 = some y := by
  unfold atI ixN
  rw [if_pos (by decide), if_pos (by simp; omega)]
  rfl
@[simp] theorem atI_2 {α : Type} {x y z : α} {xs : List α} : atI (x :: y :: z :: xs) 2 = some z := by
  unfold atI ixN
  rw [if_pos (by decide), if_pos (by simp; omega)]
  rfl
@[simp] theorem atI_3 {α : Type} {x y z w : α} {xs : List α} : atI (x :: y :: z :: w :: xs) 3 = some w := by
  unfold atI ixN
  rw [if_pos (by decide), if_pos (by simp; omega)]
  rfl
theorem atI_in {α : Type} {xs : List α} {i : Int} (h0 : 0 ≤ i) (h1 : i < xs.length) : ∃ x, atI xs i = some x ∧ x ∈ xs := by
  unfold atI ixN
  rw [if_pos h0, if_pos h1]
  have : i.toNat < xs.length := by omega
  exact ⟨xs[i.toNat], by simp [this], List.getElem_mem _⟩
@[simp] theorem seqV_r {n : Nat} : seqV (.r n) μ = match μ[n]? with
    | some (.l xs) => some xs
    | _ => none := rfl
@[simp] theorem peek_r {n : Nat} : peek (.r n) μ = match μ[n]? with
    | some (.l xs) => some (.list xs)
    | some (.k kvs) => some (.dict kvs)
    | _ => none := rfl
@[simp] theorem listV_r {n : Nat} : listV (.r n) μ = match μ[n]? with
    | some (.l xs) => some xs
    | _ => none := rfl
theorem okO_ix {o : W} {i : Int} : OkO (opIxA [o, .d (.int i)] μ) Pw = match seqV o μ with
    | some xs => (match atI xs i with
      | some x => Pw (.d x) μ
      | none => OkO (opIxD [o, .d (.int i)] μ) Pw)
    | none => OkO (opIxA [o, .d (.int i)] μ) Pw := by
  cases h : seqV o μ with
  | none => rfl
  | some xs =>
    dsimp only
    simp only [opIxA, orO, opIx, h]
    cases atI xs i with
    | none => rfl
    | some x => rfl
theorem okO_ixr {n : Nat} {i : Int} {xs : List PyData} {x : PyData} (h : μ[n]? = some (.l xs)) (e : atI xs i = some x) : OkO (opIxA [.r n, .d (.int i)] μ) Pw = Pw (.d x) μ := by
  rw [okO_ix]
  simp [h, e]
@[simp] theorem okO_ixt {xs : List PyData} {i : Int} : OkO (opIxA [.d (.tuple xs), .d (.int i)] μ) Pw = match atI xs i with
    | some x => Pw (.d x) μ
    | none => False := by
  rw [okO_ix]
  simp only [seqV_t]
  cases atI xs i with
  | none => rfl
  | some x => rfl
@[simp] theorem okO_ixl {xs : List PyData} {i : Int} : OkO (opIxA [.d (.list xs), .d (.int i)] μ) Pw = match atI xs i with
    | some x => Pw (.d x) μ
    | none => False := by
  rw [okO_ix]
  simp only [seqV_l]
  cases atI xs i with
  | none => rfl
  | some x => rfl
@[simp] theorem okO_add {own : Bool} {i j : Int} : OkO (opAdd own [.d (.int i), .d (.int j)] μ) Pw = Pw (.d (.int (i + j))) μ := rfl
@[simp] theorem okO_sub {i j : Int} : OkO (opSub [.d (.int i), .d (.int j)] μ) Pw = Pw (.d (.int (i - j))) μ := rfl
@[simp] theorem okO_gt {i j : Int} : OkO (opGt [.d (.int i), .d (.int j)] μ) Pw = Pw (.d (.bool (decide (j < i)))) μ := rfl
@[simp] theorem okO_ge {i j : Int} : OkO (opGe [.d (.int i), .d (.int j)] μ) Pw = Pw (.d (.bool (decide (j ≤ i)))) μ := rfl
@[simp] theorem okO_le {i j : Int} : OkO (opLe [.d (.int i), .d (.int j)] μ) Pw = Pw (.d (.bool (decide (i ≤ j)))) μ := rfl
@[simp] theorem okO_lt {i j : Int} : OkO (opLt [.d (.int i), .d (.int j)] μ) Pw = Pw (.d (.bool (decide (i < j)))) μ := rfl
@[simp] theorem okO_mod {i j : Int} : OkO (opMod [.d (.int i), .d (.int j)] μ) Pw = (0 < j ∧ Pw (.d (.int (i % j))) μ) := by
  unfold opMod
  dsimp only
  split <;> simp [*, pI]
@[simp] theorem okO_div {i j : Int} : OkO (opDiv [.d (.int i), .d (.int j)] μ) Pw = (CDivW i j ∧ Pw (.d (.int (i / j))) μ) := by
  unfold opDiv
  dsimp only
  split <;> simp [*, pI]
@[simp] theorem okO_pow {i j : Int} : OkO (opPow [.d (.int i), .d (.int j)] μ) Pw = (CPow i j ∧ Pw (.d (.int (i ^ j.toNat))) μ) := by
  unfold opPow
  dsimp only
  split <;> simp [*, pI]
@[simp] theorem okO_mul {own : Bool} {i j : Int} : OkO (opMul own [.d (.int i), .d (.int j)] μ) Pw = (CMulX i j ∧ Pw (.d (.int (i * j))) μ) := by
  unfold opMul
  dsimp only
  split <;> simp [*, pI]
theorem okO_len {w : W} {xs : List PyData} (h : seqV w μ = some xs) : OkO ((orO opLen opLenD) [w] μ) Pw = Pw (.d (.int xs.length)) μ := by
  simp [orO, opLen, h, pI]
@[simp] theorem okO_lenl {xs : List PyData} : OkO ((orO opLen opLenD) [.d (.list xs)] μ) Pw = Pw (.d (.int xs.length)) μ := okO_len rfl
@[simp] theorem okO_lent {xs : List PyData} : OkO ((orO opLen opLenD) [.d (.tuple xs)] μ) Pw = Pw (.d (.int xs.length)) μ := okO_len rfl
@[simp] theorem strs_s {x y : Str} : bothS (.str x) (.str y) = true := rfl
@[simp] theorem strs_i {x : Int} {y : PyData} : bothS (.int x) y = false := rfl
@[simp] theorem strs_l {x : List PyData} {y : PyData} : bothS (.list x) y = false := rfl
@[simp] theorem strs_t {x : List PyData} {y : PyData} : bothS (.tuple x) y = false := rfl
@[simp] theorem strs_b {x : Bool} {y : PyData} : bothS (.bool x) y = false := rfl
@[simp] theorem strs_n {y : PyData} : bothS .none y = false := rfl
@[simp] theorem okO_eq {x y : PyData} : OkO (opEq false [.d x, .d y] μ) Pw = ((bothS x y = true ∨ SeqAt.shaped x = true ∧ SeqAt.shaped y = true) ∧ Pw (.d (.bool (PyData.eqv x y))) μ) := by
  simp only [opEq, peek_d, Bool.or_eq_true, Bool.and_eq_true]
  split <;> simp [*, pB]
@[simp] theorem okO_ne {x y : PyData} : OkO (opEq true [.d x, .d y] μ) Pw = ((bothS x y = true ∨ SeqAt.shaped x = true ∧ SeqAt.shaped y = true) ∧ Pw (.d (.bool (!PyData.eqv x y))) μ) := by
  simp only [opEq, peek_d, Bool.or_eq_true, Bool.and_eq_true]
  split <;> simp [*, pB]
@[simp] theorem okO_lst0 {ws : List W} : OkO (opLst false ws μ) Pw = match datas ws with
    | some xs => xs.length ≤ sizeLine ∧ Pw (.d (.list xs)) μ
    | none => False := by
  unfold opLst
  cases datas ws with
  | none => rfl
  | some xs =>
    simp only [Option.bind_some, mkL, sz, decide_eq_true_eq]
    split <;> simp [*]
@[simp] theorem okO_lst1 {ws : List W} : OkO (opLst true ws μ) Pw = match datas ws with
    | some xs => xs.length ≤ sizeLine ∧ Pw (.r μ.length) (μ ++ [.l xs])
    | none => False := by
  unfold opLst
  cases datas ws with
  | none => rfl
  | some xs =>
    simp only [Option.bind_some, mkL, sz, decide_eq_true_eq]
    split <;> simp [*]
@[simp] theorem okO_tup {ws : List W} : OkO (opTup ws μ) Pw = match datas ws with
    | some xs => xs.length ≤ sizeLine ∧ Pw (.d (.tuple xs)) μ
    | none => False := by
  unfold opTup
  cases datas ws with
  | none => rfl
  | some xs =>
    simp only [Option.bind_some, mkT, sz, decide_eq_true_eq]
    split <;> simp [*]
@[simp] theorem datas_nil : datas [] = some [] := rfl
@[simp] theorem datas_d {x : PyData} {ws : List W} : datas (.d x :: ws) = (datas ws).map (x :: ·) := rfl
@[simp] theorem datas_r {n : Nat} {ws : List W} : datas (.r n :: ws) = none := rfl
@[simp] theorem datas_s {n : List Int} {ws : List W} : datas (.s n :: ws) = none := rfl
@[simp] theorem ok_fnF1 {n : Nat} {body : DS} {a : W} : Ok (fnF 1 n body [a] μ) Pw = Oks (body (some a :: List.replicate (n - 1) none) μ) (fun _ μ1 => Pw (.d .none) μ1) Pw (fun _ _ => False) (fun _ _ => False) := by
  rw [ok_fnF (by rfl)]; rfl
@[simp] theorem ok_fnF2 {n : Nat} {body : DS} {a b : W} : Ok (fnF 2 n body [a, b] μ) Pw = Oks (body (some a :: some b :: List.replicate (n - 2) none) μ) (fun _ μ1 => Pw (.d .none) μ1) Pw (fun _ _ => False) (fun _ _ => False) := by
  rw [ok_fnF (by rfl)]; rfl
@[simp] theorem ok_fnF3 {n : Nat} {body : DS} {a b c : W} : Ok (fnF 3 n body [a, b, c] μ) Pw = Oks (body (some a :: some b :: some c :: List.replicate (n - 3) none) μ) (fun _ μ1 => Pw (.d .none) μ1) Pw (fun _ _ => False) (fun _ _ => False) := by
  rw [ok_fnF (by rfl)]; rfl
theorem stW_r {n : Nat} {k : Int} {x : PyData} {xs : List PyData} {j : Nat} (h : μ[n]? = some (.l xs)) (e : ixN xs.length k = some j) : stW (.r n) (.d (.int k)) (.d x) μ = some (μ.set n (.l (xs.set j x))) := by
  simp [stW, h, e]
theorem okO_ixs {n : Nat} {i : Int} {xs : List PyData} (h : n < μ.length) : OkO (opIxA [.r n, .d (.int i)] (μ.set n (.l xs))) Pw = match atI xs i with
    | some x => Pw (.d x) (μ.set n (.l xs))
    | none => False := by
  have e : (μ.set n (.l xs))[n]? = some (.l xs) := List.getElem?_set_self h
  rw [okO_ix]
  simp only [seqV_r, e]
  cases atI xs i with
  | none => simp [opIxD, e]
  | some x => rfl
theorem stW_s {n : Nat} {k : Int} {x : PyData} {xs : List PyData} (h : n < μ.length) : stW (.r n) (.d (.int k)) (.d x) (μ.set n (.l xs)) = match ixN xs.length k with
    | some j => some (μ.set n (.l (xs.set j x)))
    | none => none := by
  simp only [stW, List.getElem?_set_self h]
  cases ixN xs.length k with
  | none => rfl
  | some j => simp
@[simp] theorem ok_asB {b : Bool} {PB : Bool → Mem → Prop} : Ok (asB (.d (.bool b)) μ) PB = PB b μ := rfl
end
def drawB : DS := (sSeq (sSt (dP2 (opAdd false) (dP2 opIxA (dV 0) (dC (.int 3))) (dC (.int 1))) (dV 0) (dC (.int 3)))
  (sSeq (sIf (dTb (dP2 opGt (dP2 opIxA (dV 0) (dC (.int 2))) (dC (.int 0))))
  (sSeq (sSet 2 (dP2 opMod (dP2 opIxA (dV 0) (dC (.int 2))) (dV 1)))
  (sSeq (sSt (dP2 opDiv (dP2 opIxA (dV 0) (dC (.int 2))) (dV 1)) (dV 0) (dC (.int 2)))
  (sRet (dV 2)))) sNext)
  (sSeq (sSet 3 (dC (.int 5)))
  (sSeq (sIf (dTb (dP2 (opEq true) (dP2 opIxA (dV 0) (dC (.int 0))) (dPn (opLst false) dNil)))
  (sSet 3 (dP2 opIxA (dP2 opIxA (dV 0) (dC (.int 0))) (dP2 opMod (dP2 opIxA (dV 0) (dC (.int 1))) (dPn (orO opLen opLenD) (dCons (dP2 opIxA (dV 0) (dC (.int 0))) dNil))))) sNext)
  (sSeq (sSt (dP2 (opAdd false) (dP2 opIxA (dV 0) (dC (.int 1))) (dC (.int 1))) (dV 0) (dC (.int 1)))
  (sSeq (sIf (dAnd (dTb (dP2 opGe (dV 3) (dP2 opPow (dC (.int 10)) (dC (.int 18))))) (dTb (dP2 opLe (dP2 opIxA (dV 0) (dC (.int 1))) (dPn (orO opLen opLenD) (dCons (dP2 opIxA (dV 0) (dC (.int 0))) dNil)))))
  (sSeq (sSt (dP2 opDiv (dV 3) (dV 1)) (dV 0) (dC (.int 2)))
  (sRet (dP2 opMod (dV 3) (dV 1)))) sNext)
  (sSeq (sSet 4 (dP2 opMod (dP2 opPow (dP2 (opAdd false) (dP2 (opAdd false) (dP2 opMod (dV 3) (dC (.int 2147483629))) (dP2 (opMul false) (dC (.int 7919)) (dP2 opIxA (dV 0) (dC (.int 3))))) (dC (.int 1))) (dC (.int 5))) (dC (.int 2147483647))))
  (sRet (dP2 opMod (dP2 opDiv (dP2 opMod (dP2 opPow (dP2 (opAdd false) (dV 4) (dP2 (opMul false) (dC (.int 104729)) (dP2 opIxA (dV 0) (dC (.int 3))))) (dC (.int 5))) (dC (.int 2147483587))) (dC (.int 64))) (dV 1))))))))))
def feedB : DS := (sRet (dPn (opLst true) (dCons (dSl false (dV 0) dNo (dPart (dC (.int 63)))) (dCons (dC (.int 0)) (dCons (dC (.int 0)) (dCons (dC (.int 0)) dNil))))))
def feedL (ns : List Int) (a b c : Int) : List PyData := [.list (ns.map .int), .int a, .int b, .int c]
def FdOk (k : Int) (xs : List PyData) : Prop := ∃ ns a b c, xs = feedL ns a b c ∧ ns.length ≤ 63 ∧ 0 ≤ a ∧ a ≤ k ∧ 0 ≤ b ∧ 0 ≤ c ∧ c ≤ k
theorem FdOk.mono {k m : Int} {xs : List PyData} (h : FdOk k xs) (e : k ≤ m) : FdOk m xs := by
  obtain ⟨ns, a, b, c, h0, h1, h2, h3, h4, h5, h6⟩ := h
  exact ⟨ns, a, b, c, h0, h1, h2, by omega, h4, h5, by omega⟩
theorem small64 {i : Int} (h1 : -(2 ^ 64) < i) (h2 : i < 2 ^ 64) : Builtin.Int.intBits i ≤ 64 := intBits_le_64 h1 h2
theorem mulX {i j : Int} (h1 : -(2 ^ 64) < i) (h2 : i < 2 ^ 64) (h3 : -(2 ^ 64) < j) (h4 : j < 2 ^ 64) : CMulX i j := by
  have a := small64 h1 h2
  have b := small64 h3 h4
  unfold CMulX
  omega
theorem divW {i sz : Int} (h0 : 0 < sz) (h1 : sz ≤ 1000) : CDivW i sz := wide_div (b := 10) h0 (by omega) (by decide) (by decide)
theorem canInts (ns : List Int) : PyData.canLayAll0 (ns.map .int) = true := by
  induction ns with
  | nil => rfl
  | cons n ns ih => simpa [PyData.canLayAll0, PyData.canLay0] using ih
@[simp] theorem shInts (ns : List Int) : SeqAt.shaped (.list (ns.map .int)) = true := by
  have h := PySem.W.depth_ints ns
  simp [SeqAt.shaped, PyData.canLay0, canInts ns, PyData.depth, h]
@[simp] theorem sh_nil : SeqAt.shaped (.list []) = true := by decide
theorem powC {i : Int} (h : i.natAbs < 2 ^ 64) : CPow i 5 := ⟨by decide, by decide, h⟩
theorem draw_ok {μ : Mem} {n : Nat} {k sz : Int} {xs : List PyData} (h : μ[n]? = some (.l xs)) (hf : FdOk k xs) (hk : k ≤ 1000000000) (h0 : 0 < sz) (h1 : sz ≤ 1000) :
    Ok (fnF 2 5 drawB [.r n, .d (.int sz)] μ) fun w μ' => ∃ v xs', w = .d (.int v) ∧ μ' = μ.set n (.l xs') ∧ FdOk (k + 1) xs' ∧ 0 ≤ v ∧ v < sz := by
  obtain ⟨ns, a, b, c, rfl, hns, ha, ha1, hb, hc, hc1⟩ := hf
  have hn : n < μ.length := (List.getElem?_eq_some_iff.mp h).1
  have hd : ∀ i : Int, CDivW i sz := fun i => divW h0 h1
  have m0 : ∀ i : Int, 0 ≤ i % sz := fun i => Int.emod_nonneg _ (by omega)
  have m1 : ∀ i : Int, i % sz < sz := fun i => Int.emod_lt_of_pos _ h0
  have fd : ∀ a' b' : Int, 0 ≤ a' → a' ≤ k + 1 → 0 ≤ b' → FdOk (k + 1) [.list (ns.map .int), .int a', .int b', .int (c + 1)] := fun a' b' h1 h2 h3 => ⟨ns, a', b', c + 1, rfl, hns, h1, h2, h3, by omega, by omega⟩
  have p18 : CPow 10 18 := ⟨by decide, by decide, by decide⟩
  have c1 : CMulX 7919 (c + 1) := mulX (by decide) (by decide) (by omega) (by omega)
  have c2 : CMulX 104729 (c + 1) := mulX (by decide) (by decide) (by omega) (by omega)
  have d64 : ∀ i : Int, CDivW i 64 := fun i => divW (by decide) (by decide)
  have pa : ∀ i : Int, 0 ≤ i → i < 2147483629 → CPow (i + 7919 * (c + 1) + 1) 5 := fun i h1 h2 => powC (by omega)
  have pb : ∀ i : Int, CPow (i % 2147483647 + 104729 * (c + 1)) 5 := fun i => by
    have a0 := Int.emod_nonneg i (show (2147483647 : Int) ≠ 0 by decide)
    have a1 := Int.emod_lt_of_pos i (show (0 : Int) < 2147483647 by decide)
    exact powC (by omega)
  simp [drawB, feedL, okO_ixr h, stW_r h (k := 3) (j := 3) rfl, okO_ixs hn, stW_s hn, ixN, hd, h0, m0, m1, p18, c1, c2, d64, pa 5 (by decide) (by decide), pb]
  split
  · exact ⟨_, rfl, fd _ _ ha (by omega) (Int.ediv_nonneg hb (by omega))⟩
  split
  · exact ⟨_, rfl, fd _ _ (by omega) (by omega) hb⟩
  · rename_i hne
    have hl : 0 < ns.length := by
      cases ns with
      | nil => exact (hne (by simp [PyData.eqv, PyData.eqvAll])).elim
      | cons _ _ => simp
    refine ⟨hl, ?_⟩
    obtain ⟨x, hx, mx⟩ := atI_in (xs := ns.map PyData.int) (i := a % ns.length) (Int.emod_nonneg _ (by omega)) (by rw [List.length_map]; exact Int.emod_lt_of_pos _ (by omega))
    rw [hx]
    obtain ⟨z, _, rfl⟩ := List.mem_map.mp mx
    have z0 := Int.emod_nonneg z (show (2147483629 : Int) ≠ 0 by decide)
    have z1 := Int.emod_lt_of_pos z (show (0 : Int) < 2147483629 by decide)
    simp [okO_ixs hn, stW_s hn, ixN, hd, h0, m0, m1, c1, c2, d64, pb, pa _ z0 z1]
    split
    · rename_i hz
      split
      · exact ⟨_, rfl, fd _ _ (by omega) (by omega) (Int.ediv_nonneg (by omega) (by omega))⟩
      · exact ⟨_, rfl, fd _ _ (by omega) (by omega) hb⟩
    · exact ⟨_, rfl, fd _ _ (by omega) (by omega) hb⟩
theorem feed_ok {ns : List Int} {μ : Mem} (h : ns.length ≤ 63) : Ok (fnF 1 1 feedB [.s ns] μ) fun w μ' => ∃ xs, w = .r μ.length ∧ μ' = μ ++ [.l xs] ∧ FdOk 0 xs := by
  have h1 := cut_len ns none (some 63)
  have hz : (cutD ns none (some 63)).length ≤ sizeLine := Nat.le_trans h1 (Nat.le_trans h (by decide))
  have h4 : 4 ≤ sizeLine := by decide
  simp [feedB, slW, mkL, sz, hz, h4]
  exact ⟨_, 0, 0, 0, rfl, by omega, by omega, by omega, by omega, by omega, by omega⟩
noncomputable def drawF : Fn := fnF 2 5 drawB
noncomputable def feedF : Fn := fnF 1 1 feedB
theorem take_len {μ μ' : Mem} (h : μ'.length = μ.length) : μ'.take μ.length = μ' := by
  rw [← h, List.take_length]
theorem call_draw {μ : Mem} {n : Nat} {k sz : Int} {xs : List PyData} {P : W → Mem → Prop} (h : μ[n]? = some (.l xs)) (hf : FdOk k xs) (hk : k ≤ 1000000000) (h0 : 0 < sz) (h1 : sz ≤ 1000)
    (q : ∀ v xs', FdOk (k + 1) xs' → 0 ≤ v → v < sz → P (.d (.int v)) (μ.set n (.l xs'))) : Ok (callF drawF [.r n, .d (.int sz)] μ) P := by
  rw [ok_callR rfl]
  refine (draw_ok h hf hk h0 h1).mono ?_
  rintro w μ' ⟨v, xs', rfl, rfl, h2, h3, h4⟩
  rw [bkR_d, take_len (by simp)]
  exact q v xs' h2 h3 h4
end Mok05
set_option autoImplicit false
namespace Mok05
variable [Wd]
open PySem PySem.Spec PyProof.Rows L2
inductive Sg where
  | lt (x : Str)
  | no (s : Sg)
  | many (w : Bool) (l : List Sg)
  | so (a b : Sg)
  | tl (a b : Sg)
  | mod (w : Bool) (h : Str) (s : Sg)
def wMany (w : Bool) : Str := if w = true then "or" else "and"
def wMod (w : Bool) : Str := if w = true then "may" else "must"
mutual
def Sg.d : Sg → PyData
  | .lt x => .tuple [.str "letter", .str x]
  | .no s => .tuple [.str "not", s.d]
  | .many w l => .tuple [.str (wMany w), .tuple (Sg.ds l)]
  | .so a b => .tuple [.str "so", a.d, b.d]
  | .tl a b => .tuple [.str "told", a.d, b.d]
  | .mod w h s => .tuple [.str (wMod w), .str h, s.d]
def Sg.ds : List Sg → List PyData
  | [] => []
  | s :: r => s.d :: Sg.ds r
end
mutual
def Sg.int : Sg → Nat
  | .lt _ => 0
  | .no s => s.int + 1
  | .many _ l => Sg.ints l + 1
  | .so a b => a.int + b.int + 1
  | .tl a b => a.int + b.int + 1
  | .mod _ _ s => s.int + 1
def Sg.ints : List Sg → Nat
  | [] => 0
  | s :: r => s.int + Sg.ints r
end
mutual
def Sg.ok (t : Bool) : Sg → Prop
  | .lt x => x = "a" ∨ x = "b" ∨ x = "p"
  | .no s => s.ok t
  | .many _ l => Sg.oks t l ∧ l.length ≤ 3
  | .so a b => a.ok t ∧ b.ok t
  | .tl a b => t = true ∧ a.ok t ∧ b.ok t
  | .mod _ h s => (h = "h" ∨ h = "k") ∧ s.ok t
def Sg.oks (t : Bool) : List Sg → Prop
  | [] => True
  | s :: r => s.ok t ∧ Sg.oks t r
end
mutual
def Sg.lv : Sg → Nat
  | .lt _ => 1
  | .no s => s.lv
  | .many _ l => max 1 (Sg.lvs l)
  | .so a b => a.lv + b.lv
  | .tl a b => a.lv + b.lv
  | .mod _ _ s => s.lv
def Sg.lvs : List Sg → Nat
  | [] => 0
  | s :: r => s.lv + Sg.lvs r
end
theorem lvs_app : ∀ l m : List Sg, Sg.lvs (l ++ m) = Sg.lvs l + Sg.lvs m
  | [], m => by simp [Sg.lvs]
  | s :: r, m => by rw [List.cons_append, Sg.lvs, lvs_app r m, Sg.lvs]; omega
theorem ds_map : ∀ l : List Sg, Sg.ds l = l.map Sg.d
  | [] => rfl
  | s :: r => by rw [Sg.ds, ds_map r]; rfl
theorem ints_app : ∀ l m : List Sg, Sg.ints (l ++ m) = Sg.ints l + Sg.ints m
  | [], m => by simp [Sg.ints]
  | s :: r, m => by rw [List.cons_append, Sg.ints, ints_app r m, Sg.ints]; omega
theorem oks_all {t : Bool} : ∀ {l : List Sg}, Sg.oks t l ↔ ∀ s ∈ l, s.ok t
  | [] => by simp [Sg.oks]
  | s :: r => by simp [Sg.oks, oks_all (l := r)]
def two2 (μ : Mem) (nf nl : Nat) (xs : List PyData) (L : Int) : Mem := (μ.set nf (.l xs)).set nl (.l [.int L])
section
variable {μ : Mem} {nf nl : Nat} {xs ys : List PyData} {L M : Int}
@[simp] theorem two2_len : (two2 μ nf nl xs L).length = μ.length := by simp [two2]
theorem two2_f (h : nf ≠ nl) (hf : nf < μ.length) : (two2 μ nf nl xs L)[nf]? = some (.l xs) := by
  unfold two2
  rw [List.getElem?_set_ne (Ne.symm h), List.getElem?_set_self hf]
theorem two2_l (hl : nl < μ.length) : (two2 μ nf nl xs L)[nl]? = some (.l [.int L]) := by
  unfold two2
  rw [List.getElem?_set_self (by simpa using hl)]
theorem two2_setf (h : nf ≠ nl) : (two2 μ nf nl xs L).set nf (.l ys) = two2 μ nf nl ys L := by
  unfold two2
  rw [List.set_comm _ _ (Ne.symm h), List.set_set]
theorem two2_setl : (two2 μ nf nl xs L).set nl (.l [.int M]) = two2 μ nf nl xs M := by
  unfold two2
  rw [List.set_set]
theorem two2_self (h1 : μ[nf]? = some (.l xs)) (h2 : μ[nl]? = some (.l [.int L])) : two2 μ nf nl xs L = μ := by
  unfold two2
  have e1 : μ.set nf (.l xs) = μ := by
    apply List.ext_getElem?
    intro j
    by_cases e : nf = j
    · subst e; rw [List.getElem?_set_self (List.getElem?_eq_some_iff.mp h1).1, h1]
    · rw [List.getElem?_set_ne e]
  rw [e1]
  apply List.ext_getElem?
  intro j
  by_cases e : nl = j
  · subst e; rw [List.getElem?_set_self (List.getElem?_eq_some_iff.mp h2).1, h2]
  · rw [List.getElem?_set_ne e]
end
noncomputable def sayB (self : Fn) : DS := (sSeq (sSt (dP2 opSub (dP2 opIxA (dV 1) (dC (.int 0))) (dC (.int 1))) (dV 1) (dC (.int 0)))
  (sSeq (sSet 3 (dCall drawF [] (dCons (dV 0) (dCons (dC (.int 14)) dNil))))
  (sSeq (sIf (dOr (dTb (dP2 opLt (dV 3) (dC (.int 3)))) (dTb (dP2 opLt (dP2 opIxA (dV 1) (dC (.int 0))) (dC (.int 1)))))
  (sRet (dPn opTup (dCons (dC (.str "letter")) (dCons (dP2 opIxA (dPn (opLst false) (dCons (dC (.str "a")) (dCons (dC (.str "b")) (dCons (dC (.str "p")) dNil)))) (dCall drawF [] (dCons (dV 0) (dCons (dC (.int 3)) dNil)))) dNil)))) sNext)
  (sSeq (sIf (dTb (dP2 (opInA false) (dV 3) (dPn opTup (dCons (dC (.int 3)) (dCons (dC (.int 4)) dNil)))))
  (sRet (dPn opTup (dCons (dC (.str "not")) (dCons (dCall self [] (dCons (dV 0) (dCons (dV 1) (dCons (dV 2) dNil)))) dNil)))) sNext)
  (sSeq (sIf (dTb (dP2 opLt (dV 3) (dC (.int 8))))
  (sSeq (sSet 4 (dP2 opIxA (dPn (opLst false) (dCons (dC (.int 2)) (dCons (dC (.int 1)) (dCons (dC (.int 3)) (dCons (dC (.int 2)) (dCons (dC (.int 0)) dNil)))))) (dCall drawF [] (dCons (dV 0) (dCons (dC (.int 5)) dNil)))))
  (sSeq (sSet 5 (dLc false (dIs iR1 (dCons (dV 4) dNil)) (gN 7) (dTb (dP2 opGt (dP2 opIxA (dV 1) (dC (.int 0))) (dC (.int 0)))) (dCall self [] (dCons (dV 0) (dCons (dV 1) (dCons (dV 2) dNil)))) [7]))
  (sRet (dPn opTup (dCons (dP2 opIxA (dPn (opLst false) (dCons (dC (.str "and")) (dCons (dC (.str "or")) dNil))) (dP2 opMod (dV 3) (dC (.int 2)))) (dCons (dPn opTu (dCons (dV 5) dNil)) dNil)))))) sNext)
  (sSeq (sIf (dOr (dTb (dP2 (opInA false) (dV 3) (dPn opTup (dCons (dC (.int 8)) (dCons (dC (.int 9)) dNil))))) (dAnd (dTb (dP2 (opEq false) (dV 3) (dC (.int 13)))) (dNot (dTv (dV 2)))))
  (sRet (dPn opTup (dCons (dC (.str "so")) (dCons (dCall self [] (dCons (dV 0) (dCons (dV 1) (dCons (dV 2) dNil)))) (dCons (dCall self [] (dCons (dV 0) (dCons (dV 1) (dCons (dV 2) dNil)))) dNil))))) sNext)
  (sSeq (sIf (dTb (dP2 (opEq false) (dV 3) (dC (.int 13))))
  (sRet (dPn opTup (dCons (dC (.str "told")) (dCons (dCall self [] (dCons (dV 0) (dCons (dV 1) (dCons (dV 2) dNil)))) (dCons (dCall self [] (dCons (dV 0) (dCons (dV 1) (dCons (dV 2) dNil)))) dNil))))) sNext)
  (sSeq (sSet 6 (dP2 opIxA (dPn (opLst false) (dCons (dC (.str "h")) (dCons (dC (.str "k")) dNil))) (dCall drawF [] (dCons (dV 0) (dCons (dC (.int 2)) dNil)))))
  (sRet (dPn opTup (dCons (dP2 opIxA (dPn (opLst false) (dCons (dC (.str "must")) (dCons (dC (.str "may")) dNil))) (dP2 opMod (dV 3) (dC (.int 2)))) (dCons (dV 6) (dCons (dCall self [] (dCons (dV 0) (dCons (dV 1) (dCons (dV 2) dNil)))) dNil)))))))))))))
noncomputable def sayF : Nat → Fn
  | 0 => fun _ _ => .bad
  | n + 1 => fnF 3 8 (sayB (sayF n))
def fL (L : Int) : Nat := (L - 1).toNat
@[simp] theorem eqv_int {i j : Int} : PyData.eqv (.int i) (.int j) = (i == j) := by simp [PyData.eqv]
@[simp] theorem eqv_str {i j : Str} : PyData.eqv (.str i) (.str j) = (i == j) := by simp [PyData.eqv]
@[simp] theorem le_size {n : Nat} (h : n ≤ 1000) : n ≤ sizeLine := Nat.le_trans h (by decide)
@[simp] theorem lay_int {i : Int} : PyData.canLay0 (.int i) = true := by simp [PyData.canLay0]
@[simp] theorem lay_str {i : Str} : PyData.canLay0 (.str i) = PyData.strOk i := by simp [PyData.canLay0]
@[simp] theorem lay_nil : PyData.canLayAll0 [] = true := by simp [PyData.canLayAll0]
@[simp] theorem lay_cons {x : PyData} {xs : List PyData} : PyData.canLayAll0 (x :: xs) = (PyData.canLay0 x && PyData.canLayAll0 xs) := by simp [PyData.canLayAll0]
@[simp] theorem lay_tuple {xs : List PyData} : PyData.canLay0 (.tuple xs) = PyData.canLayAll0 xs := by simp [PyData.canLay0]
@[simp] theorem lay_list {xs : List PyData} : PyData.canLay0 (.list xs) = PyData.canLayAll0 xs := by simp [PyData.canLay0]
@[simp] theorem ok_iR1 {i : Int} {μ : Mem} {Ps : Src → Mem → Prop} : Ok (iR1 [.d (.int i)] μ) Ps = (inR i = true ∧ Ps (intsOf 0 i.toNat, none) μ) := by
  unfold iR1
  dsimp only
  split <;> simp [*]
@[simp] theorem okO_in2 {neg : Bool} {x : PyData} {ys : List PyData} {μ : Mem} {Pw : W → Mem → Prop} (h : SeqAt.shaped x = true) (k : PyData.canLayAll0 ys = true) : OkO (opInA neg [.d x, .d (.tuple ys)] μ) Pw = Pw (.d (.bool (if neg = true then !(ys.any fun y => PyData.eqv y x) else ys.any fun y => PyData.eqv y x))) μ := by
  simp [opInA, orO, opIn, h, k, pB]
@[simp] theorem sh_int {i : Int} : SeqAt.shaped (.int i) = true := by simp [SeqAt.shaped, PyData.canLay0, PyData.depth]
@[simp] theorem sh_str {x : Str} : SeqAt.shaped (.str x) = PyData.strOk x := by simp [SeqAt.shaped, PyData.canLay0, PyData.depth]
theorem iteP {c : Prop} [Decidable c] {A B : Prop} (h1 : c → A) (h2 : ¬ c → B) : if c then A else B := by
  by_cases h : c
  · rw [if_pos h]; exact h1 h
  · rw [if_neg h]; exact h2 h
structure SayR (K L : Int) (t : Bool) (s : Sg) (xs : List PyData) (M : Int) : Prop where
  fd : FdOk (K + 2 * (1 + 3 * (s.int : Int))) xs
  le : M ≤ L
  lf : s.int + fL M ≤ fL L
  lv : (1 ≤ L → s.lv + M.toNat ≤ L.toNat) ∧ (L ≤ 0 → s.lv = 1 ∧ M.toNat = 0)
  ok : s.ok t
def ManyI (K L : Int) (t : Bool) (μ : Mem) (nf nl : Nat) (done acc : List PyData) (μ' : Mem) : Prop := ∃ (l : List Sg) (xs' : List PyData) (M : Int), acc = Sg.ds l ∧ l.length ≤ done.length ∧ μ' = two2 μ nf nl xs' M ∧ FdOk (K + 2 + 2 * (l.length : Int) + 6 * (Sg.ints l : Int)) xs' ∧ M ≤ L - 1 ∧ Sg.ints l + fL M ≤ fL (L - 1) ∧ Sg.lvs l + M.toNat ≤ (L - 1).toNat ∧ Sg.oks t l
theorem saying_ok : ∀ (n : Nat) (μ : Mem) (nf nl : Nat) (xs : List PyData) (K L : Int) (t : Bool), nf ≠ nl → nf < μ.length → nl < μ.length → FdOk K xs → 0 < n → L ≤ n → K + 2 * (1 + 3 * (fL L : Int)) ≤ 1000000000 →
    Ok (sayF n [.r nf, .r nl, .d (.bool t)] (two2 μ nf nl xs L)) fun w μ' => ∃ s xs' M, w = .d s.d ∧ μ' = two2 μ nf nl xs' M ∧ SayR K L t s xs' M := by
  intro n
  induction n with
  | zero => intro μ nf nl xs K L t _ _ _ _ h; omega
  | succ n ih =>
    intro μ nf nl xs K L t hne hf hl hfd _ hLn hK
    have ixl : ∀ {xs L P}, OkO (opIxA [.r nl, .d (.int 0)] (two2 μ nf nl xs L)) P = P (.d (.int L)) (two2 μ nf nl xs L) := fun {xs L P} => okO_ixr (two2_l hl) (by simp)
    have stl : ∀ {xs L x}, stW (.r nl) (.d (.int 0)) (.d (.int x)) (two2 μ nf nl xs L) = some (two2 μ nf nl xs x) := fun {xs L x} => by rw [stW_r (two2_l hl) (j := 0) rfl]; simp [two2_setl]
    have call : ∀ {xs : List PyData} {K L : Int} {P : W → Mem → Prop}, FdOk K xs → 0 < n → L ≤ n → K + 2 * (1 + 3 * (fL L : Int)) ≤ 1000000000 → (∀ s xs' M, SayR K L t s xs' M → P (.d s.d) (two2 μ nf nl xs' M)) → Ok (callF (sayF n) [.r nf, .r nl, .d (.bool t)] (two2 μ nf nl xs L)) P := by
      intro xs K L P h1 h2 h3 h4 q
      rw [ok_callR rfl]
      refine (ih μ nf nl xs K L t hne hf hl h1 h2 h3 h4).mono ?_
      rintro w μ' ⟨s, xs', M, rfl, rfl, r⟩
      rw [bkR_d, take_len (by simp)]
      exact q s xs' M r
    have draw : ∀ {xs K L sz P}, FdOk K xs → K ≤ 1000000000 → 0 < sz → sz ≤ 1000 → (∀ v xs', FdOk (K + 1) xs' → 0 ≤ v → v < sz → P (.d (.int v)) (two2 μ nf nl xs' L)) → Ok (callF drawF [.r nf, .d (.int sz)] (two2 μ nf nl xs L)) P := by
      intro xs K L sz P h1 h2 h3 h4 q
      refine call_draw (two2_f hne hf) h1 h2 h3 h4 fun v xs' h5 h6 h7 => ?_
      rw [two2_setf hne]
      exact q v xs' h5 h6 h7
    simp [sayF, sayB, ixl, stl]
    refine draw hfd (by omega) (by decide) (by decide) fun way xs1 hf1 w0 w1 => ?_
    have leaf : Ok (callF drawF [W.r nf, W.d (PyData.int 3)] (two2 μ nf nl xs1 (L - 1))) fun y μ2 =>
        OkO (opIxA [W.d (PyData.list [PyData.str (Str.ofString "a"), PyData.str (Str.ofString "b"), PyData.str (Str.ofString "p")]), y] μ2)
          fun x μ1 => match Option.map (fun x => PyData.str (Str.ofString "letter") :: x) (datas [x]) with
          | some xs => xs.length ≤ sizeLine ∧ ∃ s, PyData.tuple xs = s.d ∧ ∃ x x_1, μ1 = two2 μ nf nl x x_1 ∧ SayR K L t s x x_1
          | none => False := by
      refine draw hf1 (by omega) (by decide) (by decide) fun v xs2 hf2 v0 v1 => ?_
      have r : ∀ x : Str, x = "a" ∨ x = "b" ∨ x = "p" → SayR K L t (.lt x) xs2 (L - 1) := fun x hx => ⟨by simpa [Sg.int, show K + 1 + 1 = K + 2 by omega] using hf2, by omega, by simp only [Sg.int, fL]; omega, ⟨fun _ => by simp only [Sg.lv]; omega, fun _ => ⟨rfl, by omega⟩⟩, hx⟩
      rcases (show v = 0 ∨ v = 1 ∨ v = 2 by omega) with rfl | rfl | rfl
      · simp
        exact ⟨.lt "a", rfl, _, _, rfl, r _ (.inl rfl)⟩
      · simp
        exact ⟨.lt "b", rfl, _, _, rfl, r _ (.inr (.inl rfl))⟩
      · simp
        exact ⟨.lt "p", rfl, _, _, rfl, r _ (.inr (.inr rfl))⟩
    simp (config := { decide := true, maxSteps := 400000 }) [ixl, stl]
    refine iteP (fun _ => leaf) (fun hw => ?_)
    refine iteP (fun _ => leaf) (fun hL => ?_)
    have eL : fL L = fL (L - 1) + 1 := by unfold fL; omega
    refine iteP (fun _ => ?_) (fun hw2 => ?_)
    · refine call hf1 (by omega) (by omega) (by omega) fun s xs2 M r => ?_
      simp
      refine ⟨.no s, rfl, _, _, rfl, ?_, ?_, ?_, ?_, r.ok⟩
      · exact r.fd.mono (by simp only [Sg.int]; omega)
      · have := r.le; omega
      · have := r.lf; simp only [Sg.int]; omega
      · have := r.lv; simp only [Sg.lv]; omega
    refine iteP (fun hw3 => ?_) (fun hw3 => ?_)
    · -- and, or
      refine draw hf1 (by omega) (by decide) (by decide) fun v xs2 hf2 v0 v1 => ?_
      obtain ⟨many, hm, m0, m3⟩ : ∃ many : Nat, atI [PyData.int 2, PyData.int 1, PyData.int 3, PyData.int 2, PyData.int 0] v = some (.int many) ∧ 0 ≤ many ∧ many ≤ 3 := by
        rcases (show v = 0 ∨ v = 1 ∨ v = 2 ∨ v = 3 ∨ v = 4 by omega) with rfl | rfl | rfl | rfl | rfl
        · exact ⟨2, rfl, by omega, by omega⟩
        · exact ⟨1, rfl, by omega, by omega⟩
        · exact ⟨3, rfl, by omega, by omega⟩
        · exact ⟨2, rfl, by omega, by omega⟩
        · exact ⟨0, rfl, by omega, by omega⟩
      obtain ⟨w, hw⟩ : ∃ w : Bool, atI [PyData.str (Str.ofString "and"), PyData.str (Str.ofString "or")] (way % 2) = some (.str (wMany w)) := by
        rcases (show way % 2 = 0 ∨ way % 2 = 1 by omega) with e | e
        · rw [e]; exact ⟨false, rfl⟩
        · rw [e]; exact ⟨true, rfl⟩
      simp [hm, hw, ok_dLc]
      refine ⟨by simp only [inR, Bool.and_eq_true, decide_eq_true_eq]; omega, ?_⟩
      refine lc_inv (s := (intsOf 0 many, none)) (ManyI K L t μ nf nl) rfl (fun _ _ _ _ _ => trivial)
        ⟨[], xs2, L - 1, rfl, by simp, rfl, hf2.mono (by simp [Sg.ints]; omega), by omega, by simp [Sg.ints], by simp [Sg.lvs], trivial⟩ ?_ ?_
      · rintro done x r acc μ' e ⟨l, xs', M, rfl, h1, rfl, h2, h3, h4, h6, h5⟩
        have hd : done.length < many := by
          have := congrArg List.length e
          simp [intsOf] at this
          omega
        rw [ok_lcOne]
        simp [wipeE, ixl]
        refine iteP (fun h0 => ?_) (fun h0 => ?_)
        · refine call h2 (by omega) (by omega) (by omega) fun s xs3 M3 r3 => ?_
          have a3 := r3.le
          have a4 := r3.lf
          have a5 := r3.lv
          refine ⟨?_, l ++ [s], xs3, M3, ?_, by simp; omega, rfl, r3.fd.mono (by simp [ints_app, Sg.ints]; omega), by omega, by simp [ints_app, Sg.ints]; omega, by simp [lvs_app, Sg.lvs]; omega, ?_⟩
          · rw [ds_map, List.length_map]
            exact Nat.lt_of_le_of_lt (show l.length ≤ 3 by omega) (by decide)
          · simp [ds_map]
          · rw [oks_all] at h5 ⊢
            intro y hy
            rcases List.mem_append.mp hy with hy | hy
            · exact h5 y hy
            · rw [List.mem_singleton.mp hy]
              exact r3.ok
        · exact ⟨l, _, _, rfl, by rw [List.length_append, List.length_singleton]; omega, rfl, h2, h3, h4, h6, h5⟩
      · rintro acc μ' ⟨l, xs', M, rfl, h1, rfl, h2, h3, h4, h6, h5⟩
        have hl3 : l.length ≤ 3 := by simp [intsOf] at h1; omega
        have hz : (Sg.ds l).length ≤ sizeLine := by
          rw [ds_map, List.length_map]
          exact le_size (by omega)
        have ht : opTu [.d (.list (Sg.ds l))] (two2 μ nf nl xs' M) = some (.d (.tuple (Sg.ds l)), two2 μ nf nl xs' M) := by
          simp [opTu, opTuple, mkT, sz, hz]
        simp only [lcEnd_f, ht, okO_some]
        refine ⟨le_size (by decide : 2 ≤ 1000), .many w l, rfl, _, _, rfl, ?_, by omega, by simp only [Sg.int]; omega, by simp only [Sg.lv]; omega, h5, hl3⟩
        refine h2.mono ?_
        simp only [Sg.int]
        omega
    have two : ∀ (f : Sg → Sg → Sg) (w : Str), (∀ a b, (f a b).d = .tuple [.str w, a.d, b.d]) → (∀ a b, (f a b).int = a.int + b.int + 1) → (∀ a b, (f a b).lv = a.lv + b.lv) → (∀ a b, a.ok t → b.ok t → (f a b).ok t) → Ok (callF (sayF n) [W.r nf, W.r nl, W.d (PyData.bool t)] (two2 μ nf nl xs1 (L - 1))) fun x μ1 =>
            Ok (callF (sayF n) [W.r nf, W.r nl, W.d (PyData.bool t)] μ1) fun x_1 μ1 =>
              match Option.map (fun x => PyData.str w :: x) (datas [x, x_1]) with
              | some xs => xs.length ≤ sizeLine ∧ ∃ s, PyData.tuple xs = s.d ∧ ∃ x x_2, μ1 = two2 μ nf nl x x_2 ∧ SayR K L t s x x_2
              | none => False := by
      intro f w e1 e2 e4 e3
      refine call hf1 (by omega) (by omega) (by omega) fun s xs2 M r => ?_
      have a1 := r.le
      have a2 := r.lf
      have a6 := r.lv
      refine call r.fd (by omega) (by omega) (by omega) fun s2 xs3 M3 r3 => ?_
      have a3 := r3.le
      have a4 := r3.lf
      have a5 := r3.lv
      refine ⟨le_size (by decide : 3 ≤ 1000), f s s2, (e1 _ _).symm, _, _, rfl, ?_, by omega, by rw [e2]; omega, by rw [e4]; omega, e3 _ _ r.ok r3.ok⟩
      exact r3.fd.mono (by rw [e2]; omega)
    have md : Ok (callF drawF [W.r nf, W.d (PyData.int 2)] (two2 μ nf nl xs1 (L - 1))) fun y μ2 =>
          OkO (opIxA [W.d (PyData.list [PyData.str (Str.ofString "h"), PyData.str (Str.ofString "k")]), y] μ2) fun w μ1 =>
              match atI [PyData.str (Str.ofString "must"), PyData.str (Str.ofString "may")] (way % 2) with
              | some x => Ok (callF (sayF n) [W.r nf, W.r nl, W.d (PyData.bool t)] μ1) fun x_1 μ1 =>
                  match Option.map (fun x_2 => x :: x_2) (datas [w, x_1]) with
                  | some xs => xs.length ≤ sizeLine ∧ ∃ s, PyData.tuple xs = s.d ∧ ∃ x x_2, μ1 = two2 μ nf nl x x_2 ∧ SayR K L t s x x_2
                  | none => False
              | none => False := by
      refine draw hf1 (by omega) (by decide) (by decide) fun v xs2 hf2 v0 v1 => ?_
      obtain ⟨h, hh, ho⟩ : ∃ h : Str, atI [PyData.str (Str.ofString "h"), PyData.str (Str.ofString "k")] v = some (.str h) ∧ (h = "h" ∨ h = "k") := by
        rcases (show v = 0 ∨ v = 1 by omega) with rfl | rfl
        · exact ⟨_, rfl, .inl rfl⟩
        · exact ⟨_, rfl, .inr rfl⟩
      obtain ⟨w, hw⟩ : ∃ w : Bool, atI [PyData.str (Str.ofString "must"), PyData.str (Str.ofString "may")] (way % 2) = some (.str (wMod w)) := by
        rcases (show way % 2 = 0 ∨ way % 2 = 1 by omega) with e | e
        · rw [e]; exact ⟨false, rfl⟩
        · rw [e]; exact ⟨true, rfl⟩
      simp only [okO_ixl, hh, hw]
      refine call hf2 (by omega) (by omega) (by omega) fun s xs2 M r => ?_
      have a1 := r.le
      have a2 := r.lf
      have a5 := r.lv
      simp
      exact ⟨.mod w h s, rfl, _, _, rfl, r.fd.mono (by simp only [Sg.int]; omega), by omega, by simp only [Sg.int]; omega, by simp only [Sg.lv]; omega, ho, r.ok⟩
    have so := two .so "so" (fun _ _ => by simp [Sg.d]) (fun _ _ => by simp [Sg.int]) (fun _ _ => by simp [Sg.lv]) (fun _ _ h k => ⟨h, k⟩)
    refine iteP (fun _ => so) (fun _ => iteP (fun h13 => ?_) (fun h13 => ?_))
    · cases t with
      | true =>
        rw [if_pos rfl, if_pos h13]
        exact two .tl "told" (fun _ _ => by simp [Sg.d]) (fun _ _ => by simp [Sg.int]) (fun _ _ => by simp [Sg.lv]) (fun _ _ h k => ⟨rfl, h, k⟩)
      | false =>
        rw [if_neg (by decide)]
        exact so
    · rw [if_neg h13]
      exact md
end Mok05
set_option autoImplicit false
namespace Mok05
variable [Wd]
open PySem PySem.Spec PyProof.Rows L2
mutual
def wt : PyData → Nat
  | .none => 4
  | .bool _ => 5
  | .int i => (PyData.int i).shown.length
  | .str x => (PyData.str x).shown.length
  | .list xs => wts xs + 3
  | .tuple xs => wts xs + 3
  | .dict _ => 0
def wts : List PyData → Nat
  | [] => 0
  | x :: r => wt x + 2 + wts r
end
mutual
theorem shown_wt : ∀ d : PyData, d.canLay0 = true → d.shown.length ≤ wt d
  | .none, _ => by decide
  | .bool b, _ => by cases b <;> decide
  | .int i, _ => Nat.le_refl _
  | .str x, _ => Nat.le_refl _
  | .list xs, h => by
    have e := shown_wts xs (by simpa using h)
    have l := listText_len_le (PyData.shownAll xs)
    simp only [PyData.shown, wt]
    omega
  | .tuple xs, h => by
    have e := shown_wts xs (by simpa using h)
    have l := tupleText_len_le (PyData.shownAll xs)
    simp only [PyData.shown, wt]
    omega
  | .dict _, h => by simp [PyData.canLay0] at h
theorem shown_wts : ∀ xs : List PyData, PyData.canLayAll0 xs = true → ((PyData.shownAll xs).map (·.length)).sum + 2 * (PyData.shownAll xs).length ≤ wts xs
  | [], _ => by simp [PyData.shownAll, wts]
  | x :: r, h => by
    simp only [lay_cons, Bool.and_eq_true] at h
    have a := shown_wt x h.1
    have b := shown_wts r h.2
    simp only [PyData.shownAll, List.map_cons, List.sum_cons, List.length_cons, wts]
    omega
end
structure Rp (d : PyData) : Prop where
  lay : d.canLay0 = true
  dep : d.depth ≤ 64
  shw : d.showable = true
  len : wt d ≤ sizeLine
section
variable {μ : Mem} {Pw : W → Mem → Prop}
theorem okO_repr {d : PyData} (h : Rp d) : OkO (opRepr [.d d] μ) Pw = Pw (.d (.str d.shown)) μ := by
  have e : SeqAt.shaped d = true := by simp [SeqAt.shaped, h.lay, h.dep]
  have z : d.shown.length ≤ sizeLine := Nat.le_trans (shown_wt d h.lay) h.len
  simp [opRepr, e, h.shw, sz, z]
end
theorem call_pure {F : Fn} {ws : List W} {xs : List PyData} {y : PyData} {μ : Mem} (hd : datas ws = some xs) (h : Ok (F ws []) fun w _ => w = .d y) : callF F ws μ = .ok (.d y) μ := by
  obtain ⟨w, μ', e, rfl⟩ := h.ex
  unfold callF
  rw [hd, e]
mutual
def Sg.sz : Sg → Nat
  | .lt _ => 1
  | .no s => s.sz + 1
  | .many _ l => Sg.szs l + 1
  | .so a b => a.sz + b.sz + 1
  | .tl a b => a.sz + b.sz + 1
  | .mod _ _ s => s.sz + 1
def Sg.szs : List Sg → Nat
  | [] => 0
  | s :: r => s.sz + Sg.szs r
end
mutual
def Sg.ht : Sg → Nat
  | .lt _ => 0
  | .no s => s.ht + 1
  | .many _ l => Sg.hts l + 1
  | .so a b => max a.ht b.ht + 1
  | .tl a b => max a.ht b.ht + 1
  | .mod _ _ s => s.ht + 1
def Sg.hts : List Sg → Nat
  | [] => 0
  | s :: r => max s.ht (Sg.hts r)
end
def cp (x : Str) : List Nat := x.cps.toList
theorem cp_app (x y : Str) : cp (x ++ y) = cp x ++ cp y := by
  show (x.cps ++ y.cps).toList = _
  rw [Array.toList_append]
  rfl
theorem cp_inj {x y : Str} (h : cp x = cp y) : x = y := by
  cases x with
  | mk a =>
    cases y with
    | mk b =>
      have : a = b := Array.toList_inj.mp h
      rw [this]
def low (c : Nat) : Bool := decide (97 ≤ c ∧ c ≤ 122)
def lowS (x : Str) : Bool := (cp x).all low
theorem reprChar_low : ∀ c : Nat, low c = true → Builtin.Str.reprChar 39 c = [c] := by
  intro c h
  have h1 : 97 ≤ c ∧ c ≤ 122 := of_decide_eq_true h
  have main : ∀ k : Nat, k < 26 → Builtin.Str.reprChar 39 (97 + k) = [97 + k] := by decide +kernel
  have := main (c - 97) (by omega)
  rw [show 97 + (c - 97) = c by omega] at this
  exact this
theorem reprFold (l : List Nat) (h : ∀ c ∈ l, low c = true) : ∀ acc : Array Nat, (l.foldl (fun out c => out ++ (Builtin.Str.reprChar 39 c).toArray) acc).toList = acc.toList ++ l := by
  induction l with
  | nil => intro acc; simp
  | cons c l ih =>
    intro acc
    rw [List.foldl_cons, ih (fun d hd => h d (List.mem_cons_of_mem _ hd)), reprChar_low c (h c (by simp))]
    simp
theorem low_all {x : Str} (h : lowS x = true) : ∀ c ∈ cp x, low c = true := List.all_eq_true.mp h
theorem repr_low {x : Str} (h : lowS x = true) : cp (PyData.str x).shown = 39 :: cp x ++ [39] := by
  have h1 := low_all h
  have e : reprQuote x = 39 := by
    unfold reprQuote
    have : x.cps.contains 39 = false := by
      cases q : x.cps.contains 39 with
      | false => rfl
      | true =>
        have hm : (39 : Nat) ∈ cp x := by
          rw [Array.contains_iff_mem] at q
          exact Array.mem_toList_iff.mpr q
        have := h1 39 hm
        revert this
        decide
    rw [this]
    rfl
  show cp (reprText x) = _
  unfold reprText cp
  rw [e]
  show ((x.cps.foldl (fun out c => out ++ (Builtin.Str.reprChar 39 c).toArray) #[39]).push 39).toList = _
  rw [Array.toList_push, ← Array.foldl_toList, reprFold x.cps.toList h1]
  simp [cp]
def Sw (x : Str) : Prop := lowS x = true ∧ (cp x).length ≤ 8
instance (x : Str) : Decidable (Sw x) := by unfold Sw; infer_instance
theorem Sw.ok {x : Str} (h : Sw x) : PyData.strOk x = true := by
  unfold PyData.strOk
  rw [Array.all_eq_true']
  intro c hc
  have := low_all h.1 c (Array.mem_toList_iff.mpr hc)
  simp only [low, decide_eq_true_eq] at this ⊢
  omega
theorem Sw.len {x : Str} (h : Sw x) : wt (.str x) ≤ 10 := by
  have e := congrArg List.length (repr_low h.1)
  have h2 := h.2
  have : (PyData.str x).shown.length = (cp (PyData.str x).shown).length := by simp [cp, Str.length]
  simp only [wt]
  rw [this, e]
  simp
  omega
mutual
def Sg.sok : Sg → Prop
  | .lt x => Sw x
  | .no s => s.sok
  | .many _ l => Sg.soks l ∧ l.length ≤ 1000
  | .so a b => a.sok ∧ b.sok
  | .tl a b => a.sok ∧ b.sok
  | .mod _ h s => Sw h ∧ s.sok
def Sg.soks : List Sg → Prop
  | [] => True
  | s :: r => s.sok ∧ Sg.soks r
end
theorem soks_all : ∀ {l : List Sg}, Sg.soks l ↔ ∀ s ∈ l, s.sok
  | [] => by simp [Sg.soks]
  | s :: r => by simp [Sg.soks, soks_all (l := r)]
mutual
theorem Sg.ok.sok {t : Bool} : ∀ {s : Sg}, s.ok t → s.sok
  | .lt x, h => by rcases h with rfl | rfl | rfl <;> simp only [Sg.sok] <;> decide +kernel
  | .no s, h => Sg.ok.sok (s := s) h
  | .many w l, h => ⟨Sg.oks.soks h.1, Nat.le_trans h.2 (by decide)⟩
  | .so a b, h => ⟨Sg.ok.sok h.1, Sg.ok.sok h.2⟩
  | .tl a b, h => ⟨Sg.ok.sok h.2.1, Sg.ok.sok h.2.2⟩
  | .mod w x s, h => ⟨by rcases h.1 with rfl | rfl <;> decide +kernel, Sg.ok.sok h.2⟩
theorem Sg.oks.soks {t : Bool} : ∀ {l : List Sg}, Sg.oks t l → Sg.soks l
  | [], _ => trivial
  | s :: r, h => ⟨Sg.ok.sok h.1, Sg.oks.soks h.2⟩
end
theorem wMany_wt (w : Bool) : wt (.str (wMany w)) ≤ 5 := by cases w <;> decide +kernel
theorem wMod_wt (w : Bool) : wt (.str (wMod w)) ≤ 6 := by cases w <;> decide +kernel
theorem wMany_ok (w : Bool) : PyData.strOk (wMany w) = true := by cases w <;> decide +kernel
theorem wMod_ok (w : Bool) : PyData.strOk (wMod w) = true := by cases w <;> decide +kernel
theorem wt_letter : wt (.str (Str.ofString "letter")) = 8 := by decide +kernel
theorem wt_not : wt (.str (Str.ofString "not")) = 5 := by decide +kernel
theorem wt_so : wt (.str (Str.ofString "so")) = 4 := by decide +kernel
theorem wt_told : wt (.str (Str.ofString "told")) = 6 := by decide +kernel
mutual
theorem sg_rp : ∀ {s : Sg}, s.sok → s.d.canLay0 = true ∧ s.d.depth ≤ 2 * s.ht + 1 ∧ s.d.showable = true ∧ wt s.d + 2 ≤ 30 * s.sz
  | .lt x, h => by
    have a := Sw.ok h
    have b := Sw.len h
    simp only [Sg.d, Sg.ht, Sg.sz, lay_tuple, lay_cons, lay_str, lay_nil, a, PyData.depth, PyData.depthAll, PyData.showable, PyData.showableAll, wts, wt_letter, wt.eq_6]
    refine ⟨by decide +kernel, by omega, rfl, by omega⟩
  | .no s, h => by
    obtain ⟨h1, h2, h3, h4⟩ := sg_rp (s := s) h
    simp only [Sg.d, Sg.ht, Sg.sz, lay_tuple, lay_cons, lay_str, lay_nil, PyData.depth, PyData.depthAll, PyData.showable, PyData.showableAll, wt.eq_6, wts, wt_not, h1, h3]
    refine ⟨by decide +kernel, by omega, rfl, by omega⟩
  | .many w l, h => by
    obtain ⟨h1, h2, h3, h4⟩ := sg_rps (l := l) h.1
    have e := wMany_wt w
    simp only [Sg.d, Sg.ht, Sg.sz, lay_tuple, lay_cons, lay_str, lay_nil, PyData.depth, PyData.depthAll, PyData.showable, PyData.showableAll, wt.eq_6, wts, h1, h3, wMany_ok]
    refine ⟨rfl, by omega, rfl, by omega⟩
  | .so a b, h => by
    obtain ⟨h1, h2, h3, h4⟩ := sg_rp (s := a) h.1
    obtain ⟨k1, k2, k3, k4⟩ := sg_rp (s := b) h.2
    simp only [Sg.d, Sg.ht, Sg.sz, lay_tuple, lay_cons, lay_str, lay_nil, PyData.depth, PyData.depthAll, PyData.showable, PyData.showableAll, wt.eq_6, wts, wt_so, h1, h3, k1, k3]
    refine ⟨by decide +kernel, by omega, rfl, by omega⟩
  | .tl a b, h => by
    obtain ⟨h1, h2, h3, h4⟩ := sg_rp (s := a) h.1
    obtain ⟨k1, k2, k3, k4⟩ := sg_rp (s := b) h.2
    simp only [Sg.d, Sg.ht, Sg.sz, lay_tuple, lay_cons, lay_str, lay_nil, PyData.depth, PyData.depthAll, PyData.showable, PyData.showableAll, wt.eq_6, wts, wt_told, h1, h3, k1, k3]
    refine ⟨by decide +kernel, by omega, rfl, by omega⟩
  | .mod w x s, h => by
    obtain ⟨h1, h2, h3, h4⟩ := sg_rp (s := s) h.2
    have e := wMod_wt w
    have a := Sw.ok h.1
    have b := Sw.len h.1
    simp only [Sg.d, Sg.ht, Sg.sz, lay_tuple, lay_cons, lay_str, lay_nil, PyData.depth, PyData.depthAll, PyData.showable, PyData.showableAll, wt.eq_6, wts, h1, h3, wMod_ok, a, b]
    refine ⟨rfl, by omega, rfl, by omega⟩
theorem sg_rps : ∀ {l : List Sg}, Sg.soks l → PyData.canLayAll0 (Sg.ds l) = true ∧ PyData.depthAll (Sg.ds l) ≤ 2 * Sg.hts l + 1 ∧ PyData.showableAll (Sg.ds l) = true ∧ wts (Sg.ds l) ≤ 30 * Sg.szs l
  | [], _ => by simp [Sg.ds, PyData.depthAll, PyData.showableAll, wts]
  | s :: r, h => by
    obtain ⟨h1, h2, h3, h4⟩ := sg_rp (s := s) h.1
    obtain ⟨k1, k2, k3, k4⟩ := sg_rps (l := r) h.2
    simp only [Sg.ds, Sg.hts, Sg.szs, lay_cons, PyData.depthAll, PyData.showableAll, wts, h1, h3, k1, k3]
    refine ⟨rfl, by omega, rfl, by omega⟩
end
end Mok05
set_option autoImplicit false
namespace Mok05
variable [Wd]
open PySem PySem.Spec PyProof.Rows L2
@[simp] theorem strOk_of (s : String) : PyData.strOk (Str.ofString s) = true := by
  rw [Str.ofString_eq_toList]
  unfold PyData.strOk
  rw [Array.all_eq_true']
  intro x hx
  rw [List.mem_toArray] at hx
  obtain ⟨c, _, rfl⟩ := List.mem_map.mp hx
  have h := c.valid
  simp only [decide_eq_true_eq, Char.toNat]
  rcases h with h | h
  · have : c.val.toNat < 55296 := h
    omega
  · exact h.2
def innerB : DS := (sSeq (sSet 1 (dP2 opIxA (dV 0) (dC (.int 0))))
  (sSeq (sIf (dTb (dP2 (opEq false) (dV 1) (dC (.str "letter"))))
  (sRet (dPn opTup dNil)) sNext)
  (sSeq (sIf (dTb (dP2 (opInA false) (dV 1) (dPn opTup (dCons (dC (.str "and")) (dCons (dC (.str "or")) dNil)))))
  (sRet (dP2 opIxA (dV 0) (dC (.int 1)))) sNext)
  (sSeq (sIf (dTb (dP2 (opInA false) (dV 1) (dPn opTup (dCons (dC (.str "must")) (dCons (dC (.str "may")) dNil)))))
  (sRet (dSl false (dV 0) (dPart (dC (.int 2))) dNo)) sNext)
  (sRet (dSl false (dV 0) (dPart (dC (.int 1))) dNo))))))
def withB : DS := (sSeq (sSet 2 (dP2 opIxA (dV 0) (dC (.int 0))))
  (sSeq (sIf (dTb (dP2 (opEq false) (dV 2) (dC (.str "letter"))))
  (sRet (dV 0)) sNext)
  (sSeq (sIf (dTb (dP2 (opInA false) (dV 2) (dPn opTup (dCons (dC (.str "and")) (dCons (dC (.str "or")) dNil)))))
  (sRet (dPn opTup (dCons (dV 2) (dCons (dV 1) dNil)))) sNext)
  (sSeq (sIf (dTb (dP2 (opInA false) (dV 2) (dPn opTup (dCons (dC (.str "must")) (dCons (dC (.str "may")) dNil)))))
  (sRet (dPn opTup (dCons (dV 2) (dCons (dP2 opIxA (dV 0) (dC (.int 1))) (dStar (dV 1) dNil))))) sNext)
  (sRet (dPn opTup (dCons (dV 2) (dStar (dV 1) dNil))))))))
noncomputable def innerF : Fn := fnF 1 2 innerB
noncomputable def withF : Fn := fnF 2 3 withB
def Sg.inn : Sg → List Sg
  | .lt _ => []
  | .no s => [s]
  | .many _ l => l
  | .so a b => [a, b]
  | .tl a b => [a, b]
  | .mod _ _ s => [s]
def Sg.wi : Sg → List Sg → Sg
  | .no _, [x] => .no x
  | .many w _, l => .many w l
  | .so _ _, [x, y] => .so x y
  | .tl _ _, [x, y] => .tl x y
  | .mod w h _, [x] => .mod w h x
  | s, _ => s
theorem inn_ht {s x : Sg} (h : x ∈ s.inn) : x.ht < s.ht := by
  cases s with
  | lt _ => cases h
  | no s => rw [List.mem_singleton.mp h, Sg.ht]; omega
  | many w l =>
    rw [Sg.ht]
    have : ∀ l : List Sg, x ∈ l → x.ht ≤ Sg.hts l := fun l => by
      induction l with
      | nil => intro h; cases h
      | cons y r ih =>
        intro h
        rw [Sg.hts]
        rcases List.mem_cons.mp h with rfl | h
        · omega
        · have := ih h; omega
    have := this l h
    omega
  | so a b =>
    rw [Sg.ht]
    rcases List.mem_cons.mp h with rfl | h
    · omega
    · rw [List.mem_singleton.mp h]; omega
  | tl a b =>
    rw [Sg.ht]
    rcases List.mem_cons.mp h with rfl | h
    · omega
    · rw [List.mem_singleton.mp h]; omega
  | mod _ _ s => rw [List.mem_singleton.mp h, Sg.ht]; omega
theorem inn_sok {s x : Sg} (h : x ∈ s.inn) (k : s.sok) : x.sok := by
  cases s with
  | lt _ => cases h
  | no s => rw [List.mem_singleton.mp h]; exact k
  | many w l => exact soks_all.mp k.1 x h
  | so a b =>
    rcases List.mem_cons.mp h with rfl | h
    · exact k.1
    · rw [List.mem_singleton.mp h]; exact k.2
  | tl a b =>
    rcases List.mem_cons.mp h with rfl | h
    · exact k.1
    · rw [List.mem_singleton.mp h]; exact k.2
  | mod _ _ s => rw [List.mem_singleton.mp h]; exact k.2
@[simp] theorem cut1 {α : Type} {x : α} {xs : List α} : cutD (x :: xs) (some 1) none = xs := by
  have e1 : HT.sIx (xs.length + 1) 0 (some 1) = 1 := by unfold HT.sIx; simp <;> omega
  have e2 : HT.sIx (xs.length + 1) (xs.length + 1) none = xs.length + 1 := rfl
  unfold cutD
  simp only [List.length_cons, e1, e2]
  simp
@[simp] theorem cut2 {α : Type} {x y : α} {xs : List α} : cutD (x :: y :: xs) (some 2) none = xs := by
  have e1 : HT.sIx (xs.length + 1 + 1) 0 (some 2) = 2 := by unfold HT.sIx; simp <;> omega
  have e2 : HT.sIx (xs.length + 1 + 1) (xs.length + 1 + 1) none = xs.length + 1 + 1 := rfl
  unfold cutD
  simp only [List.length_cons, e1, e2]
  simp
@[simp] theorem okO_slt {own : Bool} {lo hi : Option Int} {xs : List PyData} {μ : Mem} {Pw : W → Mem → Prop} : OkO (slW own lo hi (.d (.tuple xs)) μ) Pw = ((cutD xs lo hi).length ≤ sizeLine ∧ Pw (.d (.tuple (cutD xs lo hi))) μ) := by
  simp only [slW, mkT, sz, decide_eq_true_eq]
  split <;> simp [*]
@[simp] theorem okO_tut {xs : List PyData} {μ : Mem} {Pw : W → Mem → Prop} : OkO (opTu [.d (.tuple xs)] μ) Pw = Pw (.d (.tuple xs)) μ := rfl
@[simp] theorem okO_tul {xs : List PyData} {μ : Mem} {Pw : W → Mem → Prop} : OkO (opTu [.d (.list xs)] μ) Pw = (xs.length ≤ sizeLine ∧ Pw (.d (.tuple xs)) μ) := by
  simp only [opTu, opTuple, seqV_l, mkT, sz, decide_eq_true_eq]
  split <;> simp [*]
theorem inner_ok (s : Sg) (μ : Mem) : Ok (innerF [.d s.d] μ) fun w _ => w = .d (.tuple (Sg.ds s.inn)) := by
  cases s with
  | many w l => cases w <;> simp (config := { decide := true }) [innerF, innerB, Sg.d, Sg.inn, Sg.ds, wMany]
  | mod w h s => cases w <;> simp (config := { decide := true }) [innerF, innerB, Sg.d, Sg.inn, Sg.ds, wMod]
  | _ => simp (config := { decide := true }) [innerF, innerB, Sg.d, Sg.inn, Sg.ds]
theorem inn_len {s : Sg} (h : s.sok) : s.inn.length ≤ sizeLine := by
  cases s with
  | many w l => exact le_size h.2
  | _ => exact le_size (by simp [Sg.inn])
def Sg.w : Sg → Str
  | .lt _ => "letter"
  | .no _ => "not"
  | .many w _ => wMany w
  | .so _ _ => "so"
  | .tl _ _ => "told"
  | .mod w _ _ => wMod w
@[simp] theorem ix0_sg {s : Sg} {μ : Mem} {Pw : W → Mem → Prop} : OkO (opIxA [.d s.d, .d (.int 0)] μ) Pw = Pw (.d (.str s.w)) μ := by
  cases s <;> simp [Sg.d, Sg.w]
@[simp] theorem strOk_w (s : Sg) : PyData.strOk s.w = true := by
  cases s with
  | many w _ => exact wMany_ok w
  | mod w _ _ => exact wMod_ok w
  | _ => exact strOk_of _
theorem inner_eq (s : Sg) (μ : Mem) : callF innerF [.d s.d] μ = .ok (.d (.tuple (Sg.ds s.inn))) μ := call_pure rfl (inner_ok s [])
theorem with_ok (s : Sg) (r : List Sg) (h : r.length = s.inn.length) (μ : Mem) : Ok (withF [.d s.d, .d (.tuple (Sg.ds r))] μ) fun w _ => w = .d (s.wi r).d := by
  cases s with
  | many w l => cases w <;> simp (config := { decide := true }) [withF, withB, Sg.d, Sg.wi, Sg.ds, wMany]
  | mod w x s =>
    obtain ⟨y, rfl⟩ := List.length_eq_one_iff.mp h
    cases w <;> simp (config := { decide := true }) [withF, withB, Sg.d, Sg.wi, Sg.ds, wMod]
  | lt x => simp (config := { decide := true }) [withF, withB, Sg.d, Sg.wi, Sg.ds]
  | no s =>
    obtain ⟨y, rfl⟩ := List.length_eq_one_iff.mp h
    simp (config := { decide := true }) [withF, withB, Sg.d, Sg.wi, Sg.ds]
  | so a b =>
    obtain ⟨x, y, rfl⟩ : ∃ x y, r = [x, y] := by
      match r, h with
      | [x, y], _ => exact ⟨x, y, rfl⟩
    simp (config := { decide := true }) [withF, withB, Sg.d, Sg.wi, Sg.ds]
  | tl a b =>
    obtain ⟨x, y, rfl⟩ : ∃ x y, r = [x, y] := by
      match r, h with
      | [x, y], _ => exact ⟨x, y, rfl⟩
    simp (config := { decide := true }) [withF, withB, Sg.d, Sg.wi, Sg.ds]
theorem with_eq (s : Sg) (r : List Sg) (h : r.length = s.inn.length) (μ : Mem) : callF withF [.d s.d, .d (.tuple (Sg.ds r))] μ = .ok (.d (s.wi r).d) μ := call_pure rfl (with_ok s r h [])
theorem each_list {l : List Sg} {f : Sg → Sg} {te : DE} {i : Nat} {ρ : Env} {μ : Mem} {Pa : List PyData → Mem → Prop} (hz : l.length ≤ sizeLine) (h : ∀ x ∈ l, te (ρ.set i (some (.d x.d))) μ = .ok (.d (f x).d) μ) (q : Pa (Sg.ds (l.map f)) μ) :
    Ok (lcL (Sg.ds l, none) (gN i) (lcOne dYes te) ρ (Sg.ds l) [] μ) Pa := by
  refine lc_map (s := (Sg.ds l, none)) (ys := Sg.ds (l.map f)) rfl trivial (by simp [ds_map]) (by simpa [ds_map] using hz) (fun j x y hx hy => ?_) q
  rw [ds_map, List.getElem?_map] at hx hy
  obtain ⟨a, ha, rfl⟩ := Option.map_eq_some_iff.mp hx
  rw [List.getElem?_map, ha] at hy
  cases hy
  exact h a (List.mem_of_getElem? ha)
theorem each_inner {s : Sg} {f : Sg → Sg} {te : DE} {i : Nat} {ρ : Env} {μ : Mem} {Pa : List PyData → Mem → Prop} (hz : s.inn.length ≤ sizeLine) (h : ∀ x ∈ s.inn, te (ρ.set i (some (.d x.d))) μ = .ok (.d (f x).d) μ) (q : Pa (Sg.ds (s.inn.map f)) μ) :
    Ok (lcL (Sg.ds s.inn, none) (gN i) (lcOne dYes te) ρ (Sg.ds s.inn) [] μ) Pa := by
  refine lc_map (s := (Sg.ds s.inn, none)) (ys := Sg.ds (s.inn.map f)) rfl trivial (by simp [ds_map]) (by simpa [ds_map] using hz) (fun j x y hx hy => ?_) q
  rw [ds_map, List.getElem?_map] at hx hy
  obtain ⟨a, ha, rfl⟩ := Option.map_eq_some_iff.mp hx
  rw [List.getElem?_map, ha] at hy
  cases hy
  exact h a (List.mem_of_getElem? ha)
end Mok05
set_option autoImplicit false
namespace Mok05
variable [Wd]
open PySem PySem.Spec PyProof.Rows L2
section
variable {μ : Mem} {Pw : W → Mem → Prop}
theorem okO_app {n : Nat} {xs : List PyData} {x : PyData} (h : μ[n]? = some (.l xs)) (hz : xs.length + 1 ≤ sizeLine) : OkO (opAppend [.r n, .d x] μ) Pw = Pw (.d .none) (μ.set n (.l (xs ++ [x]))) := by
  simp [opAppend, h, sz, hz]
end
def Mf (K : Int) (μ : Mem) : Prop := ∃ xs, μ[0]? = some (.l xs) ∧ FdOk K xs
theorem Mf.mono {K M : Int} {μ : Mem} (h : Mf K μ) (e : K ≤ M) : Mf M μ := by
  obtain ⟨xs, h1, h2⟩ := h
  exact ⟨xs, h1, h2.mono e⟩
def Beh (μ μ' : Mem) : Prop := ∀ (j : Nat) (o : MO), 1 ≤ j → μ[j]? = some o → μ'[j]? = some o
theorem Mf.set {K : Int} {μ : Mem} (h : Mf K μ) {j : Nat} (hj : 1 ≤ j) (o : MO) : Mf K (μ.set j o) := by
  obtain ⟨xs, h1, h2⟩ := h
  exact ⟨xs, by rw [List.getElem?_set_ne (by omega)]; exact h1, h2⟩
structure SayS (L : Int) (t : Bool) (s : Sg) : Prop where
  int : s.int ≤ fL L
  lv : 1 ≤ L → s.lv ≤ L.toNat
  ok : s.ok t
theorem call_say {n : Nat} {μ : Mem} {K L : Int} {t : Bool} {P : W → Mem → Prop} (hf : Mf K μ) (h0 : 0 < n) (hL : L ≤ n) (hK : K + 2 * (1 + 3 * (fL L : Int)) ≤ 1000000000)
    (q : ∀ s μ', SayS L t s → Mf (K + 2 * (1 + 3 * (fL L : Int))) μ' → Beh μ μ' → P (.d s.d) μ') : Ok (callF (sayF n) [.r 0, .r μ.length, .d (.bool t)] (μ ++ [.l [.int L]])) P := by
  obtain ⟨xs, h, hf⟩ := hf
  have hn := (List.getElem?_eq_some_iff.mp h).1
  have e : two2 (μ ++ [.l [.int L]]) 0 μ.length xs L = μ ++ [.l [.int L]] := two2_self (mem_get _ h) (by simp)
  rw [ok_callR rfl]
  have main := saying_ok n (μ ++ [.l [.int L]]) 0 μ.length xs K L t (by omega) (by simp) (by simp) hf h0 hL hK
  rw [e] at main
  refine main.mono ?_
  rintro w μ' ⟨s, xs', M, rfl, rfl, r⟩
  rw [bkR_d, take_len (by simp)]
  have a := r.lf
  have b := r.lv
  refine q s _ ⟨by omega, fun h => by have := b.1 h; omega, r.ok⟩ ⟨xs', two2_f (by omega) (by simp), r.fd.mono (by omega)⟩ fun j o h1 h2 => ?_
  unfold two2
  have hj := (List.getElem?_eq_some_iff.mp h2).1
  rw [List.getElem?_set_ne (by omega), List.getElem?_set_ne (by omega)]
  exact mem_get _ h2
theorem lv_int : ∀ s : Sg, s.sz ≤ s.int + s.lv ∧ s.ht ≤ s.int :=
  Sg.rec (motive_1 := fun s => s.sz ≤ s.int + s.lv ∧ s.ht ≤ s.int) (motive_2 := fun l => Sg.szs l ≤ Sg.ints l + Sg.lvs l ∧ Sg.hts l ≤ Sg.ints l) (fun x => by simp [Sg.sz, Sg.int, Sg.lv, Sg.ht]) (fun s h => by simp only [Sg.sz, Sg.int, Sg.lv, Sg.ht]; omega) (fun w l h => by simp only [Sg.sz, Sg.int, Sg.lv, Sg.ht]; omega) (fun a b h k => by simp only [Sg.sz, Sg.int, Sg.lv, Sg.ht]; omega)
    (fun a b h k => by simp only [Sg.sz, Sg.int, Sg.lv, Sg.ht]; omega) (fun w x s h => by simp only [Sg.sz, Sg.int, Sg.lv, Sg.ht]; omega) (by simp [Sg.szs, Sg.ints, Sg.lvs, Sg.hts]) (fun s r h k => by simp only [Sg.szs, Sg.ints, Sg.lvs, Sg.hts]; omega)
end Mok05
set_option autoImplicit false
namespace Mok05
variable [Wd]
open PySem PySem.Spec PyProof.Rows L2
def GlobAt (K : PySem.W.Frag) (mg : Str → Option Value) (x : Str) (d : PyData) : Prop := ∃ u v, mg x = some u ∧ RelV v u ∧ ∀ L H, Dv K L H v d
def GDict (K : PySem.W.Frag) (w : World) (mg : Str → Option Value) (x : Str) (f : Str → Option PyData) : Prop := ∃ p, mg x = some (.ref p) ∧ ∀ z y, f z = some y → ∃ v, KDct K w p z v ∧ ∀ L H, Dv K L H v y
def dKD (f : Str → Option PyData) (d : DE) : DE := fun ρ μ => bnd (d ρ μ) fun w μ1 => match w with
  | .d (.str z) => match f z with
    | some y => .ok (.d y) μ1
    | none => .bad
  | _ => .bad
section
variable {X : Cx} {ct : Ct} {Z : WX}
theorem mG {x : Str} {pos : Pos} {d : PyData} (G : GlobAt X.K X.mg x d) (hg : Gl X x := by rfl) (hd : (x == ("__debug__" : Str)) = false := by decide) : ME X ct Z (.Name x pos) (dC d) := by
  obtain ⟨u, v, h1, h2, h3⟩ := G
  exact mConst (pe_glob hg h1 h2 (hd := hd)) h3
theorem mKD {x : Str} {px pos : Pos} {e : Expr} {f : Str → Option PyData} {d : DE} (G : GDict X.K X.w X.mg x f) (he : ME X ct Z e d) (hg : Gl X x := by rfl) (hs : PlainIx e := by exact fun _ _ => rfl) (hd : (x == ("__debug__" : Str)) = false := by decide) : ME X ct Z (.Subscript (.Name x px) e pos) (dKD f d) := by
  obtain ⟨p, h1, h2⟩ := G
  refine ⟨pe_imp (pe_ix ix_kdict (pe_glob (v := .ref p) hg h1 rfl (hd := hd)) he.pe hs) fun σ H Q h => ?_⟩
  obtain ⟨m, ρ, μ, hr, hh, g⟩ := h
  refine ⟨m, ρ, μ, hr, hh, (Gd.bnd g).mono fun w μ1 m1 H1 e1 h1' g1 v r1 => ?_⟩
  split at g1
  · rename_i z
    cases r1
    cases q : f z with
    | none => rw [q] at g1; exact g1.elim
    | some y =>
      rw [q] at g1
      obtain ⟨v, k1, k2⟩ := h2 z y q
      exact ⟨p, z, v, rfl, rfl, k1, g1 m1 H1 (.refl _ _) h1' v (k2 _ _)⟩
  · exact g1.elim
@[simp] theorem ok_dKD {f : Str → Option PyData} {d : DE} {ρ : Env} {μ : Mem} {P : W → Mem → Prop} : Ok (dKD f d ρ μ) P = Ok (d ρ μ) fun w μ1 => match w with
  | .d (.str z) => match f z with
    | some y => P (.d y) μ1
    | none => False
  | _ => False := by
  simp only [dKD, ok_bnd]
  congr 1
  funext w μ1
  split
  · split <;> simp [*]
  · simp
@[simp] theorem okO_int {i : Int} {μ : Mem} {P : W → Mem → Prop} : OkO (opInt [.d (.int i)] μ) P = P (.d (.int i)) μ := rfl
@[simp] theorem okO_intb {b : Bool} {μ : Mem} {P : W → Mem → Prop} : OkO (opInt [.d (.bool b)] μ) P = P (.d (.int (if b then 1 else 0))) μ := rfl
end
theorem gdict_of {K : PySem.W.Frag} {w : World} {mg : Str → Option Value} {h : Heap} {x : Str} {p : Addr} {es : Array DictEntry} {n : Nat} {f : Str → Option PyData} (X : K.In h) (G : h.Ns mainGlobals mg) (a : PySem.W.nsIn K mainGlobals x = some (some (.ref p)))
    (l : K.lookup p = some ⟨.type "dict", none, .dict es n, #[]⟩) (k : PySem.W.KeysLit w.params es.toList) (q : ∀ z y, f z = some y → ∃ u v, PySem.W.nsIn K p z = some (some u) ∧ RelV v u ∧ ∀ L H, Dv K L H v y) : GDict K w mg x f :=
  ⟨p, PySem.W.mg_of X G a, fun z y e => by
    obtain ⟨u, v, h1, h2, h3⟩ := q z y e
    exact ⟨v, ⟨es, n, u, l, k, h1, h2⟩, h3⟩⟩
theorem glob_int {K : PySem.W.Frag} {mg : Str → Option Value} {h : Heap} {x : Str} {i : Int} {t : Nat} (X : K.In h) (G : h.Ns mainGlobals mg) (a : PySem.W.nsIn K mainGlobals x = some (some (.int i t))) : GlobAt K mg x (.int i) :=
  ⟨.int i t, .int i, PySem.W.mg_of X G a, ⟨t, rfl⟩, fun _ _ => .int i⟩
end Mok05
set_option autoImplicit false
namespace Mok05
variable [Wd]
open PySem PySem.Spec PyProof.Rows L2
def ClassAt (K : PySem.W.Frag) (mg : Str → Option Value) (x : Str) (names : List Str) : Prop := ∃ C : Addr, PySem.W.nsIn K mainGlobals x = some (some (.ref C)) ∧ mg x = some (.ref C) ∧ Cls K C ∧ ∀ f ∈ names, NoAttr K C f
section
variable {X : Cx} {ct : Ct} {Z : WX}
end
def CalM (P : Program) (w : World) (K : PySem.W.Frag) (mg : Str → Option Value) (base : Heap) (ct : Ct) (k : Nat) (x m : Str) (F : Fn) : Prop := ∃ (C f : Addr) (fd : FuncData) (ps : List Str), PySem.W.nsIn K mainGlobals x = some (some (.ref C)) ∧ Cls K C ∧ Meth K C m f ∧ FnG P w K mg base ct k f fd ps F ∧ Binds K fd ps []
section
variable {X : Cx} {ct : Ct} {Z : WX}
end
end Mok05
set_option autoImplicit false
namespace Mok05
variable [Wd]
open PySem PySem.Spec PyProof.Rows L2
def CalI (P : Program) (w : World) (K : PySem.W.Frag) (mg : Str → Option Value) (base : Heap) (ct : Ct) (k : Nat) (x : Str) (F : Fn) : Prop := ∃ (C f : Addr) (fd : FuncData) (ps : List Str), PySem.W.nsIn K mainGlobals x = some (some (.ref C)) ∧ mg x = some (.ref C) ∧ Mk K C f ∧ FnG P w K mg base ct k f fd ps F ∧ Binds K fd ps []
section
variable {X : Cx} {ct : Ct} {Z : WX}
end
section
variable {ρ : Env} {μ : Mem} {P : W → Mem → Prop} {x f : Str}
end
end Mok05
set_option autoImplicit false
namespace Mok05
variable [Wd]
open PySem PySem.Spec PyProof.Rows L2
open PySem.SeqAt (EqAt RcLt)
open PySem.W (keyToks keyToksAll dataLt)
mutual
theorem reads_uniq {h : Heap} : ∀ (d e : PyData) (v : Value) (as bs : List Addr), d.canLay0 = true → Reads h v d as → Reads h v e bs → d = e
  | .none, e, v, as, bs, _, r, r' => by
    cases r
    cases r'
    rfl
  | .bool b, e, v, as, bs, _, r, r' => by
    cases r
    cases r'
    rfl
  | .int i, e, v, as, bs, _, r, r' => by
    cases r
    cases r'
    rfl
  | .str x, e, v, as, bs, _, r, r' => by
    cases r
    cases r'
    rfl
  | .list xs, e, v, as, bs, s, r, r' => by
    cases r with
    | list h1 h2 h3 h4 =>
      cases r' with
      | tuple k1 k2 k3 k4 =>
        rw [h1] at k1
        cases k1
        rw [h2] at k2
        exact absurd (Value.type.inj k2) (by decide)
      | list k1 k2 k3 k4 =>
        rw [h1] at k1
        cases k1
        rw [h3] at k3
        cases k3
        rw [reads_uniqs xs _ _ _ _ (by simpa using s) h4 k4]
      | dict k1 k2 k3 k4 =>
        rw [h1] at k1
        cases k1
        rw [h2] at k2
        exact absurd (Value.type.inj k2) (by decide)
  | .tuple xs, e, v, as, bs, s, r, r' => by
    cases r with
    | tuple h1 h2 h3 h4 =>
      cases r' with
      | list k1 k2 k3 k4 =>
        rw [h1] at k1
        cases k1
        rw [h2] at k2
        exact absurd (Value.type.inj k2) (by decide)
      | tuple k1 k2 k3 k4 =>
        rw [h1] at k1
        cases k1
        rw [h3] at k3
        cases k3
        rw [reads_uniqs xs _ _ _ _ (by simpa using s) h4 k4]
      | dict k1 k2 k3 k4 =>
        rw [h1] at k1
        cases k1
        rw [h2] at k2
        exact absurd (Value.type.inj k2) (by decide)
  | .dict _, _, _, _, _, h, _, _ => by simp [PyData.canLay0] at h
theorem reads_uniqs {h : Heap} : ∀ (xs ys : List PyData) (vs : List Value) (as bs : List Addr), PyData.canLayAll0 xs = true → ReadsAll h vs xs as → ReadsAll h vs ys bs → xs = ys
  | [], _, _, _, _, _, r, r' => by
    cases r
    cases r'
    rfl
  | x :: xs, _, _, _, _, s, r, r' => by
    simp only [lay_cons, Bool.and_eq_true] at s
    cases r with
    | cons r1 r2 =>
      cases r' with
      | cons k1 k2 => rw [reads_uniq x _ _ _ _ s.1 r1 k1, reads_uniqs xs _ _ _ _ s.2 r2 k2]
end
def begins : PyData → Bool
  | .tuple (.str _ :: _) => true
  | _ => false
theorem begins_is {d : PyData} (h : begins d = true) : ∃ (x : Str) (r : List PyData), d = .tuple (.str x :: r) := by
  unfold begins at h
  split at h
  · exact ⟨_, _, rfl⟩
  · cases h
section
variable {prog : Program} {w : World} {A : Around} {E : Value → Shared → Prop} {s : Shared}
theorem kat_fst {fin k : Bool} {Q : Bool → Shared → Prop} (q : Q k s) : ∀ {l : List (Value × Value)} {i : Nat}, 1 ≤ i → Fst A s fin l k → PySem.W.KatLex prog w A true fin Q l i s := by
  intro l i hi hF
  induction hF generalizing i with
  | nil => exact q
  | same he hr ih =>
    refine he prog w _ _ ?_
    rw [if_pos rfl]
    exact ih q (by omega)
  | diff he hr =>
    refine he prog w _ _ ?_
    rw [if_neg (by decide)]
    have e : (true && i == 0) = false := by
      simp
      omega
    rw [e, oneLt'_eq]
    simp only [Bool.false_eq_true, if_false]
    exact wpAny_bind (hr prog w _ _ (wpAny_truthy_bool q))
theorem kat_two {a b : Value} {d e : PyData} {as bs : List Addr} (ra : Reads s.heap a d as) (rb : Reads s.heap b e bs) (h1 : begins d = true) (h2 : begins e = true) (c : cmpOk d e = true) (l1 : d.canLay0 = true) (l2 : e.canLay0 = true) (hu : A.units + min d.depth e.depth < cLine) :
    wpAny (model prog w) A (keyLt' (tuples' true) a b) (fun r s' => s' = s ∧ r = dataLt d e) (fun _ _ => False) s := by
  obtain ⟨x, r, rfl⟩ := begins_is h1
  obtain ⟨y, t, rfl⟩ := begins_is h2
  simp only [lay_tuple, lay_cons, Bool.and_eq_true] at l1 l2
  simp only [cmpOk, cmpOks] at c
  cases ra with
  | @tuple l o vs nn _ as₁ g1 g2 g3 g4 =>
    cases rb with
    | @tuple l' o' ws mm _ bs₁ k1 k2 k3 k4 =>
      obtain ⟨vl⟩ := vs
      obtain ⟨wl⟩ := ws
      refine PySem.W.kat_lt g1 g3 k1 k3 ?_
      simp only [PyData.depth] at hu
      have hu' : A.units + min (PyData.depthAll (.str x :: r)) (PyData.depthAll (.str y :: t)) < cLine := by omega
      cases g4 with
      | cons u1 u2 =>
        cases k4 with
        | cons v1 v2 =>
          have he := PySem.SeqAt.eqAt_reads (.str x) (.str y) A s _ _ _ _ u1 v1 l1.1 l2.1 (by simp only [PyData.depth]; omega)
          cases u1
          cases v1
          rw [PySem.W.dataLt_tuple]
          by_cases q : x = y
          · subst q
            rw [lt_same]
            have hs : same (.str x) (.str x) = true := by simp [same]
            rw [(same_refl (.str x) l1.1).2] at he
            rw [if_pos hs] at c
            refine he prog w _ _ ?_
            rw [if_pos rfl]
            refine kat_fst ⟨rfl, rfl⟩ (Nat.le_refl _) ?_
            have hf := rc_datas r t A s _ _ _ _ u2 v2 c l1.2 l2.2 (PySem.SeqAt.room_tail hu')
            have hd : ∀ {v w' : Value} {vs ws : List Value}, decide ((v :: vs).toArray.size < (w' :: ws).toArray.size) = decide (vs.length < ws.length) := fun {v w' vs ws} => by simp
            rw [hd]
            exact hf
          · have hn : same (.str x) (.str y) = false := by simp [same, q]
            rw [lt_diff rfl hn, PySem.W.dataLt_str]
            have hf : PyData.eqv (.str x) (.str y) = false := by simp [PyData.eqv, q]
            rw [hf] at he
            refine he prog w _ _ ?_
            rw [if_neg (by decide)]
            exact oneLt_str ⟨rfl, rfl⟩
theorem kat_words {h : Heap} : ∀ {vs : List Value}, (∀ v ∈ vs, ∃ d as, Reads h v d as ∧ begins d = true) → ∃ fs, PySem.W.KatTups h vs fs ∧ fs.length = vs.length ∧ ∀ f ∈ fs, ∃ x t, f = Value.str x t
  | [], _ => ⟨[], .nil, rfl, by simp⟩
  | v :: vs, g => by
    obtain ⟨fs, h1, h2, h3⟩ := kat_words fun u hu => g u (List.mem_cons_of_mem _ hu)
    obtain ⟨d, as, hr, hs⟩ := g v List.mem_cons_self
    obtain ⟨x, r, rfl⟩ := begins_is hs
    cases hr with
    | @tuple l o us nn _ as₁ g1 g2 g3 g4 =>
      obtain ⟨ul⟩ := us
      cases g4 with
      | cons u1 u2 =>
        cases u1
        refine ⟨_ :: fs, .cons g1 g2 g3 rfl h1, by simp [h2], fun f hf => ?_⟩
        rcases List.mem_cons.mp hf with rfl | hf
        · exact ⟨_, _, rfl⟩
        · exact h3 f hf
structure Srt (ds : List PyData) : Prop where
  beg : ∀ d ∈ ds, begins d = true
  cmp : ∀ d ∈ ds, ∀ e ∈ ds, cmpOk d e = true
  lay : ∀ d ∈ ds, d.canLay0 = true ∧ d.depth ≤ 60
theorem sortable_any {ds : List PyData} {a : Addr} {h0 : Heap} {vs : List Value} {dec : Value → PyData} (S : Srt ds) (h2 : 2 ≤ vs.length) (hs : ∀ v ∈ vs, dec v ∈ ds ∧ ∃ as, Reads h0 v (dec v) as) (ha : ∀ b o, h0.get? b = some o → b ≠ a ∧ s.heap.get? b = some o) (hu : A.units + 60 < cLine) :
    SrtO.SortableO prog w A s a vs fun v u => dataLt (dec v) (dec u) := by
  intro h' keep
  have kk : ∀ b o, h0.get? b = some o → h'.get? b = some o := fun b o e => keep b o (ha b o e).1 (ha b o e).2
  have hs' : ∀ v ∈ vs, dec v ∈ ds ∧ ∃ as, Reads h' v (dec v) as := fun v hv => ⟨(hs v hv).1, let ⟨as, r⟩ := (hs v hv).2; ⟨as, PySem.W.reads_keeps kk r⟩⟩
  obtain ⟨fs, g1, g2, g3⟩ := kat_words (h := h') (vs := vs) fun v hv => let ⟨a, as, r⟩ := hs' v hv; ⟨_, as, r, S.beg _ a⟩
  refine ⟨tuples' true, fun Q E hq => ?_, fun p q hp hq => ?_⟩
  · refine PySem.W.kat_kind (T := .type "str") g1 (by omega) (fun f hm => ?_) (by rfl) ?_
    · obtain ⟨x, t, rfl⟩ := g3 f hm
      exact PySem.W.Looks.now
    · have e : (Value.type "str" != Value.type "tuple") = true := by first | decide +kernel | rfl | decide
      rw [e]
      exact hq
  · obtain ⟨s1, as, r1⟩ := hs' _ hp
    obtain ⟨s2, bs, r2⟩ := hs' _ hq
    have hd := (S.lay _ s1).2
    exact kat_two (s := { s with heap := h' }) r1 r2 (S.beg _ s1) (S.beg _ s2) (S.cmp _ s1 _ s2) (S.lay _ s1).1 (S.lay _ s2).1 (by omega)
end
theorem vals_at {us : List V} {its : List Value} (r : Vals us its) {i : Nat} {v : Value} (h : its[i]? = some v) : ∃ u, us[i]? = some u ∧ RelV u v := by
  have hl := r.length
  cases e : us[i]? with
  | none =>
    have := r.none_of e
    rw [this] at h
    cases h
  | some u =>
    obtain ⟨v', h1, h2⟩ := r.get e
    rw [h] at h1
    cases h1
    exact ⟨u, rfl, h2⟩
theorem dvAll_map {K : PySem.W.Frag} {L : Addr → Prop} {H : Hp} {dec : Value → PyData} : ∀ {out : List Value}, (∀ v ∈ out, Dv K L H (backV v) (dec v)) → DvAll K L H (out.map backV) (out.map dec)
  | [], _ => .nil
  | v :: vs, h => .cons (h v List.mem_cons_self) (dvAll_map fun u hu => h u (List.mem_cons_of_mem _ hu))
theorem perm_sorted : ∀ {l m : List PyData}, l.Perm m → l.Pairwise (fun x y => dataLt y x = false) → m.Pairwise (fun x y => dataLt y x = false) → (∀ d ∈ l, ∀ e ∈ l, cmpOk d e = true) → l = m
  | [], m, p, _, _, _ => (List.Perm.eq_nil p.symm).symm
  | x :: l, [], p, _, _, _ => absurd p.length_eq (by simp)
  | x :: l, y :: m, p, hl, hm, hs => by
    have e : x = y := by
      rcases List.mem_cons.mp (p.mem_iff.mp (List.mem_cons_self (a := x) (l := l))) with e | hx
      · exact e
      · rcases List.mem_cons.mp (p.mem_iff.mpr (List.mem_cons_self (a := y) (l := m))) with e | hy
        · exact e.symm
        · have h1 := (List.pairwise_cons.mp hm).1 x hx
          have h2 := (List.pairwise_cons.mp hl).1 y hy
          exact same_eq _ _ (lt_total (hs x List.mem_cons_self y (List.mem_cons_of_mem _ hy)) h1 h2)
    subst e
    rw [perm_sorted (List.Perm.cons_inv p) (List.pairwise_cons.mp hl).2 (List.pairwise_cons.mp hm).2 fun d hd e he => hs d (List.mem_cons_of_mem _ hd) e (List.mem_cons_of_mem _ he)]
def sortD (xs : List PyData) : List PyData := xs.mergeSort fun x y => !dataLt y x
theorem sortD_perm (xs : List PyData) : (sortD xs).Perm xs := List.mergeSort_perm _ _
theorem sortD_pw (xs : List PyData) : (sortD xs).Pairwise (fun x y => dataLt y x = false) := by
  have := List.pairwise_mergeSort (le := fun x y => !dataLt y x) (fun a b c h1 h2 => by
    simp only [Bool.not_eq_true'] at h1 h2 ⊢
    exact lt_tr _ _ _ h1 h2) (fun a b => by
    rcases SrtO.bcase (dataLt b a) with h | h
    · rw [lt_asym _ _ h]; simp
    · rw [h]; simp) xs
  exact this.imp fun h => by simpa using h
theorem sortD_eq {xs ys : List PyData} (p : ys.Perm xs) (h : ys.Pairwise (fun x y => dataLt y x = false)) (c : ∀ d ∈ xs, ∀ e ∈ xs, cmpOk d e = true) : ys = sortD xs :=
  perm_sorted (p.trans (sortD_perm xs).symm) h (sortD_pw xs) fun d hd e he => c d (p.mem_iff.mp hd) e (p.mem_iff.mp he)
open Classical in
noncomputable def opSorted (own : Bool) : Op
  | [w], μ => match w with
    | .d (.tuple _) => none
    | w => match seqV w μ with
      | some xs => if Srt xs then mkL own (sortD xs) μ else none
      | none => none
  | _, _ => none
section
variable {X : Cx}
theorem sorted_op (hu : X.A.units + 66 < cLine) {own : Bool} : CallO X (.builtin "sorted") (opSorted own) := by
  intro pins s σ H xs us0 Q I r h
  obtain ⟨m, μ, ws, rr, hh, g⟩ := h
  unfold opSorted at g
  split at g
  · rename_i w
    obtain ⟨v0, rfl⟩ : ∃ v, xs = [v] := by
      cases rr with
      | cons _ t => cases t; exact ⟨_, rfl⟩
    have r1 : RV X.K m H w v0 := by
      cases rr with
      | cons h t => exact h
    split at g
    · exact g.elim
    · rename_i hno
      split at g
      · rename_i ds e
        split at g
        · rename_i S
          obtain ⟨a, us, rfl, hq, hd⟩ := seq_list r1 hh e fun ys z => hno ys z
          obtain ⟨u, rfl, ru⟩ := vals1 r
          cases ru
          obtain ⟨its, rv, pl, hz⟩ := I.list hq
          have hlen := rv.length
          have hld := hd.len
          rw [hlen] at hz
          have key : ∀ v ∈ its, ∃ d ∈ ds, (∃ as, Reads s.heap v d as) ∧ Dv X.K (Live m) H (backV v) d ∧ ∃ t, v = .ref t := fun v hv => by
            obtain ⟨i, hi⟩ := List.getElem?_of_mem hv
            obtain ⟨u, h1, h2⟩ := vals_at rv hi
            obtain ⟨d, h3, h4⟩ := hd.get' h1
            have hm := List.mem_of_getElem? h3
            obtain ⟨t, rfl⟩ : ∃ t, u = .ref t := by
              obtain ⟨x, r, rfl⟩ := begins_is (S.beg d hm)
              cases h4
              exact ⟨_, rfl⟩
            cases h2
            exact ⟨d, hm, Dp.reads I _ _ _ (h4.dp (S.lay d hm).1) rfl, h4, t, rfl⟩
          obtain ⟨dec, hdec⟩ : ∃ dec : Value → PyData, ∀ v ∈ its, dec v ∈ ds ∧ (∃ as, Reads s.heap v (dec v) as) ∧ Dv X.K (Live m) H (backV v) (dec v) := by
            refine ⟨fun v => @Classical.epsilon PyData ⟨.none⟩ fun d => d ∈ ds ∧ (∃ as, Reads s.heap v d as) ∧ Dv X.K (Live m) H (backV v) d, fun v hv => ?_⟩
            obtain ⟨d, h1, h2, h3, _⟩ := key v hv
            exact @Classical.epsilon_spec PyData (fun d => d ∈ ds ∧ (∃ as, Reads s.heap v d as) ∧ Dv X.K (Live m) H (backV v) d) ⟨d, h1, h2, h3⟩
          have hsame : its.map dec = ds := by
            refine List.ext_getElem? fun i => ?_
            rw [List.getElem?_map]
            cases e : its[i]? with
            | none =>
              have h1 := List.getElem?_eq_none_iff.mp e
              exact (List.getElem?_eq_none_iff.mpr (by omega)).symm
            | some v =>
              obtain ⟨u, h1, h2⟩ := vals_at rv e
              obtain ⟨d, h3, h4⟩ := hd.get' h1
              obtain ⟨as, r1⟩ := Dp.reads I _ _ _ (h4.dp (S.lay d (List.mem_of_getElem? h3)).1) h2
              obtain ⟨h5, ⟨bs, r2⟩, _⟩ := hdec v (List.mem_of_getElem? e)
              rw [h3]
              exact congrArg some (reads_uniq _ _ _ _ _ (S.lay _ h5).1 r2 r1)
          have O : SrtO.Swo fun v u : Value => dataLt (dec v) (dec u) := ⟨fun x y h => lt_asym _ _ h, fun x y z h1 h2 => lt_tr _ _ _ h1 h2⟩
          refine SrtO.sorted_ord O pl.isList hz (fun h2 h₁ b hb kk => ?_) fun out hs hb => ?_
          · refine sortable_any (s := { s with heap := h₁ }) (h0 := s.heap) S h2 (fun v hv => ⟨(hdec v hv).1, (hdec v hv).2.1⟩) kk ?_
            show X.A.units + 1 + 1 + 60 < cLine
            omega
          · have hm : ∀ v ∈ out, v ∈ its := fun v hv => hb.perm.mem_iff.mp hv
            have h3 : ∀ v ∈ out, ∃ t, v = .ref t := fun v hv => let ⟨_, _, _, _, t⟩ := key v (hm v hv); t
            obtain ⟨e, hat⟩ := sortedAll_at s.heap its (List.toArray out)
            have hsort : out.map dec = sortD ds := sortD_eq (by rw [← hsame]; exact hb.perm.map dec) (List.pairwise_map.mpr hs) S.cmp
            have hdv : DvAll X.K (Live m) H (out.map backV) (sortD ds) := by
              rw [← hsort]
              exact dvAll_map fun v hv => (hdec v (hm v hv)).2.2
            refine ⟨.ref (s.heap.objs.size + 1), upd H (s.heap.objs.size + 1) (.lst (out.map backV)), I.laid (t' := s.toks) (fun b o e => sortedAll_old e) (Nat.le_succ _) ?_, rfl, (lst_new hh hdv g (I.hok.fresh (Nat.le_succ _))).2⟩
            exact ⟨by rw [List.length_map, hb.perm.length_eq]; exact hz, out, e, vals_back h3, hat⟩
        · exact g.elim
      · exact g.elim
  · exact g.elim
end
end Mok05
set_option autoImplicit false
namespace Mok05
variable [Wd]
open PySem PySem.Spec PyProof.Rows L2
def tyN : W → Mem → String
  | .d .none, _ => "NoneType"
  | .d (.bool _), _ => "bool"
  | .d (.int _), _ => "int"
  | .d (.str _), _ => "str"
  | .d (.list _), _ => "list"
  | .d (.tuple _), _ => "tuple"
  | .d (.dict _), _ => ""
  | .r n, μ => match μ[n]? with
    | some (.l _) => "list"
    | some (.k _) => "dict"
    | _ => ""
  | .s _, _ => ""
  | .e _ _ _ _, _ => ""
  | .o _, _ => ""
theorem tyN_ok {K : PySem.W.Frag} {m : Ms} {H : Hp} {μ : Mem} {w : W} {v : V} (r : RV K m H w v) (hh : RH K m H μ) (n : tyN w μ ≠ "") : TyX K H v (.type (tyN w μ)) := by
  cases w with
  | d x =>
    cases r with
    | non => exact .base .non
    | bl b => exact .base (.bl b)
    | int i => exact .base (.int i)
    | str x => exact .base (.str x)
    | lst hs _ => exact .base (.lst hs.1)
    | tup hs _ =>
      rcases hs with ⟨o, h, _⟩ | ⟨o, its, n, h1, h2, _⟩
      · exact .fTuple h
      · exact .kTuple h1 h2
    | dK _ _ _ => exact (n rfl).elim
  | r k =>
    cases e : μ[k]? with
    | none => simp [tyN, e] at n
    | some o =>
      cases o with
      | dead => simp [tyN, e] at n
      | o x fs => simp [tyN, e] at n
      | kl x => simp [tyN, e] at n
      | kt x => simp [tyN, e] at n
      | ll x => simp [tyN, e] at n
      | q x gs => simp [tyN, e] at n
      | emp => simp [tyN, e] at n
      | l xs =>
        obtain ⟨a, vs, h1, rfl, h2, h3⟩ := lst_at r hh e
        simp only [tyN, e]
        exact .base (.lst h2)
      | k kvs =>
        obtain ⟨l, a, h1, h2, rfl, a', h4, us, h5, h6⟩ := ref_at r hh e (by intro z; cases z)
        cases h4
        cases h2
        simp only [tyN, e]
        exact .base (.dK h5)
  | s ns => exact (n rfl).elim
  | e _ _ _ _ => exact (n rfl).elim
  | o _ => exact (n rfl).elim
def opIsi (T : String) : Op
  | [w], μ => if tyN w μ = "" then none else match kitB (tyN w μ) T with
    | some b => some (.d (.bool b), μ)
    | none => none
  | _, _ => none
section
variable {X : Cx} {ct : Ct} {Z : WX}
theorem mIsi {e : Expr} {x : Str} {T : String} {p p2 pos : Pos} {da : DE} (ha : ME X ct Z e da) (hm : X.mg "isinstance" = none) (hx : X.mg x = none) (hg : Gl X "isinstance" := by rfl) (hgx : Gl X x := by rfl) (hv : bootBuiltins x = some (.type T) := by decide +kernel)
    (hn : x ≠ "__name__" := by decide) (hdb : (x == ("__debug__" : Str)) = false := by decide) (he : starEach [e, .Name x p2] X.env = [(false, eval e X.env), (false, eval (.Name x p2) X.env)] := by rfl) (he2 : starEach [.Name x p2] X.env = [(false, eval (.Name x p2) X.env)] := by rfl)
    (hpl : (backTo pos (starEach [.Name x p2] X.env)).any (·.1) = false := by rfl) : ME X ct Z (.Call (.Name "isinstance" p) [e, .Name x p2] [] pos) (dP1 (opIsi T) da) := by
  have hN : PE X (.Name x p2) (tC (.ty T)) := pe_bltn hgx hx hv rfl hn hdb
  refine ⟨pe_imp (pe_callB call_isi hg hm (by decide +kernel) (pa_cons ha.pe (pa_cons hN pa_nil he2) he) (by decide) (by decide) he hpl) fun σ H Q h => ?_⟩
  obtain ⟨m, ρ, μ, hρ, hh, g⟩ := h
  refine ⟨m, ρ, μ, hρ, hh, (Gd.bnd g).mono fun w μ1 m1 H1 e1 h1 g1 v r1 => ?_⟩
  unfold opIsi at g1
  dsimp only at g1
  split at g1
  · exact g1.elim
  · rename_i hn
    split at g1
    · rename_i b hb
      exact ⟨v, .ty T, _, .type T, b, rfl, .ty _, tyN_ok r1 h1 hn, kit_ty hb, g1 m1 H1 (.refl _ _) h1 _ (.bl _)⟩
    · exact g1.elim
end
def boolsD : List PyData → Option (List Bool)
  | [] => some []
  | .bool b :: r => (boolsD r).map (b :: ·)
  | _ :: _ => none
@[simp] theorem boolsD_map : ∀ bs : List Bool, boolsD (bs.map .bool) = some bs
  | [] => rfl
  | b :: bs => by simp [boolsD, boolsD_map bs]
theorem bools_all {K : PySem.W.Frag} {L : Addr → Prop} {H : Hp} : ∀ {vs : List V} {xs : List PyData} {bs : List Bool}, DvAll K L H vs xs → boolsD xs = some bs → vs = bs.map V.bl
  | _, [], bs, h, e => by cases h; cases e; rfl
  | _, x :: xs, bs, h, e => by
    cases h with
    | cons a b =>
      cases x with
      | bool c =>
        simp only [boolsD, Option.map_eq_some_iff] at e
        obtain ⟨cs, h1, rfl⟩ := e
        cases a
        rw [bools_all b h1]
        rfl
      | _ => cases e
def opBools (f : List Bool → Bool) : Op
  | [w], μ => match w with
    | .d (.tuple _) => none
    | w => match listV w μ with
      | some xs => match boolsD xs with
        | some bs => pB (f bs) μ
        | none => none
      | none => none
  | _, _ => none
def opAll : Op := opBools fun bs => bs.all id
section
variable {X : Cx} {ct : Ct} {Z : WX}
theorem bools_op {id : String} {f : List Bool → Bool} (hc : CallR X (.builtin id) (fun vs H Q => ∃ (a : Addr) (bs : List Bool), vs = [V.ref a] ∧ SqL X.K H a (bs.map V.bl) ∧ Q (.bl (f bs)) H)) : CallO X (.builtin id) (opBools f) := by
  intro pins s σ H xs us Q I r h
  obtain ⟨m, μ, ws, rr, hh, g⟩ := h
  unfold opBools at g
  split at g
  · rename_i w
    cases rr with
    | cons r1 t =>
      cases t
      split at g
      · exact g.elim
      · split at g
        · rename_i ys e
          split at g
          · rename_i bs eb
            obtain ⟨a, vs, rfl, h1, h2⟩ := listV_ok r1 hh e
            have := bools_all h2 eb
            subst this
            exact hc pins s σ H _ us Q I r ⟨a, bs, rfl, .inl (.inl h1), g.now hh (.bl _)⟩
          · exact g.elim
        · exact g.elim
  · exact g.elim
theorem all_op (hc : X.calm = true) : CallO X (.builtin "all") opAll := bools_op (cr_all hc)
def opCmpS (f : Str → Str → Bool) : Op
  | [.d (.str x), .d (.str y)], μ => pB (f x y) μ
  | _, _ => none
theorem op2_cmpS {op : CmpOp} {f : Str → Str → Bool} (ho : OpR X (compareOp op) (fun x y H Q => ∃ i j, x = .str i ∧ y = .str j ∧ Q (.bl (f i j)) H)) : Op2R X (compareOp op) (opCmpS f) := by
  intro pins s σ H x y v u Q I rx ry h
  obtain ⟨m, μ, ws, r, hh, g⟩ := h
  obtain ⟨a, b, rfl, r1, r2⟩ := two r
  unfold opCmpS at g
  split at g
  · rename_i i j e
    simp only [List.cons.injEq, and_true] at e
    obtain ⟨rfl, rfl⟩ := e
    cases r1
    cases r2
    exact ho pins s σ H _ _ v u Q I rx ry ⟨_, _, rfl, rfl, g.now hh (.bl _)⟩
  · exact g.elim
def opLeT : Op := orO opLe (opCmpS fun i j => !decide (j.cps.toList < i.cps.toList))
theorem op2_leT : Op2R X (compareOp .LtE) opLeT := Op2R.or op2_le (op2_cmpS op_le_str)
def signs (x : Str) : List PyData := x.cps.toList.map fun c => .str ⟨#[c]⟩
@[simp] theorem signs_len (x : Str) : (signs x).length = x.length := by simp [signs, Str.length]
def iVs : W → Mem → Res Src
  | .d (.str x), μ => .ok (signs x, none) μ
  | _, _ => .bad
theorem srv_str {K : PySem.W.Frag} {x : Str} {m : Ms} {H : Hp} : Srv K (Its x) m H (signs x, none) where
  stop := fun m' H' μ e hh _ => by
    show x.cps.size ≤ (signs x).length
    rw [signs_len]
    exact Nat.le_refl _
  go := fun i m' H' μ hi e hh _ => by
    have h : i < (signs x).length := hi
    rw [signs_len] at h
    exact h
  yld := fun i m' H' μ y H2 e hh _ hi hy => by
    obtain ⟨rfl, c, hc, rfl⟩ := hy
    refine ⟨.str ⟨#[c]⟩, ?_, .str _, .refl _ _, hh⟩
    show (signs x)[i]? = _
    unfold signs
    rw [List.getElem?_map, Array.getElem?_toList, hc]
    rfl
theorem miVs {tg e : Expr} {d : DE} (h : ME X ct Z e d) : MI X ct Z tg e (dI iVs d) := by
  refine ⟨pi_imp (pi_str h.pe) fun σ H R q => ?_⟩
  obtain ⟨m, ρ, μ, he, hh, g⟩ := q
  refine ⟨m, ρ, μ, he, hh, (Gd.bnd g).mono fun w μ1 m1 H1 e1 h1 g1 v r1 => ?_⟩
  unfold iVs at g1
  split at g1
  · cases r1
    exact ⟨_, rfl, g1 m1 H1 (.refl _ _) h1 _ srv_str⟩
  · exact g1.elim
def strsD : List PyData → Option (List Str)
  | [] => some []
  | .str b :: r => (strsD r).map (b :: ·)
  | _ :: _ => none
@[simp] theorem strsD_map : ∀ bs : List Str, strsD (bs.map .str) = some bs
  | [] => rfl
  | b :: bs => by simp [strsD, strsD_map bs]
theorem strs_all {K : PySem.W.Frag} {L : Addr → Prop} {H : Hp} : ∀ {vs : List V} {xs : List PyData} {bs : List Str}, DvAll K L H vs xs → strsD xs = some bs → vs = bs.map V.str
  | _, [], bs, h, e => by cases h; cases e; rfl
  | _, x :: xs, bs, h, e => by
    cases h with
    | cons a b =>
      cases x with
      | str c =>
        simp only [strsD, Option.map_eq_some_iff] at e
        obtain ⟨cs, h1, rfl⟩ := e
        cases a
        rw [strs_all b h1]
        rfl
      | _ => cases e
def joinOk (a : Str) (ys : List Str) : Bool := decide ((ys.map (·.length)).sum + ys.length * a.length ≤ 16777216)
def opJoin : Op
  | [.d (.str a), w], μ => match viewL w μ with
    | some xs => match strsD xs with
      | some ys => if joinOk a ys = true then some (.d (.str (Txt.join a ys)), μ) else none
      | none => none
    | none => none
  | _, _ => none
theorem join_op : MtO X "str.join" opJoin := by
  intro pins s σ H x xs v us Q I rx rs h
  obtain ⟨m, μ, ws, r, hh, g⟩ := h
  unfold opJoin at g
  split at g
  · rename_i a w
    cases r with
    | cons r1 t =>
      cases t with
      | cons r2 t =>
        cases t
        cases r1
        split at g
        · rename_i ys e
          split at g
          · rename_i zs es
            split at g
            · rename_i hz
              obtain ⟨p, vs, rfl, h1, h2⟩ := view_ok r2 hh e
              have := strs_all h2 es
              subst this
              exact mt_join pins s σ H _ _ v us Q I rx rs ⟨a, p, zs, rfl, rfl, h1, of_decide_eq_true hz, g.now hh (.str _)⟩
            · exact g.elim
          · exact g.elim
        · exact g.elim
  · exact g.elim
end
end Mok05
set_option autoImplicit false
namespace Mok05
variable [Wd]
open PySem PySem.Spec PyProof.Rows L2
section
variable {prog : Program} {w : World} {A : Around} {E : Value → Shared → Prop} {s : Shared}
end
def opRev : Op
  | [.d (.tuple xs)], μ => mkT xs.reverse μ
  | _, _ => none
section
variable {X : Cx} {ct : Ct} {Z : WX}
end
section
variable {ρ : Env} {μ : Mem} {Pw : W → Mem → Prop} {N B C : Env → Mem → Prop} {R : W → Mem → Prop}
theorem okO_isi {T : String} {w : W} {b : Bool} (hn : tyN w μ ≠ "") (h : kitB (tyN w μ) T = some b) : OkO (opIsi T [w] μ) Pw = Pw (.d (.bool b)) μ := by
  simp [opIsi, hn, h]
theorem okO_all {xs : List PyData} {bs : List Bool} (h : boolsD xs = some bs) : OkO (opAll [.d (.list xs)] μ) Pw = Pw (.d (.bool (bs.all id))) μ := by
  simp [opAll, opBools, h, pB]
@[simp] theorem okO_leTi {i j : Int} : OkO (opLeT [.d (.int i), .d (.int j)] μ) Pw = Pw (.d (.bool (decide (i ≤ j)))) μ := rfl
@[simp] theorem okO_leTs {i j : Str} : OkO (opLeT [.d (.str i), .d (.str j)] μ) Pw = Pw (.d (.bool (!decide (j.cps.toList < i.cps.toList)))) μ := rfl
@[simp] theorem ok_iVs {x : Str} {Ps : Src → Mem → Prop} : Ok (iVs (.d (.str x)) μ) Ps = Ps (signs x, none) μ := rfl
theorem okO_join {a : Str} {w : W} {xs : List PyData} {ys : List Str} (h1 : viewL w μ = some xs) (h2 : strsD xs = some ys) (h3 : joinOk a ys = true) : OkO (opJoin [.d (.str a), w] μ) Pw = Pw (.d (.str (Txt.join a ys))) μ := by
  simp [opJoin, h1, h2, h3]
end
section
open PySem.W
theorem kb_str_n : kitB "NoneType" "str" = some false := by decide +kernel
theorem kb_str_b : kitB "bool" "str" = some false := by decide +kernel
theorem kb_str_i : kitB "int" "str" = some false := by decide +kernel
theorem kb_str_s : kitB "str" "str" = some true := by decide +kernel
theorem kb_str_l : kitB "list" "str" = some false := by decide +kernel
theorem kb_str_t : kitB "tuple" "str" = some false := by decide +kernel
theorem kb_tup_n : kitB "NoneType" "tuple" = some false := by decide +kernel
theorem kb_tup_b : kitB "bool" "tuple" = some false := by decide +kernel
theorem kb_tup_i : kitB "int" "tuple" = some false := by decide +kernel
theorem kb_tup_s : kitB "str" "tuple" = some false := by decide +kernel
theorem kb_tup_l : kitB "list" "tuple" = some false := by decide +kernel
theorem kb_tup_t : kitB "tuple" "tuple" = some true := by decide +kernel
end
def isS : PyData → Bool
  | .str _ => true
  | _ => false
def isT : PyData → Bool
  | .tuple _ => true
  | _ => false
theorem isi_str {d : PyData} {μ : Mem} {Pw : W → Mem → Prop} (h : d.canLay0 = true) : OkO (opIsi "str" [.d d] μ) Pw = Pw (.d (.bool (isS d))) μ := by
  cases d with
  | none => exact okO_isi (by simp [tyN]) kb_str_n
  | bool b => exact okO_isi (by simp [tyN]) kb_str_b
  | int b => exact okO_isi (by simp [tyN]) kb_str_i
  | str b => exact okO_isi (by simp [tyN]) kb_str_s
  | list b => exact okO_isi (by simp [tyN]) kb_str_l
  | tuple b => exact okO_isi (by simp [tyN]) kb_str_t
  | dict _ => simp [PyData.canLay0] at h
theorem isi_tup {d : PyData} {μ : Mem} {Pw : W → Mem → Prop} (h : d.canLay0 = true) : OkO (opIsi "tuple" [.d d] μ) Pw = Pw (.d (.bool (isT d))) μ := by
  cases d with
  | none => exact okO_isi (by simp [tyN]) kb_tup_n
  | bool b => exact okO_isi (by simp [tyN]) kb_tup_b
  | int b => exact okO_isi (by simp [tyN]) kb_tup_i
  | str b => exact okO_isi (by simp [tyN]) kb_tup_s
  | list b => exact okO_isi (by simp [tyN]) kb_tup_l
  | tuple b => exact okO_isi (by simp [tyN]) kb_tup_t
  | dict _ => simp [PyData.canLay0] at h
end Mok05
set_option autoImplicit false
namespace Mok05
variable [Wd]
open PySem PySem.Spec PyProof.Rows L2
def numb (i : Nat) : List PyData → List PyData
  | [] => []
  | x :: r => .tuple [.int (i : Nat), x] :: numb (i + 1) r
def iEn : List W → Mem → Res Src
  | [.d (.list xs)], μ => .ok (numb 0 xs, none) μ
  | _, _ => .bad
def iEnA : List W → Mem → Res Src
  | [.d (.list xs)], μ => .ok (numb 0 xs, none) μ
  | [.d (.tuple xs)], μ => .ok (numb 0 xs, none) μ
  | _, _ => .bad
section
variable {X : Cx} {ct : Ct} {Z : WX}
def opMax : Op
  | [.d (.int i), .d (.int j)], μ => pI (if j > i then j else i) μ
  | _, _ => none
def opMin : Op
  | [.d (.int i), .d (.int j)], μ => pI (if j < i then j else i) μ
  | _, _ => none
theorem max_op (hc : X.calm = true) : CallO X (.builtin "max") opMax := by
  intro pins s σ H xs us Q I r h
  obtain ⟨m, μ, ws, rr, hh, g⟩ := h
  unfold opMax at g
  split at g
  · cases rr with
    | cons r1 t =>
      cases t with
      | cons r2 t =>
        cases t
        cases r1
        cases r2
        exact call_max2 hc pins s σ H _ us Q I r ⟨_, _, rfl, g.now hh (.int _)⟩
  · exact g.elim
end
def MthAt (K : PySem.W.Frag) (x m qual : Str) (st : Stmt) (ps : List Str) : Prop := ∃ (C f : Addr) (fd : FuncData), PySem.W.nsIn K mainGlobals x = some (some (.ref C)) ∧ Cls K C ∧ Meth K C m f ∧ C8.Fun K m qual st f fd ∧ Binds K fd ps []
def IniAt (K : PySem.W.Frag) (mg : Str → Option Value) (x qual : Str) (st : Stmt) (ps : List Str) : Prop := ∃ (C f : Addr) (fd : FuncData), PySem.W.nsIn K mainGlobals x = some (some (.ref C)) ∧ mg x = some (.ref C) ∧ Mk K C f ∧ C8.Fun K "__init__" qual st f fd ∧ Binds K fd ps []
section
variable {P : Program} {w : World} {K : PySem.W.Frag} {mg : Str → Option Value} {base : Heap} {ct : Ct} {k : Nat} {x m qual : Str} {st : Stmt} {N ps : List Str} {body : DS}
theorem calM_of (np n : Nat) (D : MthAt K x m qual st ps) (S : FnScope N ps (C8.fnScope st)) (hnp : np = ps.length) (hn : n = N.length)
    (hb : ∀ (f : Addr) (cdv : Value) (A : Around) (outer : List PySem.Env) (s : Shared) (H : Hp) (E : XK), Room k (A.deeper (envOfC qual (C8.fnScope st) s.heap.objs.size f cdv)) → (A.deeper (envOfC qual (C8.fnScope st) s.heap.objs.size f cdv)).guards = some [] →
      MSs (cxOf (L2.CX P w) P w K mg base N qual (C8.fnScope st) f cdv A outer s H E) ct (fun c d _ H' => E c d H') (C8.fnBody st) body) : CalM P w K mg base ct (k + 1) x m (fnF np n body) := by
  subst hnp hn
  obtain ⟨C, f, fd, h1, h2, h3, h4, h5⟩ := D
  exact ⟨C, f, fd, ps, h1, h2, h3, fnG h4 S (hb f), h5⟩
theorem calI_of (np n : Nat) (D : IniAt K mg x qual st ps) (S : FnScope N ps (C8.fnScope st)) (hnp : np = ps.length) (hn : n = N.length)
    (hb : ∀ (f : Addr) (cdv : Value) (A : Around) (outer : List PySem.Env) (s : Shared) (H : Hp) (E : XK), Room k (A.deeper (envOfC qual (C8.fnScope st) s.heap.objs.size f cdv)) → (A.deeper (envOfC qual (C8.fnScope st) s.heap.objs.size f cdv)).guards = some [] →
      MSs (cxOf (L2.CX P w) P w K mg base N qual (C8.fnScope st) f cdv A outer s H E) ct (fun c d _ H' => E c d H') (C8.fnBody st) body) : CalI P w K mg base ct (k + 1) x (fnF np n body) := by
  subst hnp hn
  obtain ⟨C, f, fd, h1, h2, h3, h4, h5⟩ := D
  exact ⟨C, f, fd, ps, h1, h2, h3, fnG h4 S (hb f), h5⟩
theorem class_mk {h : Heap} {C : Addr} {names : List Str} (KX : K.In h) (G : h.Ns mainGlobals mg) (a : PySem.W.nsIn K mainGlobals x = some (some (.ref C))) (c : Cls K C) (n : ∀ f ∈ names, NoAttr K C f) : ClassAt K mg x names := ⟨C, a, PySem.W.mg_of KX G a, c, n⟩
theorem mth_mk {C f : Addr} {oc kV doc pm cdv ctv : Value} {od an : Option Addr} {osl : Array (Option Value)} (a : PySem.W.nsIn K mainGlobals x = some (some (.ref C))) (cl : Cls K C) (b : PySem.W.findIn K (.ref C) m = some (some (.ref f))) (i : PySem.W.isFn K (.ref f) = true)
    (l : K.lookup f = some ⟨oc, od, .func (PySem.W.fnOf m qual (C8.fnArgs st) (C8.fnBody st) (C8.fnScope st) .none kV doc pm an cdv ctv), osl⟩) (c : PySem.W.codeIn K cdv qual = true) (kp : PySem.W.keepIn K (.ref f) = true)
    (hb : ∀ (kV doc pm : Value) (an : Option Addr) (cdv ct : Value) (us : List Value), us.length = ps.length → bindArgs (PySem.W.fnOf m qual (C8.fnArgs st) (C8.fnBody st) (C8.fnScope st) .none kV doc pm an cdv ct) ⟨us, []⟩ = pure (ps.zip us)) : MthAt K x m qual st ps :=
  ⟨C, f, _, a, cl, ⟨b, i, kp⟩, ⟨oc, od, .none, kV, doc, pm, an, cdv, ctv, osl, rfl, l, c⟩, .all (hb kV doc pm an cdv ctv)⟩
theorem ini_mk {h : Heap} {C f : Addr} {oc kV doc pm cdv ctv : Value} {od an : Option Addr} {osl : Array (Option Value)} (KX : K.In h) (G : h.Ns mainGlobals mg) (a : PySem.W.nsIn K mainGlobals x = some (some (.ref C))) (mk : PySem.W.makesIn K C = true) (b : PySem.W.findIn K (.ref C) "__init__" = some (some (.ref f))) (i : PySem.W.isFn K (.ref f) = true)
    (l : K.lookup f = some ⟨oc, od, .func (PySem.W.fnOf "__init__" qual (C8.fnArgs st) (C8.fnBody st) (C8.fnScope st) .none kV doc pm an cdv ctv), osl⟩) (c : PySem.W.codeIn K cdv qual = true) (kp : PySem.W.keepIn K (.ref C) = true)
    (hb : ∀ (kV doc pm : Value) (an : Option Addr) (cdv ct : Value) (us : List Value), us.length = ps.length → bindArgs (PySem.W.fnOf "__init__" qual (C8.fnArgs st) (C8.fnBody st) (C8.fnScope st) .none kV doc pm an cdv ct) ⟨us, []⟩ = pure (ps.zip us)) : IniAt K mg x qual st ps :=
  ⟨C, f, _, a, PySem.W.mg_of KX G a, ⟨mk, b, i, kp⟩, ⟨oc, od, .none, kV, doc, pm, an, cdv, ctv, osl, rfl, l, c⟩, .all (hb kV doc pm an cdv ctv)⟩
end
end Mok05
set_option autoImplicit false
namespace Mok05
variable [Wd]
open PySem PySem.Spec PyProof.Rows L2
theorem oks_whl {c : DT} {b : DS} {n : Nat} {ρ : Env} {μ : Mem} {N B C : Env → Mem → Prop} {R : W → Mem → Prop} : Oks (whl c b (n + 1) ρ μ) N R B C = Ok (c ρ μ) fun t μ1 => if t = true then Oks (b ρ μ1) (fun ρ2 μ2 => Oks (whl c b n ρ2 μ2) N R B C) R N (fun ρ2 μ2 => Oks (whl c b n ρ2 μ2) N R B C) else N ρ μ1 := by
  rw [whl]
  cases c ρ μ with
  | ok t μ1 =>
    cases t with
    | true =>
      simp only [ok_ok, if_true]
      cases b ρ μ1 <;> rfl
    | false => rfl
  | exc _ _ => rfl
  | bad => rfl
theorem Oks.mono {r : SR} {N N' B B' C C' : Env → Mem → Prop} {R R' : W → Mem → Prop} (h : Oks r N R B C) (n : ∀ ρ μ, N ρ μ → N' ρ μ) (q : ∀ w μ, R w μ → R' w μ) (b : ∀ ρ μ, B ρ μ → B' ρ μ) (c : ∀ ρ μ, C ρ μ → C' ρ μ) : Oks r N' R' B' C' := by
  cases r with
  | nx ρ μ => exact n _ _ h
  | rt w μ => exact q _ _ h
  | bk ρ μ => exact b _ _ h
  | ct ρ μ => exact c _ _ h
  | exc _ _ _ => exact h
  | bad => exact h
theorem whl_inv {c : DT} {b : DS} {N B C : Env → Mem → Prop} {R : W → Mem → Prop} (I : Nat → Env → Mem → Prop)
    (hstep : ∀ k ρ μ, I k ρ μ → Ok (c ρ μ) fun t μ1 => if t = true then 0 < k ∧ Oks (b ρ μ1) (fun ρ2 μ2 => ∃ j, j < k ∧ I j ρ2 μ2) R N (fun ρ2 μ2 => ∃ j, j < k ∧ I j ρ2 μ2) else N ρ μ1) : ∀ (n k : Nat) (ρ : Env) (μ : Mem), k < n → I k ρ μ → Oks (whl c b n ρ μ) N R B C
  | 0, k, ρ, μ, h, _ => by omega
  | n + 1, k, ρ, μ, h, hI => by
    rw [oks_whl]
    refine (hstep k ρ μ hI).mono fun t μ1 ht => ?_
    split
    · rename_i e
      rw [if_pos e] at ht
      exact ht.2.mono (fun ρ2 μ2 ⟨j, h1, h2⟩ => whl_inv I hstep n j ρ2 μ2 (by omega) h2) (fun _ _ h => h) (fun _ _ h => h) (fun ρ2 μ2 ⟨j, h1, h2⟩ => whl_inv I hstep n j ρ2 μ2 (by omega) h2)
    · rename_i e
      rw [if_neg e] at ht
      exact ht
section
variable {ρ : Env} {μ : Mem} {N B C : Env → Mem → Prop} {R : W → Mem → Prop}
theorem for_invG {xs : List PyData} {s : Src} {g : PyData → Env → Option Env} {b : DS} (I : List PyData → Env → Mem → Prop) (hs : s.1 = xs) (hl : ∀ done ρ μ, (∃ r, done ++ r = xs) → I done ρ μ → live s μ) (h0 : I [] ρ μ)
    (hstep : ∀ done x r ρ μ, done ++ x :: r = xs → I done ρ μ → ∃ ρ1, g x ρ = some ρ1 ∧ Oks (b ρ1 μ) (fun ρ μ => I (done ++ [x]) ρ μ) R N (fun ρ μ => I (done ++ [x]) ρ μ)) (hend : ∀ ρ μ, I xs ρ μ → N ρ μ) :
    Oks (forL s g b s.1 ρ μ) N R B C := by
  rw [hs]
  suffices main : ∀ (r done : List PyData) (ρ : Env) (μ : Mem), done ++ r = xs → I done ρ μ → Oks (forL s g b r ρ μ) N R B C from main xs [] ρ μ rfl h0
  intro r
  induction r with
  | nil =>
    intro done ρ μ e hI
    rw [forL, if_pos (hl _ _ _ ⟨[], e⟩ hI)]
    rw [List.append_nil] at e
    subst e
    exact hend _ _ hI
  | cons x r ih =>
    intro done ρ μ e hI
    rw [forL, if_pos (hl _ _ _ ⟨_, e⟩ hI)]
    obtain ⟨ρ1, e1, hs⟩ := hstep done x r ρ μ e hI
    rw [e1]
    dsimp only
    cases q : b ρ1 μ with
    | nx ρ2 μ2 => rw [q] at hs; exact ih _ _ _ (by rw [List.append_assoc]; exact e) hs
    | ct ρ2 μ2 => rw [q] at hs; exact ih _ _ _ (by rw [List.append_assoc]; exact e) hs
    | bk ρ2 μ2 => rw [q] at hs; exact hs
    | rt w μ2 => rw [q] at hs; exact hs
    | exc _ _ _ => rw [q] at hs; exact hs
    | bad => rw [q] at hs; exact hs
theorem lc_invG {s : Src} {xs acc : List PyData} {g : PyData → Env → Option Env} {f : Env → List PyData → Mem → Res (List PyData)} {Pa : List PyData → Mem → Prop} (I : List PyData → List PyData → Mem → Prop) (hs : s.1 = xs) (hl : ∀ done acc μ, (∃ r, done ++ r = xs) → I done acc μ → live s μ) (h0 : I [] acc μ)
    (hstep : ∀ done x r acc μ, done ++ x :: r = xs → I done acc μ → ∃ ρ1, g x ρ = some ρ1 ∧ Ok (f ρ1 acc μ) fun acc1 μ1 => I (done ++ [x]) acc1 μ1) (hend : ∀ acc μ, I xs acc μ → Pa acc μ) : Ok (lcL s g f ρ s.1 acc μ) Pa := by
  rw [hs]
  suffices main : ∀ (r done acc : List PyData) (μ : Mem), done ++ r = xs → I done acc μ → Ok (lcL s g f ρ r acc μ) Pa from main xs [] acc μ rfl h0
  intro r
  induction r with
  | nil =>
    intro done acc μ e hI
    rw [lcL, if_pos (hl _ _ _ ⟨[], e⟩ hI)]
    rw [List.append_nil] at e
    subst e
    exact hend _ _ hI
  | cons x r ih =>
    intro done acc μ e hI
    rw [lcL, if_pos (hl _ _ _ ⟨_, e⟩ hI)]
    obtain ⟨ρ1, e1, hs⟩ := hstep done x r acc μ e hI
    rw [e1]
    dsimp only
    obtain ⟨a, μ1, q, h⟩ := hs.ex
    rw [q, bnd_ok]
    exact ih _ _ _ (by rw [List.append_assoc]; exact e) h
theorem lc_pure {s : Src} {xs : List PyData} {g : PyData → Env → Option Env} {tt : DT} {te : DE} {Pa : List PyData → Mem → Prop} (p : PyData → Bool) (f : PyData → PyData) (hs : s.1 = xs) (hl : live s μ) (hz : xs.length ≤ sizeLine)
    (hstep : ∀ x ∈ xs, ∃ ρ1, g x ρ = some ρ1 ∧ Ok (tt ρ1 μ) fun b μ' => b = p x ∧ μ' = μ ∧ (b = true → Ok (te ρ1 μ) fun w μ' => w = .d (f x) ∧ μ' = μ)) (hend : Pa ((xs.filter p).map f) μ) : Ok (lcL s g (lcOne tt te) ρ s.1 [] μ) Pa := by
  refine lc_invG (xs := xs) (fun done acc μ' => acc = (done.filter p).map f ∧ μ' = μ) hs (fun _ _ _ _ h => h.2 ▸ hl) ⟨rfl, rfl⟩ (fun done x r acc μ' e h => ?_) fun acc μ' h => by rw [h.1, h.2]; exact hend
  obtain ⟨rfl, rfl⟩ := h
  obtain ⟨ρ1, e1, h1⟩ := hstep x (by rw [← e]; simp)
  refine ⟨ρ1, e1, ?_⟩
  rw [ok_lcOne]
  refine h1.mono fun b μ' ⟨h2, h3, h4⟩ => ?_
  subst h2 h3
  split
  · rename_i hp
    refine (h4 hp).mono fun w μ' h5 => ?_
    obtain ⟨rfl, rfl⟩ := h5
    have hd : done.length < xs.length := by rw [← e]; simp
    have hf := List.length_filter_le p done
    refine ⟨by rw [List.length_map]; omega, ?_, rfl⟩
    rw [List.filter_append, List.map_append]
    simp [hp]
  · rename_i hp
    refine ⟨?_, rfl⟩
    rw [List.filter_append, List.map_append]
    simp [hp]
@[simp] theorem gT2 {i j : Nat} {x y : PyData} : gT 2 (gCons' (gN i) (gCons' (gN j) gNil')) (.tuple [x, y]) ρ = some ((ρ.set i (some (.d x))).set j (some (.d y))) := rfl
@[simp] theorem gT3 {i j k : Nat} {x y z : PyData} : gT 3 (gCons' (gN i) (gCons' (gN j) (gCons' (gN k) gNil'))) (.tuple [x, y, z]) ρ = some (((ρ.set i (some (.d x))).set j (some (.d y))).set k (some (.d z))) := rfl
end
theorem snoc_of {α : Type} {l : List α} (h : l ≠ []) : ∃ r x, l = r ++ [x] := ⟨l.dropLast, l.getLast h, (List.dropLast_concat_getLast h).symm⟩
theorem le_million {n : Nat} (h : n ≤ 1000000) : n ≤ sizeLine := Nat.le_trans h (by decide)
section
variable {μ : Mem} {Pw : W → Mem → Prop}
theorem okO_pop {r : List PyData} {x : PyData} {n : Nat} (h : μ[n]? = some (.l (r ++ [x]))) : OkO (opPop [.r n] μ) Pw = Pw (.d x) (μ.set n (.l r)) := by
  simp [opPop, h]
theorem okO_ext {n : Nat} {xs ys : List PyData} (h : μ[n]? = some (.l xs)) (hz : xs.length + ys.length ≤ sizeLine) : OkO (opExtend [.r n, .d (.tuple ys)] μ) Pw = Pw (.d .none) (μ.set n (.l (xs ++ ys))) := by
  simp [opExtend, h, sz, hz]
theorem okO_extl {n : Nat} {xs ys : List PyData} (h : μ[n]? = some (.l xs)) (hz : xs.length + ys.length ≤ sizeLine) : OkO (opExtend [.r n, .d (.list ys)] μ) Pw = Pw (.d .none) (μ.set n (.l (xs ++ ys))) := by
  simp [opExtend, h, sz, hz]
theorem okO_isNone {d : PyData} : OkO (opIs false [.d d, .d .none] μ) Pw = Pw (.d (.bool (match d with
    | .none => true
    | _ => false))) μ := by
  cases d <;> simp [opIs, there, isN, pB]
@[simp] theorem okO_sll {lo hi : Option Int} {xs : List PyData} : OkO (slW false lo hi (.d (.list xs)) μ) Pw = ((cutD xs lo hi).length ≤ sizeLine ∧ Pw (.d (.list (cutD xs lo hi))) μ) := by
  simp only [slW, listV_l, mkL, sz, decide_eq_true_eq]
  split <;> simp [*]
@[simp] theorem okO_or {i j : Int} : OkO (opOr [.d (.int i), .d (.int j)] μ) Pw = Pw (.d (.int (Builtin.bitOr i j))) μ := rfl
@[simp] theorem okO_and {i j : Int} : OkO (opAnd [.d (.int i), .d (.int j)] μ) Pw = Pw (.d (.int (Builtin.bitAnd i j))) μ := rfl
@[simp] theorem okO_xor {i j : Int} : OkO (opXor [.d (.int i), .d (.int j)] μ) Pw = Pw (.d (.int (Builtin.bitXor i j))) μ := rfl
@[simp] theorem okO_neg {i : Int} : OkO (opNeg [.d (.int i)] μ) Pw = Pw (.d (.int (-i))) μ := rfl
@[simp] theorem ok_iEn {xs : List PyData} {Ps : Src → Mem → Prop} : Ok (iEn [.d (.list xs)] μ) Ps = Ps (numb 0 xs, none) μ := rfl
@[simp] theorem ok_iEnAl {xs : List PyData} {Ps : Src → Mem → Prop} : Ok (iEnA [.d (.list xs)] μ) Ps = Ps (numb 0 xs, none) μ := rfl
@[simp] theorem ok_iEnAt {xs : List PyData} {Ps : Src → Mem → Prop} : Ok (iEnA [.d (.tuple xs)] μ) Ps = Ps (numb 0 xs, none) μ := rfl
@[simp] theorem okO_max {i j : Int} : OkO (opMax [.d (.int i), .d (.int j)] μ) Pw = Pw (.d (.int (if j > i then j else i))) μ := rfl
@[simp] theorem okO_min {i j : Int} : OkO (opMin [.d (.int i), .d (.int j)] μ) Pw = Pw (.d (.int (if j < i then j else i))) μ := rfl
@[simp] theorem okO_lst {xs : List PyData} : OkO (opLs false [.d (.tuple xs)] μ) Pw = (xs.length ≤ sizeLine ∧ Pw (.d (.list xs)) μ) := by
  simp only [opLs, opList, seqV_t, mkL, sz, decide_eq_true_eq]
  split <;> simp [*]
end
theorem ds_app (l m : List Sg) : Sg.ds (l ++ m) = Sg.ds l ++ Sg.ds m := by simp [ds_map]
theorem pure_ex {F : Fn} {ws : List W} {xs : List PyData} {P : PyData → Prop} (hd : datas ws = some xs) (h : Ok (F ws []) fun w _ => ∃ y, w = .d y ∧ P y) : ∃ y, P y ∧ ∀ μ, callF F ws μ = .ok (.d y) μ := by
  obtain ⟨w, μ', e, y, rfl, hp⟩ := h.ex
  refine ⟨y, hp, fun μ => ?_⟩
  unfold callF
  rw [hd, e]
theorem atI_nat {xs : List PyData} {i : Nat} {x : PyData} (h : xs[i]? = some x) : atI xs (i : Int) = some x := by
  have hl := (List.getElem?_eq_some_iff.mp h).1
  unfold atI ixN
  rw [if_pos (by omega), if_pos (by omega)]
  simpa using h
end Mok05
set_option autoImplicit false
namespace Mok05
variable [Wd]
open PySem PySem.Spec PyProof.Rows L2
open PySem.W (dataLt)
theorem same_str {x y : Str} : same (.str x) (.str y) = decide (x = y) := by
  simp [same]
  rfl
mutual
theorem cmp_sg : ∀ s t : Sg, cmpOk s.d t.d = true
  | .lt x, t => by
    cases t with
    | lt y => simp (config := { decide := true }) [Sg.d, cmpOk, cmpOks, same_str, wMany, wMod, cmpOk]
    | no u => simp (config := { decide := true }) [Sg.d, cmpOk, cmpOks, same_str, wMany, wMod, cmpOk]
    | many w' m => cases w' <;> simp (config := { decide := true }) [Sg.d, cmpOk, cmpOks, same_str, wMany, wMod, cmpOk]
    | so u v => simp (config := { decide := true }) [Sg.d, cmpOk, cmpOks, same_str, wMany, wMod, cmpOk]
    | tl u v => simp (config := { decide := true }) [Sg.d, cmpOk, cmpOks, same_str, wMany, wMod, cmpOk]
    | mod w' y u => cases w' <;> simp (config := { decide := true }) [Sg.d, cmpOk, cmpOks, same_str, wMany, wMod, cmpOk]
  | .no s, t => by
    have h := cmp_sg s
    cases t with
    | lt y => simp (config := { decide := true }) [Sg.d, cmpOk, cmpOks, same_str, wMany, wMod, h]
    | no u => simp (config := { decide := true }) [Sg.d, cmpOk, cmpOks, same_str, wMany, wMod, h]
    | many w' m => cases w' <;> simp (config := { decide := true }) [Sg.d, cmpOk, cmpOks, same_str, wMany, wMod, h]
    | so u v => simp (config := { decide := true }) [Sg.d, cmpOk, cmpOks, same_str, wMany, wMod, h]
    | tl u v => simp (config := { decide := true }) [Sg.d, cmpOk, cmpOks, same_str, wMany, wMod, h]
    | mod w' y u => cases w' <;> simp (config := { decide := true }) [Sg.d, cmpOk, cmpOks, same_str, wMany, wMod, h]
  | .many true l, t => by
    have h := cmp_sgs l
    cases t with
    | lt y => simp (config := { decide := true }) [Sg.d, cmpOk, cmpOks, same_str, wMany, wMod, h]
    | no u => simp (config := { decide := true }) [Sg.d, cmpOk, cmpOks, same_str, wMany, wMod, h]
    | many w' m => cases w' <;> simp (config := { decide := true }) [Sg.d, cmpOk, cmpOks, same_str, wMany, wMod, h]
    | so u v => simp (config := { decide := true }) [Sg.d, cmpOk, cmpOks, same_str, wMany, wMod, h]
    | tl u v => simp (config := { decide := true }) [Sg.d, cmpOk, cmpOks, same_str, wMany, wMod, h]
    | mod w' y u => cases w' <;> simp (config := { decide := true }) [Sg.d, cmpOk, cmpOks, same_str, wMany, wMod, h]
  | .many false l, t => by
    have h := cmp_sgs l
    cases t with
    | lt y => simp (config := { decide := true }) [Sg.d, cmpOk, cmpOks, same_str, wMany, wMod, h]
    | no u => simp (config := { decide := true }) [Sg.d, cmpOk, cmpOks, same_str, wMany, wMod, h]
    | many w' m => cases w' <;> simp (config := { decide := true }) [Sg.d, cmpOk, cmpOks, same_str, wMany, wMod, h]
    | so u v => simp (config := { decide := true }) [Sg.d, cmpOk, cmpOks, same_str, wMany, wMod, h]
    | tl u v => simp (config := { decide := true }) [Sg.d, cmpOk, cmpOks, same_str, wMany, wMod, h]
    | mod w' y u => cases w' <;> simp (config := { decide := true }) [Sg.d, cmpOk, cmpOks, same_str, wMany, wMod, h]
  | .so a b, t => by
    have h1 := cmp_sg a
    have h2 := cmp_sg b
    cases t with
    | lt y => simp (config := { decide := true }) [Sg.d, cmpOk, cmpOks, same_str, wMany, wMod, h1, h2]
    | no u => simp (config := { decide := true }) [Sg.d, cmpOk, cmpOks, same_str, wMany, wMod, h1, h2]
    | many w' m => cases w' <;> simp (config := { decide := true }) [Sg.d, cmpOk, cmpOks, same_str, wMany, wMod, h1, h2]
    | so u v => simp (config := { decide := true }) [Sg.d, cmpOk, cmpOks, same_str, wMany, wMod, h1, h2]
    | tl u v => simp (config := { decide := true }) [Sg.d, cmpOk, cmpOks, same_str, wMany, wMod, h1, h2]
    | mod w' y u => cases w' <;> simp (config := { decide := true }) [Sg.d, cmpOk, cmpOks, same_str, wMany, wMod, h1, h2]
  | .tl a b, t => by
    have h1 := cmp_sg a
    have h2 := cmp_sg b
    cases t with
    | lt y => simp (config := { decide := true }) [Sg.d, cmpOk, cmpOks, same_str, wMany, wMod, h1, h2]
    | no u => simp (config := { decide := true }) [Sg.d, cmpOk, cmpOks, same_str, wMany, wMod, h1, h2]
    | many w' m => cases w' <;> simp (config := { decide := true }) [Sg.d, cmpOk, cmpOks, same_str, wMany, wMod, h1, h2]
    | so u v => simp (config := { decide := true }) [Sg.d, cmpOk, cmpOks, same_str, wMany, wMod, h1, h2]
    | tl u v => simp (config := { decide := true }) [Sg.d, cmpOk, cmpOks, same_str, wMany, wMod, h1, h2]
    | mod w' y u => cases w' <;> simp (config := { decide := true }) [Sg.d, cmpOk, cmpOks, same_str, wMany, wMod, h1, h2]
  | .mod true x s, t => by
    have h := cmp_sg s
    cases t with
    | lt y => simp (config := { decide := true }) [Sg.d, cmpOk, cmpOks, same_str, wMany, wMod, h]
    | no u => simp (config := { decide := true }) [Sg.d, cmpOk, cmpOks, same_str, wMany, wMod, h]
    | many w' m => cases w' <;> simp (config := { decide := true }) [Sg.d, cmpOk, cmpOks, same_str, wMany, wMod, h]
    | so u v => simp (config := { decide := true }) [Sg.d, cmpOk, cmpOks, same_str, wMany, wMod, h]
    | tl u v => simp (config := { decide := true }) [Sg.d, cmpOk, cmpOks, same_str, wMany, wMod, h]
    | mod w' y u => cases w' <;> simp (config := { decide := true }) [Sg.d, cmpOk, cmpOks, same_str, wMany, wMod, h]
  | .mod false x s, t => by
    have h := cmp_sg s
    cases t with
    | lt y => simp (config := { decide := true }) [Sg.d, cmpOk, cmpOks, same_str, wMany, wMod, h]
    | no u => simp (config := { decide := true }) [Sg.d, cmpOk, cmpOks, same_str, wMany, wMod, h]
    | many w' m => cases w' <;> simp (config := { decide := true }) [Sg.d, cmpOk, cmpOks, same_str, wMany, wMod, h]
    | so u v => simp (config := { decide := true }) [Sg.d, cmpOk, cmpOks, same_str, wMany, wMod, h]
    | tl u v => simp (config := { decide := true }) [Sg.d, cmpOk, cmpOks, same_str, wMany, wMod, h]
    | mod w' y u => cases w' <;> simp (config := { decide := true }) [Sg.d, cmpOk, cmpOks, same_str, wMany, wMod, h]
theorem cmp_sgs : ∀ l m : List Sg, cmpOks (Sg.ds l) (Sg.ds m) = true
  | [], m => by cases m <;> rfl
  | s :: l, m => by
    cases m with
    | nil => rfl
    | cons t m =>
      have h1 := cmp_sg s t
      have h2 := cmp_sgs l m
      simp [Sg.ds, cmpOks, h1, h2]
end
end Mok05
set_option autoImplicit false
namespace Mok05
variable [Wd]
open PySem PySem.Spec PyProof.Rows L2
open PySem.W (dataLt)
theorem eqv_cmp {x y : PyData} (h : cmpOk x y = true) (l : x.canLay0 = true) : PyData.eqv x y = true ↔ x = y := by
  constructor
  · intro e
    cases q : same x y with
    | true => exact same_eq _ _ q
    | false => rw [cmp_eqv x y h q] at e; cases e
  · rintro rfl
    exact (same_refl x l).2
theorem strict_eq : ∀ {l m : List PyData}, l.Pairwise (fun x y => dataLt x y = true) → m.Pairwise (fun x y => dataLt x y = true) → (∀ x, x ∈ l ↔ x ∈ m) → l = m
  | [], [], _, _, _ => rfl
  | [], y :: m, _, _, h => by have := (h y).mpr (by simp); simp at this
  | x :: l, [], _, _, h => by have := (h x).mp (by simp); simp at this
  | x :: l, y :: m, hl, hm, h => by
    obtain ⟨h1, h2⟩ := List.pairwise_cons.mp hl
    obtain ⟨k1, k2⟩ := List.pairwise_cons.mp hm
    have irr : ∀ z, dataLt z z = false := fun z => by
      cases q : dataLt z z with
      | false => rfl
      | true => have := lt_asym z z q; rw [q] at this; cases this
    have e : x = y := by
      rcases List.mem_cons.mp ((h x).mp (by simp)) with e | hx
      · exact e
      · rcases List.mem_cons.mp ((h y).mpr (by simp)) with e | hy
        · exact e.symm
        · have := lt_asym _ _ (k1 x hx)
          rw [h1 y hy] at this
          cases this
    subst e
    rw [strict_eq h2 k2 fun z => ?_]
    constructor
    · intro hz
      rcases List.mem_cons.mp ((h z).mp (List.mem_cons_of_mem _ hz)) with rfl | hz'
      · have := h1 z hz; rw [irr] at this; cases this
      · exact hz'
    · intro hz
      rcases List.mem_cons.mp ((h z).mpr (List.mem_cons_of_mem _ hz)) with rfl | hz'
      · have := k1 z hz; rw [irr] at this; cases this
      · exact hz'
def stepD (told : List PyData) (x : PyData) : List PyData := match told.getLast? with
  | none => told ++ [x]
  | some y => if PyData.eqv y x = true then told else told ++ [x]
def nubD (xs : List PyData) : List PyData := xs.foldl stepD []
theorem nub_snoc (xs : List PyData) (x : PyData) : nubD (xs ++ [x]) = stepD (nubD xs) x := by
  unfold nubD
  rw [List.foldl_append]
  rfl
theorem nub_len (xs : List PyData) : (nubD xs).length ≤ xs.length := by
  suffices main : ∀ (xs told : List PyData), (xs.foldl stepD told).length ≤ told.length + xs.length by
    have := main xs []
    simpa [nubD] using this
  intro xs
  induction xs with
  | nil => intro told; simp
  | cons x xs ih =>
    intro told
    have := ih (stepD told x)
    rw [List.foldl_cons, List.length_cons]
    have e : (stepD told x).length ≤ told.length + 1 := by
      unfold stepD
      split
      · simp
      · split <;> simp
    omega
theorem nub_all {S : List PyData} (hs : S.Pairwise (fun x y => dataLt y x = false)) (hc : ∀ x ∈ S, ∀ y ∈ S, cmpOk x y = true) (hl : ∀ x ∈ S, x.canLay0 = true) :
    (nubD S).Pairwise (fun x y => dataLt x y = true) ∧ (∀ x, x ∈ nubD S ↔ x ∈ S) ∧ (nubD S).getLast? = S.getLast? := by
  suffices main : ∀ (r done : List PyData), done ++ r = S → ((nubD done).Pairwise (fun x y => dataLt x y = true) ∧ (∀ x, x ∈ nubD done ↔ x ∈ done) ∧ (nubD done).getLast? = done.getLast?) → (nubD S).Pairwise (fun x y => dataLt x y = true) ∧ (∀ x, x ∈ nubD S ↔ x ∈ S) ∧ (nubD S).getLast? = S.getLast? from
    main S [] rfl ⟨by simp [nubD], by simp [nubD], rfl⟩
  intro r
  induction r with
  | nil =>
    intro done e h
    rw [List.append_nil] at e
    rw [← e]
    exact h
  | cons x r ih =>
    rintro done e ⟨h1, h2, h3⟩
    refine ih (done ++ [x]) (by rw [List.append_assoc]; exact e) ?_
    have mx : x ∈ S := by rw [← e]; simp
    have md : ∀ z ∈ done, z ∈ S := fun z hz => by rw [← e]; exact List.mem_append_left _ hz
    have bef : ∀ z ∈ done, dataLt x z = false := fun z hz => by
      rw [← e, List.pairwise_append] at hs
      exact hs.2.2 z hz x (by simp)
    rw [nub_snoc]
    unfold stepD
    rw [h3]
    cases q : done.getLast? with
    | none =>
      have hd : done = [] := by simpa using q
      subst hd
      simp [nubD]
    | some y =>
      have my : y ∈ done := List.mem_of_getLast? q
      dsimp only
      split
      · rename_i he
        have := (eqv_cmp (hc y (md y my) x mx) (hl y (md y my))).mp he
        subst this
        refine ⟨h1, fun z => ?_, by rw [h3, q]; simp⟩
        rw [h2, List.mem_append]
        exact ⟨.inl, fun h => h.elim id fun h => by rw [List.mem_singleton.mp h]; exact my⟩
      · rename_i he
        refine ⟨List.pairwise_append.mpr ⟨h1, by simp, fun z hz w hw => ?_⟩, fun z => ?_, by simp⟩
        · rw [List.mem_singleton.mp hw]
          have hz' := (h2 z).mp hz
          cases t : dataLt z x with
          | true => rfl
          | false =>
            have sm := lt_total (hc z (md z hz') x mx) t (bef z hz')
            have := same_eq _ _ sm
            subst this
            have hyz : dataLt z y = false := bef y my
            have : ∃ p, nubD done = p ++ [y] := by
              have hl' : (nubD done).getLast? = some y := by rw [h3, q]
              have hne : nubD done ≠ [] := by intro z; rw [z] at hl'; cases hl'
              refine ⟨(nubD done).dropLast, ?_⟩
              rw [List.getLast?_eq_getLast hne] at hl'
              rw [← Option.some.inj hl']
              exact (List.dropLast_concat_getLast hne).symm
            obtain ⟨p, ep⟩ := this
            rw [ep] at hz h1
            rcases List.mem_append.mp hz with hz | hz
            · have := (List.pairwise_append.mp h1).2.2 z hz y (by simp)
              rw [hyz] at this
              cases this
            · rw [List.mem_singleton.mp hz] at he
              exact (he ((eqv_cmp (hc y (md y my) y (md y my)) (hl y (md y my))).mpr rfl)).elim
        · rw [List.mem_append, List.mem_append, h2]
def riseD (xs : List PyData) : List PyData := nubD (sortD xs)
structure Ord (xs : List PyData) : Prop where
  cmp : ∀ x ∈ xs, ∀ y ∈ xs, cmpOk x y = true
  lay : ∀ x ∈ xs, x.canLay0 = true ∧ x.depth ≤ 60
  beg : ∀ x ∈ xs, begins x = true
theorem Ord.sub {xs ys : List PyData} (h : Ord xs) (s : ∀ y ∈ ys, y ∈ xs) : Ord ys := ⟨fun x hx y hy => h.cmp x (s x hx) y (s y hy), fun x hx => h.lay x (s x hx), fun x hx => h.beg x (s x hx)⟩
theorem Ord.srt {xs : List PyData} (h : Ord xs) : Srt xs := ⟨h.beg, h.cmp, h.lay⟩
theorem sort_mem {xs : List PyData} {x : PyData} : x ∈ sortD xs ↔ x ∈ xs := (sortD_perm xs).mem_iff
theorem rise_spec {xs : List PyData} (h : Ord xs) : (riseD xs).Pairwise (fun x y => dataLt x y = true) ∧ ∀ x, x ∈ riseD xs ↔ x ∈ xs := by
  obtain ⟨h1, h2, _⟩ := nub_all (sortD_pw xs) (fun x hx y hy => h.cmp x (sort_mem.mp hx) y (sort_mem.mp hy)) (fun x hx => (h.lay x (sort_mem.mp hx)).1)
  exact ⟨h1, fun x => (h2 x).trans sort_mem⟩
theorem rise_filter {xs ys : List PyData} (h : Ord xs) (p : PyData → Bool) (e : ∀ x, x ∈ ys ↔ x ∈ xs ∧ p x = true) : (riseD xs).filter p = riseD ys := by
  obtain ⟨h1, h2⟩ := rise_spec h
  obtain ⟨k1, k2⟩ := rise_spec (h.sub fun y hy => ((e y).mp hy).1)
  refine strict_eq (h1.sublist (List.filter_sublist)) k1 fun x => ?_
  rw [List.mem_filter, h2, k2, e]
theorem rise_len (xs : List PyData) : (riseD xs).length ≤ xs.length := Nat.le_trans (nub_len _) (Nat.le_of_eq (sortD_perm xs).length_eq)
noncomputable def risingB : DS := (sSeq (sSet 1 (dPn (opLst true) dNil))
  (sSeq (sFor (dI iV (dPn (opSorted false) (dCons (dV 0) dNil))) (gN 2)
  (sIf (dOr (dNot (dTv (dV 1))) (dTb (dP2 (opEq true) (dP2 opIxA (dV 1) (dP1 opNeg (dC (.int 1)))) (dV 2))))
  (sExpr (dMt "list" opAppend (dV 1) (dCons (dV 2) dNil))) sNext))
  (sRet (dPn opTu (dCons (dV 1) dNil)))))
noncomputable def risingF : Fn := fnF 1 3 risingB
noncomputable def onceB : DS := (sSeq (sSet 1 (dPn (opLst true) dNil))
  (sSeq (sFor (dI iV (dPn (opSorted false) (dCons (dV 0) dNil))) (gN 2)
  (sIf (dOr (dTb (dP2 (opEq false) (dV 1) (dPn (opLst false) dNil))) (dTb (dP2 (opEq true) (dP2 opIxA (dV 1) (dP1 opNeg (dC (.int 1)))) (dV 2))))
  (sExpr (dMt "list" opAppend (dV 1) (dCons (dV 2) dNil))) sNext))
  (sSeq (sLet 1) (sRet (dV 1)))))
noncomputable def onceF : Fn := fnF 1 3 onceB
theorem atI_last {xs : List PyData} {y : PyData} (h : xs.getLast? = some y) : atI xs (-1) = some y := by
  have hne : xs ≠ [] := by intro z; rw [z] at h; cases h
  have hl : 0 < xs.length := List.length_pos_iff.mpr hne
  unfold atI ixN
  rw [if_neg (by decide), if_pos (by omega)]
  rw [List.getLast?_eq_getElem?] at h
  show xs[((xs.length : Int) + -1).toNat]? = some y
  rw [← h]
  congr 1
  omega
def RiseI (x0 : W) (done : List PyData) (ρ : Env) (μ : Mem) : Prop := ∃ e2, ρ = [some x0, some (.r 0), e2] ∧ μ = [.l (nubD done)]
theorem shaped60 {x : PyData} (h : x.canLay0 = true ∧ x.depth ≤ 60) : SeqAt.shaped x = true := by
  simp [SeqAt.shaped, h.1]
  omega
theorem nub_sub : ∀ (l told : List PyData) {y : PyData}, y ∈ l.foldl stepD told → y ∈ told ∨ y ∈ l
  | [], told, y, h => .inl h
  | z :: l, told, y, h => by
    rcases nub_sub l _ h with h | h
    · unfold stepD at h
      split at h
      · rcases List.mem_append.mp h with h | h
        · exact .inl h
        · exact .inr (by rw [List.mem_singleton.mp h]; simp)
      · split at h
        · exact .inl h
        · rcases List.mem_append.mp h with h | h
          · exact .inl h
          · exact .inr (by rw [List.mem_singleton.mp h]; simp)
    · exact .inr (List.mem_cons_of_mem _ h)
theorem okO_eqr {n : Nat} {xs : List PyData} {y : PyData} {μ : Mem} {Pw : W → Mem → Prop} (h : μ[n]? = some (.l xs)) (sx : SeqAt.shaped (.list xs) = true) (sy : SeqAt.shaped y = true) : OkO (opEq false [.r n, .d y] μ) Pw = Pw (.d (.bool (PyData.eqv (.list xs) y))) μ := by
  simp [opEq, h, sx, sy, pB]
theorem rising_ok {xs : List PyData} (h : Ord xs) (hz : xs.length ≤ 100000) : Ok (risingF [.d (.list xs)] []) fun w _ => w = .d (.tuple (riseD xs)) := by
  have hz' : xs.length ≤ sizeLine := Nat.le_trans hz (by decide)
  have hsl : (sortD xs).length = xs.length := (sortD_perm xs).length_eq
  simp [risingF, risingB, opSorted, h.srt, mkL, sz, hsl, hz']
  refine for_inv (xs := sortD xs) (s := (sortD xs, none)) (RiseI (.d (.list xs))) rfl (fun _ _ _ _ _ => trivial) ⟨none, rfl, rfl⟩ ?_ ?_
  · rintro done x r ρ μ e ⟨e2, rfl, rfl⟩
    have mx : x ∈ xs := sort_mem.mp (by rw [← e]; simp)
    have hd : done.length < xs.length := by rw [← hsl, ← e]; simp
    have hn := nub_len done
    have z1 : (nubD done).length + 1 ≤ sizeLine := Nat.le_trans (show (nubD done).length + 1 ≤ 100000 by omega) (by decide)
    have sx := shaped60 (h.lay x mx)
    have all : ∀ y ∈ nubD done, y ∈ xs := fun y hy => by
      rcases nub_sub done [] hy with h | h
      · cases h
      · exact sort_mem.mp (by rw [← e]; exact List.mem_append_left _ h)
    have m0 : ([MO.l (nubD done)] : Mem)[0]? = some (.l (nubD done)) := rfl
    have m1 := nub_snoc done x
    unfold stepD at m1
    simp [opNeg, pI, asB, truth, tyW, okO_app m0 z1]
    by_cases hne : nubD done = []
    · rw [if_pos hne]
      rw [hne] at m1
      exact ⟨_, rfl, by rw [m1, hne]; rfl⟩
    · rw [if_neg hne]
      obtain ⟨y, hy⟩ : ∃ y, (nubD done).getLast? = some y := ⟨_, List.getLast?_eq_getLast hne⟩
      have sy := shaped60 (h.lay y (all y (List.mem_of_getLast? hy)))
      rw [hy] at m1
      rw [okO_ixr m0 (atI_last hy)]
      simp [sx, sy]
      cases q : PyData.eqv y x with
      | true => simp [q] at m1 ⊢; exact ⟨_, rfl, by rw [m1]⟩
      | false => simp [q] at m1 ⊢; rw [okO_app m0 z1]; exact ⟨_, rfl, by rw [m1]; rfl⟩
  · rintro ρ μ ⟨e2, rfl, rfl⟩
    have z2 : (nubD (sortD xs)).length ≤ sizeLine := Nat.le_trans (Nat.le_trans (nub_len _) (Nat.le_of_eq hsl)) hz'
    simp [opTu, opTuple, mkT, sz, z2, riseD]
theorem depth_all {D : Nat} : ∀ {xs : List PyData}, (∀ x ∈ xs, x.canLay0 = true ∧ x.depth ≤ D) → PyData.canLayAll0 xs = true ∧ PyData.depthAll xs ≤ D
  | [], _ => by simp [PyData.depthAll]
  | x :: xs, h => by
    obtain ⟨a, b⟩ := depth_all (xs := xs) fun y hy => h y (List.mem_cons_of_mem _ hy)
    obtain ⟨c, d⟩ := h x (by simp)
    simp only [lay_cons, PyData.depthAll, a, c]
    exact ⟨rfl, by omega⟩
theorem eqv_nil (xs : List PyData) : PyData.eqv (.list xs) (.list []) = xs.isEmpty := by
  cases xs <;> simp [PyData.eqv, PyData.eqvAll]
theorem once_ok {xs : List PyData} (h : Ord xs) (hz : xs.length ≤ 100000) : Ok (onceF [.d (.list xs)] []) fun w _ => w = .d (.list (riseD xs)) := by
  have hz' : xs.length ≤ sizeLine := Nat.le_trans hz (by decide)
  have hsl : (sortD xs).length = xs.length := (sortD_perm xs).length_eq
  simp [onceF, onceB, opSorted, h.srt, mkL, sz, hsl, hz']
  refine for_inv (xs := sortD xs) (s := (sortD xs, none)) (RiseI (.d (.list xs))) rfl (fun _ _ _ _ _ => trivial) ⟨none, rfl, rfl⟩ ?_ ?_
  · rintro done x r ρ μ e ⟨e2, rfl, rfl⟩
    have mx : x ∈ xs := sort_mem.mp (by rw [← e]; simp)
    have hd : done.length < xs.length := by rw [← hsl, ← e]; simp
    have hn := nub_len done
    have z1 : (nubD done).length + 1 ≤ sizeLine := Nat.le_trans (show (nubD done).length + 1 ≤ 100000 by omega) (by decide)
    have sx := shaped60 (h.lay x mx)
    have all : ∀ y ∈ nubD done, y ∈ xs := fun y hy => by
      rcases nub_sub done [] hy with h | h
      · cases h
      · exact sort_mem.mp (by rw [← e]; exact List.mem_append_left _ h)
    have m0 : ([MO.l (nubD done)] : Mem)[0]? = some (.l (nubD done)) := rfl
    have m1 := nub_snoc done x
    obtain ⟨a1, a2⟩ := depth_all fun y hy => h.lay y (all y hy)
    have sl : SeqAt.shaped (.list (nubD done)) = true := by
      simp [SeqAt.shaped, PyData.canLay0, a1, PyData.depth]
      omega
    unfold stepD at m1
    simp [opNeg, pI, tyW, okO_app m0 z1, okO_eqr m0 sl sh_nil, eqv_nil]
    by_cases hne : nubD done = []
    · rw [if_pos hne]
      rw [hne] at m1
      exact ⟨_, rfl, by rw [m1, hne]; rfl⟩
    · rw [if_neg hne]
      obtain ⟨y, hy⟩ : ∃ y, (nubD done).getLast? = some y := ⟨_, List.getLast?_eq_getLast hne⟩
      have sy := shaped60 (h.lay y (all y (List.mem_of_getLast? hy)))
      rw [hy] at m1
      rw [okO_ixr m0 (atI_last hy)]
      simp [sx, sy]
      cases q : PyData.eqv y x with
      | true => simp [q] at m1 ⊢; exact ⟨_, rfl, by rw [m1]⟩
      | false => simp [q] at m1 ⊢; rw [okO_app m0 z1]; exact ⟨_, rfl, by rw [m1]; rfl⟩
  · rintro ρ μ ⟨e2, rfl, rfl⟩
    simp [frzW, riseD]
end Mok05
set_option autoImplicit false
namespace Mok05
variable [Wd]
open PySem PySem.Spec PyProof.Rows L2
open PySem.W (dataLt)
mutual
def allP : Sg → List Sg
  | .lt x => [.lt x]
  | .no s => .no s :: allP s
  | .many w l => .many w l :: allPs l
  | .so a b => .so a b :: (allP a ++ allP b)
  | .tl a b => .tl a b :: (allP a ++ allP b)
  | .mod w h s => .mod w h s :: allP s
def allPs : List Sg → List Sg
  | [] => []
  | s :: r => allP s ++ allPs r
end
theorem allPs_app : ∀ l m : List Sg, allPs (l ++ m) = allPs l ++ allPs m
  | [], m => rfl
  | s :: r, m => by rw [List.cons_append, allPs, allPs_app r m, allPs, List.append_assoc]
theorem allP_inn (s : Sg) : allP s = s :: allPs s.inn := by
  cases s <;> simp [allP, allPs, Sg.inn]
theorem szs_app : ∀ l m : List Sg, Sg.szs (l ++ m) = Sg.szs l + Sg.szs m
  | [], m => by simp [Sg.szs]
  | s :: r, m => by rw [List.cons_append, Sg.szs, szs_app r m, Sg.szs]; omega
theorem sz_inn (s : Sg) : s.sz = Sg.szs s.inn + 1 := by
  cases s <;> simp [Sg.sz, Sg.szs, Sg.inn]
theorem szs_len : ∀ l : List Sg, l.length ≤ Sg.szs l
  | [] => by simp
  | s :: r => by have := szs_len r; have := sz_inn s; simp only [List.length_cons, Sg.szs]; omega
mutual
theorem allP_len : ∀ s : Sg, (allP s).length = s.sz
  | .lt x => rfl
  | .no s => by simp [allP, Sg.sz, allP_len s]
  | .many w l => by simp [allP, Sg.sz, allPs_len l]
  | .so a b => by simp [allP, Sg.sz, allP_len a, allP_len b]
  | .tl a b => by simp [allP, Sg.sz, allP_len a, allP_len b]
  | .mod w h s => by simp [allP, Sg.sz, allP_len s]
theorem allPs_len : ∀ l : List Sg, (allPs l).length = Sg.szs l
  | [] => rfl
  | s :: r => by simp [allPs, Sg.szs, allP_len s, allPs_len r]
end
mutual
theorem allP_sub : ∀ {s x : Sg}, x ∈ allP s → (s.sok → x.sok) ∧ x.ht ≤ s.ht ∧ x.sz ≤ s.sz ∧ ∀ y ∈ allP x, y ∈ allP s
  | .lt x, y, h => by rw [List.mem_singleton.mp h]; exact ⟨id, Nat.le_refl _, Nat.le_refl _, fun _ h => h⟩
  | .no s, x, h => by
    rcases List.mem_cons.mp h with rfl | h
    · exact ⟨id, Nat.le_refl _, Nat.le_refl _, fun _ h => h⟩
    · obtain ⟨a, b, c, d⟩ := allP_sub (s := s) h
      exact ⟨a, by simp only [Sg.ht]; omega, by simp only [Sg.sz]; omega, fun y hy => List.mem_cons_of_mem _ (d y hy)⟩
  | .many w l, x, h => by
    rcases List.mem_cons.mp h with rfl | h
    · exact ⟨id, Nat.le_refl _, Nat.le_refl _, fun _ h => h⟩
    · obtain ⟨a, b, c, d⟩ := allPs_sub (l := l) h
      exact ⟨fun k => a k.1, by simp only [Sg.ht]; omega, by simp only [Sg.sz]; omega, fun y hy => List.mem_cons_of_mem _ (d y hy)⟩
  | .so s t, x, h => by
    rcases List.mem_cons.mp h with rfl | h
    · exact ⟨id, Nat.le_refl _, Nat.le_refl _, fun _ h => h⟩
    · rcases List.mem_append.mp h with h | h
      · obtain ⟨a, b, c, d⟩ := allP_sub (s := s) h
        exact ⟨fun k => a k.1, by simp only [Sg.ht]; omega, by simp only [Sg.sz]; omega, fun y hy => List.mem_cons_of_mem _ (List.mem_append_left _ (d y hy))⟩
      · obtain ⟨a, b, c, d⟩ := allP_sub (s := t) h
        exact ⟨fun k => a k.2, by simp only [Sg.ht]; omega, by simp only [Sg.sz]; omega, fun y hy => List.mem_cons_of_mem _ (List.mem_append_right _ (d y hy))⟩
  | .tl s t, x, h => by
    rcases List.mem_cons.mp h with rfl | h
    · exact ⟨id, Nat.le_refl _, Nat.le_refl _, fun _ h => h⟩
    · rcases List.mem_append.mp h with h | h
      · obtain ⟨a, b, c, d⟩ := allP_sub (s := s) h
        exact ⟨fun k => a k.1, by simp only [Sg.ht]; omega, by simp only [Sg.sz]; omega, fun y hy => List.mem_cons_of_mem _ (List.mem_append_left _ (d y hy))⟩
      · obtain ⟨a, b, c, d⟩ := allP_sub (s := t) h
        exact ⟨fun k => a k.2, by simp only [Sg.ht]; omega, by simp only [Sg.sz]; omega, fun y hy => List.mem_cons_of_mem _ (List.mem_append_right _ (d y hy))⟩
  | .mod w z s, x, h => by
    rcases List.mem_cons.mp h with rfl | h
    · exact ⟨id, Nat.le_refl _, Nat.le_refl _, fun _ h => h⟩
    · obtain ⟨a, b, c, d⟩ := allP_sub (s := s) h
      exact ⟨fun k => a k.2, by simp only [Sg.ht]; omega, by simp only [Sg.sz]; omega, fun y hy => List.mem_cons_of_mem _ (d y hy)⟩
theorem allPs_sub : ∀ {l : List Sg} {x : Sg}, x ∈ allPs l → (Sg.soks l → x.sok) ∧ x.ht ≤ Sg.hts l ∧ x.sz ≤ Sg.szs l ∧ ∀ y ∈ allP x, y ∈ allPs l
  | s :: r, x, h => by
    rcases List.mem_append.mp h with h | h
    · obtain ⟨a, b, c, d⟩ := allP_sub (s := s) h
      exact ⟨fun k => a k.1, by simp only [Sg.hts]; omega, by simp only [Sg.szs]; omega, fun y hy => List.mem_append_left _ (d y hy)⟩
    · obtain ⟨a, b, c, d⟩ := allPs_sub (l := r) h
      exact ⟨fun k => a k.2, by simp only [Sg.hts]; omega, by simp only [Sg.szs]; omega, fun y hy => List.mem_append_right _ (d y hy)⟩
end
theorem mem_ds {l : List Sg} {x : PyData} : x ∈ Sg.ds l ↔ ∃ s ∈ l, s.d = x := by rw [ds_map, List.mem_map]
theorem ds_len (l : List Sg) : (Sg.ds l).length = l.length := by rw [ds_map, List.length_map]
theorem all_ds {P : Sg → Prop} : ∀ {xs : List PyData}, (∀ x ∈ xs, ∃ s : Sg, P s ∧ s.d = x) → ∃ l : List Sg, xs = Sg.ds l ∧ ∀ s ∈ l, P s
  | [], _ => ⟨[], rfl, by simp⟩
  | x :: xs, h => by
    obtain ⟨l, rfl, h2⟩ := all_ds (xs := xs) fun y hy => h y (List.mem_cons_of_mem _ hy)
    obtain ⟨s, h3, rfl⟩ := h x (by simp)
    exact ⟨s :: l, rfl, fun t ht => by
      rcases List.mem_cons.mp ht with rfl | ht
      · exact h3
      · exact h2 t ht⟩
theorem begins_sg (s : Sg) : begins s.d = true := by
  cases s <;> rfl
theorem ord_dep {l : List Sg} (h : ∀ s ∈ l, s.sok ∧ s.d.depth ≤ 60) : Ord (Sg.ds l) := by
  refine ⟨fun x hx y hy => ?_, fun x hx => ?_, fun x hx => ?_⟩
  · obtain ⟨s, _, rfl⟩ := mem_ds.mp hx
    obtain ⟨t, _, rfl⟩ := mem_ds.mp hy
    exact cmp_sg s t
  · obtain ⟨s, hs, rfl⟩ := mem_ds.mp hx
    obtain ⟨a, b⟩ := h s hs
    obtain ⟨c, _, _⟩ := sg_rp a
    exact ⟨c, b⟩
  · obtain ⟨s, _, rfl⟩ := mem_ds.mp hx
    exact begins_sg s
theorem ord_ds {l : List Sg} (h : ∀ s ∈ l, s.sok ∧ s.ht ≤ 29) : Ord (Sg.ds l) := ord_dep fun s hs => by
  obtain ⟨a, b⟩ := h s hs
  obtain ⟨_, d, _⟩ := sg_rp a
  exact ⟨a, by omega⟩
theorem depth_mem {x : PyData} : ∀ {xs : List PyData}, x ∈ xs → x.depth ≤ PyData.depthAll xs
  | y :: xs, h => by
    rcases List.mem_cons.mp h with rfl | h
    · simp only [PyData.depthAll]; omega
    · have := depth_mem h; simp only [PyData.depthAll]; omega
theorem inn_dep {s x : Sg} (h : x ∈ s.inn) : x.d.depth < s.d.depth := by
  cases s with
  | lt _ => cases h
  | many w l =>
    have := depth_mem (x := x.d) (xs := Sg.ds l) (mem_ds.mpr ⟨x, h, rfl⟩)
    simp only [Sg.d, PyData.depth, PyData.depthAll]
    omega
  | no s =>
    rw [List.mem_singleton.mp h]
    simp only [Sg.d, PyData.depth, PyData.depthAll]
    omega
  | mod w y s =>
    rw [List.mem_singleton.mp h]
    simp only [Sg.d, PyData.depth, PyData.depthAll]
    omega
  | so a b =>
    rcases List.mem_cons.mp h with rfl | h
    · simp only [Sg.d, PyData.depth, PyData.depthAll]; omega
    · rw [List.mem_singleton.mp h]; simp only [Sg.d, PyData.depth, PyData.depthAll]; omega
  | tl a b =>
    rcases List.mem_cons.mp h with rfl | h
    · simp only [Sg.d, PyData.depth, PyData.depthAll]; omega
    · rw [List.mem_singleton.mp h]; simp only [Sg.d, PyData.depth, PyData.depthAll]; omega
theorem mem_allPs {x : Sg} : ∀ {l : List Sg}, x ∈ allPs l ↔ ∃ s ∈ l, x ∈ allP s
  | [] => by simp [allPs]
  | s :: r => by simp [allPs, mem_allPs (l := r)]
theorem allP_dep : ∀ (n : Nat) {s x : Sg}, s.sz ≤ n → x ∈ allP s → x.d.depth ≤ s.d.depth
  | 0, s, _, h, _ => by have := sz_inn s; omega
  | n + 1, s, x, hn, h => by
    rw [allP_inn] at h
    rcases List.mem_cons.mp h with rfl | h
    · exact Nat.le_refl _
    · obtain ⟨y, h1, h2⟩ := mem_allPs.mp h
      have a := inn_dep h1
      have b := allP_dep n (s := y) (x := x) (by
        have := sz_inn s
        have : ∀ l : List Sg, y ∈ l → y.sz ≤ Sg.szs l := fun l => by
          induction l with
          | nil => intro h; cases h
          | cons z r ih =>
            intro h
            simp only [Sg.szs]
            rcases List.mem_cons.mp h with rfl | h
            · omega
            · have := ih h; omega
        have := this s.inn h1
        omega) h2
      omega
theorem rise_congr {xs ys : List PyData} (h : Ord xs) (e : ∀ x, x ∈ ys ↔ x ∈ xs) : riseD ys = riseD xs := by
  obtain ⟨h1, h2⟩ := rise_spec h
  obtain ⟨k1, k2⟩ := rise_spec (h.sub fun y hy => (e y).mp hy)
  exact strict_eq k1 h1 fun x => by rw [h2, k2, e]
noncomputable def everyB : DS := (sSeq (sSet 1 (dPn (opLst true) dNil))
  (sSeq (sSet 2 (dPn (opLst true) (dCons (dV 0) dNil)))
  (sSeq (whl (dTv (dV 2))
  (sSeq (sSet 3 (dMt "list" opPop (dV 2) dNil))
  (sSeq (sExpr (dMt "list" opAppend (dV 1) (dCons (dV 3) dNil)))
  (sExpr (dMt "list" opExtend (dV 2) (dCons (dCall innerF [] (dCons (dV 3) dNil)) dNil))))) 100000)
  (sSeq (sLet 1) (sRet (dV 1))))))
noncomputable def everyF : Fn := fnF 1 4 everyB
noncomputable def partsB : DS := (sRet (dCall risingF [] (dCons (dCall everyF [] (dCons (dV 0) dNil)) dNil)))
noncomputable def partsF : Fn := fnF 1 1 partsB
def EvI (s : Sg) (k : Nat) (ρ : Env) (μ : Mem) : Prop := ∃ (F Wt : List Sg) (e : Option W), ρ = [some (.d s.d), some (.r 0), some (.r 1), e] ∧ μ = [.l (Sg.ds F), .l (Sg.ds Wt)] ∧ (∀ x, x ∈ allP s ↔ x ∈ F ∨ x ∈ allPs Wt) ∧ F.length + Sg.szs Wt = s.sz ∧ k = Sg.szs Wt
theorem or4 {a b c d : Prop} : (a ∨ b ∨ c ∨ d) ↔ (a ∨ c) ∨ b ∨ d := by
  constructor
  · rintro (h | h | h | h)
    · exact .inl (.inl h)
    · exact .inr (.inl h)
    · exact .inl (.inr h)
    · exact .inr (.inr h)
  · rintro ((h | h) | h | h)
    · exact .inl h
    · exact .inr (.inr (.inl h))
    · exact .inr (.inl h)
    · exact .inr (.inr (.inr h))
theorem every_ok {s : Sg} (h : s.sok) (hz : s.sz ≤ 90000) : Ok (everyF [.d s.d] []) fun w _ => ∃ y, w = .d y ∧ ∃ l, y = .list (Sg.ds l) ∧ (∀ x, x ∈ l ↔ x ∈ allP s) ∧ l.length = s.sz := by
  simp [everyF, everyB]
  refine whl_inv (EvI s) ?_ 100000 s.sz _ _ (by omega) ⟨[], [s], none, rfl, rfl, by simp [allPs], by simp [Sg.szs], by simp [Sg.szs]⟩
  rintro k ρ μ ⟨F, Wt, e, rfl, rfl, h1, h2, rfl⟩
  by_cases hn : Wt = []
  · subst hn
    simp only [Sg.szs] at h2
    simp [asB, truth, Sg.ds, frzW]
    exact ⟨F, rfl, fun x => by rw [h1]; simp [allPs], by omega⟩
  · obtain ⟨r, x, rfl⟩ := snoc_of hn
    have hx : Sg.szs (r ++ [x]) = Sg.szs r + Sg.szs x.inn + 1 := by have := sz_inn x; rw [szs_app]; simp only [Sg.szs]; omega
    have hs : x ∈ allP s := by rw [h1, allPs_app]; right; simp [allPs, allP_inn]
    have e1 : (!(Sg.ds (r ++ [x])).isEmpty) = true := by simp [ds_app, Sg.ds]
    have hl := szs_len r
    have hi := szs_len x.inn
    rw [ds_app] at e1 ⊢
    simp only [Sg.ds] at e1 ⊢
    simp only [ok_dTv, ok_dV0, ok_dVs, asB, truth]
    simp [tyW, okO_pop (show ([MO.l (Sg.ds F), MO.l (Sg.ds r ++ [x.d])] : Mem)[1]? = some (.l (Sg.ds r ++ [x.d])) from rfl), inner_eq]
    rw [okO_app (xs := Sg.ds F) (by rfl) (le_million (by rw [ds_len]; omega))]
    simp [okO_ext (show ([MO.l (Sg.ds F ++ [x.d]), MO.l (Sg.ds r)] : Mem)[1]? = some (.l (Sg.ds r)) from rfl) (ys := Sg.ds x.inn) (le_million (by rw [ds_len, ds_len]; omega))]
    refine ⟨by omega, Sg.szs (r ++ x.inn), by rw [szs_app]; omega, F ++ [x], r ++ x.inn, _, rfl, by simp [ds_app, Sg.ds], fun z => ?_, by rw [List.length_append, List.length_singleton, szs_app]; omega, rfl⟩
    rw [h1, allPs_app, allPs_app, List.mem_append, List.mem_append, List.mem_append]
    simp only [allPs, List.append_nil, List.mem_singleton]
    rw [allP_inn x, List.mem_cons]
    exact or4
theorem parts_eq {s : Sg} (h : s.sok) (hh : s.d.depth ≤ 60) (hz : s.sz ≤ 90000) (μ : Mem) : callF partsF [.d s.d] μ = .ok (.d (.tuple (riseD (Sg.ds (allP s))))) μ := by
  obtain ⟨y, ⟨l, rfl, h1, h2⟩, e⟩ := pure_ex (F := everyF) rfl (every_ok h hz)
  have o : Ord (Sg.ds (allP s)) := ord_dep fun x hx => by
    obtain ⟨a, b, _⟩ := allP_sub hx
    exact ⟨a h, Nat.le_trans (allP_dep _ (Nat.le_refl _) hx) hh⟩
  have m : ∀ x, x ∈ Sg.ds l ↔ x ∈ Sg.ds (allP s) := fun x => by
    rw [mem_ds, mem_ds]
    exact ⟨fun ⟨s, h3, h4⟩ => ⟨s, (h1 s).mp h3, h4⟩, fun ⟨s, h3, h4⟩ => ⟨s, (h1 s).mpr h3, h4⟩⟩
  refine call_pure rfl ?_
  have r : ∀ μ, callF risingF [.d (.list (Sg.ds l))] μ = .ok (.d (.tuple (riseD (Sg.ds l)))) μ := fun μ => call_pure rfl (rising_ok (o.sub fun x hx => (m x).mp hx) (by rw [ds_len]; omega))
  simp [partsF, partsB, e, r, rise_congr o m]
end Mok05
set_option autoImplicit false
namespace Mok05
variable [Wd]
open PySem PySem.Spec PyProof.Rows L2
mutual
def TxD : PyData → Bool
  | .str x => lowS x
  | .tuple xs => TxDs xs
  | _ => false
def TxDs : List PyData → Bool
  | [] => true
  | x :: r => TxD x && TxDs r
end
def tail1 : List PyData → List Nat
  | [] => [41]
  | x :: r => 44 :: 32 :: cp x.shown ++ tail1 r
def body : List PyData → List Nat
  | [] => [41]
  | [x] => cp x.shown ++ [44, 41]
  | x :: r => cp x.shown ++ tail1 r
theorem cp_join : ∀ (x : PyData) (r : List PyData), cp (Str.join ", " (PyData.shownAll (x :: r))) ++ [41] = cp x.shown ++ tail1 r
  | x, [] => rfl
  | x, y :: r => by
    have ih := cp_join y r
    simp only [PyData.shownAll, tail1] at ih ⊢
    have e : Str.join ", " (x.shown :: y.shown :: PyData.shownAll r) = x.shown ++ ", " ++ Str.join ", " (y.shown :: PyData.shownAll r) := rfl
    rw [e, cp_app, cp_app, List.append_assoc, List.append_assoc, ih]
    rfl
  termination_by _ r => r.length
theorem cp_tuple (xs : List PyData) : cp (PyData.tuple xs).shown = 40 :: body xs := by
  simp only [PyData.shown, tupleText]
  rw [cp_app, cp_app]
  match xs with
  | [] => rfl
  | [x] => rfl
  | x :: y :: r =>
    have h := cp_join x (y :: r)
    simp only [body]
    rw [← h]
    rfl
theorem split39 : ∀ {a b u v : List Nat}, (∀ c ∈ a, low c = true) → (∀ c ∈ b, low c = true) → a ++ 39 :: u = b ++ 39 :: v → a = b ∧ u = v
  | [], [], u, v, _, _, h => by simpa using h
  | [], c :: b, u, v, _, hb, h => by
    have h1 := hb c (by simp)
    rw [List.nil_append, List.cons_append] at h
    rw [← (List.cons.inj h).1] at h1
    exact absurd h1 (by decide)
  | c :: a, [], u, v, ha, _, h => by
    have h1 := ha c (by simp)
    rw [List.nil_append, List.cons_append] at h
    rw [(List.cons.inj h).1] at h1
    exact absurd h1 (by decide)
  | c :: a, d :: b, u, v, ha, hb, h => by
    rw [List.cons_append, List.cons_append] at h
    obtain ⟨h1, h2⟩ := List.cons.inj h
    obtain ⟨h3, h4⟩ := split39 (fun z hz => ha z (List.mem_cons_of_mem _ hz)) (fun z hz => hb z (List.mem_cons_of_mem _ hz)) h2
    rw [h1, h3]
    exact ⟨rfl, h4⟩
theorem tt_head {d : PyData} (h : TxD d = true) : (∃ x, d = .str x ∧ lowS x = true ∧ cp d.shown = 39 :: (cp x ++ [39])) ∨ ∃ xs, d = .tuple xs ∧ TxDs xs = true ∧ cp d.shown = 40 :: body xs := by
  cases d with
  | str x =>
    simp only [TxD] at h
    exact .inl ⟨x, rfl, h, by rw [repr_low h]; rfl⟩
  | tuple xs =>
    simp only [TxD] at h
    exact .inr ⟨xs, rfl, h, cp_tuple xs⟩
  | _ => simp [TxD] at h
theorem tt_ne {d : PyData} (h : TxD d = true) (u v : List Nat) : cp d.shown ++ u ≠ 41 :: v := by
  rcases tt_head h with ⟨x, _, _, e⟩ | ⟨xs, _, _, e⟩ <;> rw [e] <;> intro z <;> have := (List.cons.inj z).1 <;> revert this <;> decide
mutual
theorem tt_pre : ∀ (d e : PyData) (u v : List Nat), TxD d = true → TxD e = true → cp d.shown ++ u = cp e.shown ++ v → d = e ∧ u = v
  | .str x, e, u, v, hd, he, h => by
    simp only [TxD] at hd
    rcases tt_head he with ⟨y, rfl, hy, ey⟩ | ⟨ys, rfl, _, ey⟩
    · rw [repr_low hd, ey] at h
      simp only [List.cons_append, List.append_assoc, List.cons.injEq, true_and, List.nil_append] at h
      obtain ⟨h1, h2⟩ := split39 (low_all hd) (low_all hy) h
      exact ⟨by rw [cp_inj h1], h2⟩
    · rw [repr_low hd, ey] at h
      simp at h
  | .tuple xs, e, u, v, hd, he, h => by
    simp only [TxD] at hd
    rcases tt_head he with ⟨y, rfl, hy, ey⟩ | ⟨ys, rfl, hy, ey⟩
    · rw [cp_tuple, ey] at h
      simp at h
    · rw [cp_tuple, cp_tuple] at h
      simp only [List.cons_append, List.cons.injEq, true_and] at h
      have := tt_body xs ys u v hd hy h
      exact ⟨by rw [this.1], this.2⟩
  | .none, _, _, _, h, _, _ => by simp [TxD] at h
  | .bool _, _, _, _, h, _, _ => by simp [TxD] at h
  | .int _, _, _, _, h, _, _ => by simp [TxD] at h
  | .list _, _, _, _, h, _, _ => by simp [TxD] at h
  | .dict _, _, _, _, h, _, _ => by simp [TxD] at h
theorem tt_body : ∀ (xs ys : List PyData) (u v : List Nat), TxDs xs = true → TxDs ys = true → body xs ++ u = body ys ++ v → xs = ys ∧ u = v
  | [], [], u, v, _, _, h => by simpa [body] using h
  | [], [y], u, v, _, hy, h => by
    simp only [TxDs, Bool.and_eq_true] at hy
    simp only [body, List.append_assoc] at h
    exact (tt_ne hy.1 _ _ h.symm).elim
  | [], y :: z :: r, u, v, _, hy, h => by
    simp only [TxDs, Bool.and_eq_true] at hy
    simp only [body, List.append_assoc] at h
    exact (tt_ne hy.1 _ _ h.symm).elim
  | [x], [], u, v, hx, _, h => by
    simp only [TxDs, Bool.and_eq_true] at hx
    simp only [body, List.append_assoc] at h
    exact (tt_ne hx.1 _ _ h).elim
  | x :: x' :: r, [], u, v, hx, _, h => by
    simp only [TxDs, Bool.and_eq_true] at hx
    simp only [body, List.append_assoc] at h
    exact (tt_ne hx.1 _ _ h).elim
  | [x], [y], u, v, hx, hy, h => by
    simp only [TxDs, Bool.and_eq_true] at hx hy
    simp only [body, List.append_assoc] at h
    obtain ⟨rfl, h2⟩ := tt_pre x y _ _ hx.1 hy.1 h
    simpa using h2
  | [x], y :: z :: r, u, v, hx, hy, h => by
    simp only [TxDs, Bool.and_eq_true] at hx hy
    simp only [body, List.append_assoc] at h
    obtain ⟨rfl, h2⟩ := tt_pre x y _ _ hx.1 hy.1 h
    simp [tail1] at h2
  | x :: x' :: r, [y], u, v, hx, hy, h => by
    simp only [TxDs, Bool.and_eq_true] at hx hy
    simp only [body, List.append_assoc] at h
    obtain ⟨rfl, h2⟩ := tt_pre x y _ _ hx.1 hy.1 h
    simp [tail1] at h2
  | x :: x' :: r, y :: y' :: t, u, v, hx, hy, h => by
    simp only [TxDs, Bool.and_eq_true] at hx hy
    simp only [body, List.append_assoc] at h
    obtain ⟨rfl, h2⟩ := tt_pre x y _ _ hx.1 hy.1 h
    obtain ⟨h3, h4⟩ := tt_tail (x' :: r) (y' :: t) u v (by simpa [TxDs] using hx.2) (by simpa [TxDs] using hy.2) h2
    exact ⟨by rw [h3], h4⟩
theorem tt_tail : ∀ (xs ys : List PyData) (u v : List Nat), TxDs xs = true → TxDs ys = true → tail1 xs ++ u = tail1 ys ++ v → xs = ys ∧ u = v
  | [], [], u, v, _, _, h => by simpa [tail1] using h
  | [], y :: r, u, v, _, _, h => by simp [tail1] at h
  | x :: r, [], u, v, _, _, h => by simp [tail1] at h
  | x :: r, y :: t, u, v, hx, hy, h => by
    simp only [TxDs, Bool.and_eq_true] at hx hy
    simp only [tail1, List.cons_append, List.append_assoc, List.cons.injEq, true_and] at h
    obtain ⟨rfl, h2⟩ := tt_pre x y _ _ hx.1 hy.1 h
    obtain ⟨h3, h4⟩ := tt_tail r t u v hx.2 hy.2 h2
    exact ⟨by rw [h3], h4⟩
end
theorem tt_inj {d e : PyData} (hd : TxD d = true) (he : TxD e = true) (h : d.shown = e.shown) : d = e := (tt_pre d e [] [] hd he (by rw [h])).1
theorem Sw.low {x : Str} (h : Sw x) : lowS x = true := h.1
mutual
theorem sg_tt : ∀ {s : Sg}, s.sok → TxD s.d = true
  | .lt x, h => by simp [Sg.d, TxD, TxDs, Sw.low h]; decide +kernel
  | .no s, h => by simp [Sg.d, TxD, TxDs, sg_tt (s := s) h]; decide +kernel
  | .many w l, h => by
    have := sg_tts (l := l) h.1
    cases w <;> simp [Sg.d, TxD, TxDs, this, wMany] <;> decide +kernel
  | .so a b, h => by simp [Sg.d, TxD, TxDs, sg_tt h.1, sg_tt h.2]; decide +kernel
  | .tl a b, h => by simp [Sg.d, TxD, TxDs, sg_tt h.1, sg_tt h.2]; decide +kernel
  | .mod w x s, h => by
    have := sg_tt (s := s) h.2
    cases w <;> simp [Sg.d, TxD, TxDs, this, wMod, Sw.low h.1] <;> decide +kernel
theorem sg_tts : ∀ {l : List Sg}, Sg.soks l → TxDs (Sg.ds l) = true
  | [], _ => rfl
  | s :: r, h => by simp [Sg.ds, TxDs, sg_tt h.1, sg_tts h.2]
end
mutual
theorem d_inj : ∀ {s t : Sg}, s.d = t.d → s = t
  | .lt x, t, h => by
    cases t with
    | lt y =>
      simp [Sg.d] at h
      rw [h]
    | no u => simp (config := { decide := true }) [Sg.d, wMany, wMod] at h
    | many w' m => cases w' <;> simp (config := { decide := true }) [Sg.d, wMany, wMod] at h
    | so u v => simp (config := { decide := true }) [Sg.d, wMany, wMod] at h
    | tl u v => simp (config := { decide := true }) [Sg.d, wMany, wMod] at h
    | mod w' y u => cases w' <;> simp (config := { decide := true }) [Sg.d, wMany, wMod] at h
  | .no s, t, h => by
    cases t with
    | lt y => simp (config := { decide := true }) [Sg.d, wMany, wMod] at h
    | no u =>
      simp [Sg.d] at h
      rw [d_inj h]
    | many w' m => cases w' <;> simp (config := { decide := true }) [Sg.d, wMany, wMod] at h
    | so u v => simp (config := { decide := true }) [Sg.d, wMany, wMod] at h
    | tl u v => simp (config := { decide := true }) [Sg.d, wMany, wMod] at h
    | mod w' y u => cases w' <;> simp (config := { decide := true }) [Sg.d, wMany, wMod] at h
  | .many true l, t, h => by
    cases t with
    | lt y => simp (config := { decide := true }) [Sg.d, wMany, wMod] at h
    | no u => simp (config := { decide := true }) [Sg.d, wMany, wMod] at h
    | many w' m =>
      cases w' <;> simp (config := { decide := true }) [Sg.d, wMany] at h
      rw [ds_inj h]
    | so u v => simp (config := { decide := true }) [Sg.d, wMany, wMod] at h
    | tl u v => simp (config := { decide := true }) [Sg.d, wMany, wMod] at h
    | mod w' y u => cases w' <;> simp (config := { decide := true }) [Sg.d, wMany, wMod] at h
  | .many false l, t, h => by
    cases t with
    | lt y => simp (config := { decide := true }) [Sg.d, wMany, wMod] at h
    | no u => simp (config := { decide := true }) [Sg.d, wMany, wMod] at h
    | many w' m =>
      cases w' <;> simp (config := { decide := true }) [Sg.d, wMany] at h
      rw [ds_inj h]
    | so u v => simp (config := { decide := true }) [Sg.d, wMany, wMod] at h
    | tl u v => simp (config := { decide := true }) [Sg.d, wMany, wMod] at h
    | mod w' y u => cases w' <;> simp (config := { decide := true }) [Sg.d, wMany, wMod] at h
  | .so a b, t, h => by
    cases t with
    | lt y => simp (config := { decide := true }) [Sg.d, wMany, wMod] at h
    | no u => simp (config := { decide := true }) [Sg.d, wMany, wMod] at h
    | many w' m => cases w' <;> simp (config := { decide := true }) [Sg.d, wMany, wMod] at h
    | so u v =>
      simp [Sg.d] at h
      rw [d_inj h.1, d_inj h.2]
    | tl u v => simp (config := { decide := true }) [Sg.d, wMany, wMod] at h
    | mod w' y u => cases w' <;> simp (config := { decide := true }) [Sg.d, wMany, wMod] at h
  | .tl a b, t, h => by
    cases t with
    | lt y => simp (config := { decide := true }) [Sg.d, wMany, wMod] at h
    | no u => simp (config := { decide := true }) [Sg.d, wMany, wMod] at h
    | many w' m => cases w' <;> simp (config := { decide := true }) [Sg.d, wMany, wMod] at h
    | so u v => simp (config := { decide := true }) [Sg.d, wMany, wMod] at h
    | tl u v =>
      simp [Sg.d] at h
      rw [d_inj h.1, d_inj h.2]
    | mod w' y u => cases w' <;> simp (config := { decide := true }) [Sg.d, wMany, wMod] at h
  | .mod true x s, t, h => by
    cases t with
    | lt y => simp (config := { decide := true }) [Sg.d, wMany, wMod] at h
    | no u => simp (config := { decide := true }) [Sg.d, wMany, wMod] at h
    | many w' m => cases w' <;> simp (config := { decide := true }) [Sg.d, wMany, wMod] at h
    | so u v => simp (config := { decide := true }) [Sg.d, wMany, wMod] at h
    | tl u v => simp (config := { decide := true }) [Sg.d, wMany, wMod] at h
    | mod w' y u =>
      cases w' <;> simp (config := { decide := true }) [Sg.d, wMod] at h
      rw [h.1, d_inj h.2]
  | .mod false x s, t, h => by
    cases t with
    | lt y => simp (config := { decide := true }) [Sg.d, wMany, wMod] at h
    | no u => simp (config := { decide := true }) [Sg.d, wMany, wMod] at h
    | many w' m => cases w' <;> simp (config := { decide := true }) [Sg.d, wMany, wMod] at h
    | so u v => simp (config := { decide := true }) [Sg.d, wMany, wMod] at h
    | tl u v => simp (config := { decide := true }) [Sg.d, wMany, wMod] at h
    | mod w' y u =>
      cases w' <;> simp (config := { decide := true }) [Sg.d, wMod] at h
      rw [h.1, d_inj h.2]
theorem ds_inj : ∀ {l m : List Sg}, Sg.ds l = Sg.ds m → l = m
  | [], [], _ => rfl
  | [], _ :: _, h => by simp [Sg.ds] at h
  | _ :: _, [], h => by simp [Sg.ds] at h
  | s :: l, t :: m, h => by
    simp only [Sg.ds, List.cons.injEq] at h
    rw [d_inj h.1, ds_inj h.2]
end
theorem repr_inj {s t : Sg} (hs : s.sok) (ht : t.sok) (h : s.d.shown = t.d.shown) : s = t := d_inj (tt_inj (sg_tt hs) (sg_tt ht) h)
end Mok05
set_option autoImplicit false
namespace Mok05
variable [Wd]
open PySem PySem.Spec PyProof.Rows L2
open PySem.W (dataLt)
mutual
def core : Sg → Sg
  | .lt x => .lt x
  | .no s => .no (core s)
  | .many w l => .many w (cores l)
  | .so a b => .so (core a) (core b)
  | .tl a b => .tl (core a) (core b)
  | .mod w h s => if w = true then .no (.mod false h (.no (core s))) else .mod false h (core s)
def cores : List Sg → List Sg
  | [] => []
  | s :: r => core s :: cores r
end
theorem cores_map : ∀ l, cores l = l.map core
  | [] => rfl
  | s :: r => by rw [cores, cores_map r]; rfl
mutual
theorem core_sz : ∀ s : Sg, (core s).sz ≤ 3 * s.sz ∧ (core s).ht ≤ 3 * s.ht ∧ (s.sok → (core s).sok)
  | .lt x => by simp only [core, Sg.sz, Sg.ht]; exact ⟨by omega, by omega, id⟩
  | .no s => by have := core_sz s; simp only [core, Sg.sz, Sg.ht]; exact ⟨by omega, by omega, this.2.2⟩
  | .many w l => by have := cores_sz l; simp only [core, Sg.sz, Sg.ht]; exact ⟨by omega, by omega, fun h => ⟨this.2.2 h.1, by rw [cores_map, List.length_map]; exact h.2⟩⟩
  | .so a b => by have x := core_sz a; have y := core_sz b; simp only [core, Sg.sz, Sg.ht]; exact ⟨by omega, by omega, fun h => ⟨x.2.2 h.1, y.2.2 h.2⟩⟩
  | .tl a b => by have x := core_sz a; have y := core_sz b; simp only [core, Sg.sz, Sg.ht]; exact ⟨by omega, by omega, fun h => ⟨x.2.2 h.1, y.2.2 h.2⟩⟩
  | .mod w z s => by
    have := core_sz s
    cases w <;> simp only [core, Sg.sz, Sg.ht, if_true, Bool.false_eq_true, if_false] <;> exact ⟨by omega, by omega, fun h => ⟨h.1, this.2.2 h.2⟩⟩
theorem cores_sz : ∀ l : List Sg, Sg.szs (cores l) ≤ 3 * Sg.szs l ∧ Sg.hts (cores l) ≤ 3 * Sg.hts l ∧ (Sg.soks l → Sg.soks (cores l))
  | [] => by simp [cores, Sg.szs, Sg.hts]
  | s :: r => by have x := core_sz s; have y := cores_sz r; simp only [cores, Sg.szs, Sg.hts]; exact ⟨by omega, by omega, fun h => ⟨x.2.2 h.1, y.2.2 h.2⟩⟩
end
noncomputable def coreB (self : Fn) : DS := (sSeq (sSet 1 (dPn opTu (dCons (dLc false (dI iV (dCall innerF [] (dCons (dV 0) dNil))) (gN 2) dYes (dCall self [] (dCons (dV 2) dNil)) [2]) dNil)))
  (sSeq (sIf (dTb (dP2 (opEq false) (dP2 opIxA (dV 0) (dC (.int 0))) (dC (.str "may"))))
  (sRet (dPn opTup (dCons (dC (.str "not")) (dCons (dPn opTup (dCons (dC (.str "must")) (dCons (dP2 opIxA (dV 0) (dC (.int 1))) (dCons (dPn opTup (dCons (dC (.str "not")) (dCons (dP2 opIxA (dV 1) (dC (.int 0))) dNil))) dNil)))) dNil)))) sNext)
  (sRet (dCall withF [] (dCons (dV 0) (dCons (dV 1) dNil))))))
noncomputable def coreF : Nat → Fn
  | 0 => fun _ _ => .bad
  | n + 1 => fnF 1 3 (coreB (coreF n))
theorem core_wi (s : Sg) (h : ∀ x t, s ≠ .mod true x t) : s.wi (s.inn.map core) = core s := by
  cases s with
  | many w l => simp [Sg.wi, Sg.inn, core, cores_map]
  | mod w x t => cases w with
    | true => exact (h x t rfl).elim
    | false => simp [Sg.wi, Sg.inn, core]
  | _ => simp [Sg.wi, Sg.inn, core]
theorem core_ok : ∀ (n : Nat) (s : Sg), s.ht < n → s.sok → ∀ μ, callF (coreF n) [.d s.d] μ = .ok (.d (core s).d) μ := by
  intro n
  induction n with
  | zero => intro s h; omega
  | succ n ih =>
    intro s hn hs μ
    refine call_pure rfl ?_
    simp [coreF, coreB, inner_eq, ok_dLc]
    have hl := inn_len hs
    refine each_inner (f := core) hl (fun x hx => ?_) ?_
    · have := ih x (by have := inn_ht hx; omega) (inn_sok hx hs) []
      simp only [dCall, dCons, dNil, wipeE, bnd_ok, dV, List.set_cons_succ, List.set_cons_zero, List.foldl_cons, List.foldl_nil, List.getElem?_cons_succ, List.getElem?_cons_zero]
      simp [dV, this]
    · have e : ∀ μ, callF withF [.d s.d, .d (.tuple (Sg.ds (s.inn.map core)))] μ = .ok (.d (s.wi (s.inn.map core)).d) μ := fun μ => with_eq s _ (by rw [List.length_map]) μ
      refine ⟨by rw [ds_len, List.length_map]; exact hl, ?_⟩
      by_cases hm : ∃ x t, s = .mod true x t
      · obtain ⟨x, t, rfl⟩ := hm
        simp (config := { decide := true }) [Sg.d, Sg.w, Sg.inn, Sg.ds, core, wMod]
      · have hw : ¬ s.w = Str.ofString "may" := by
          intro e
          cases s with
          | mod w x t => cases w with
            | true => exact hm ⟨x, t, rfl⟩
            | false => revert e; simp (config := { decide := true }) [Sg.w, wMany, wMod]
          | many w l => cases w <;> revert e <;> simp (config := { decide := true }) [Sg.w, wMany, wMod]
          | _ => revert e; simp (config := { decide := true }) [Sg.w, wMany, wMod]
        simp [hw, e, core_wi s fun x t z => hm ⟨x, t, z⟩]
end Mok05
set_option autoImplicit false
namespace Mok05
variable [Wd]
open PySem PySem.Spec PyProof.Rows L2
open PySem.W (dataLt)
def atomW (x : PyData) : Bool := [PyData.str "letter", PyData.str "must"].any fun y => PyData.eqv y x
def Sg.atom (s : Sg) : Bool := atomW (.str s.w)
def dAtom : PyData → Bool
  | .tuple (x :: _) => atomW x
  | _ => false
theorem dAtom_sg (s : Sg) : dAtom s.d = s.atom := by cases s <;> rfl
def isAtomT (i : Nat) : DT := (dTb (dP2 (opInA false) (dP2 opIxA (dV i) (dC (.int 0))) (dPn opTup (dCons (dC (.str "letter")) (dCons (dC (.str "must")) dNil)))))
theorem isAtom_ok {i : Nat} {ρ : Env} {μ : Mem} {s : Sg} {PB : Bool → Mem → Prop} (h : ρ[i]? = some (some (.d s.d))) (q : PB s.atom μ) : Ok (isAtomT i ρ μ) PB := by
  have hs : SeqAt.shaped (.str s.w) = true := by simp
  have h2 : [PyData.str "letter", PyData.str "must"].length ≤ sizeLine := by decide
  unfold isAtomT
  simp only [ok_dTb, ok_dP2, dV_of h, ok_ok, ok_dC, ix0_sg, ok_dPn, ok_dCons, ok_dNil, okO_tup, datas_d, datas_nil, Option.map_some]
  refine ⟨h2, ?_⟩
  rw [okO_in2 hs (by decide +kernel)]
  exact q
noncomputable def atomsB (n : Nat) : DS := (sRet (dPn opTu (dCons (dLc false (dI iV (dCall partsF [] (dCons (dCall (coreF n) [] (dCons (dV 0) dNil)) dNil))) (gN 1) (isAtomT 1) (dV 1) [1]) dNil)))
noncomputable def atomsF (n : Nat) : Fn := fnF 1 2 (atomsB n)
def atomsD (s : Sg) : List PyData := riseD (Sg.ds ((allP (core s)).filter Sg.atom))
structure Cs (n : Nat) (s : Sg) : Prop where
  sok : s.sok
  ht : s.ht < n
  dep : (core s).d.depth ≤ 60
  cht : (core s).ht < 40
  sz : s.sz ≤ 1000
theorem Cs.ord {n : Nat} {s : Sg} (h : Cs n s) : Ord (Sg.ds (allP (core s))) := ord_dep fun x hx => by
  obtain ⟨a, b, _⟩ := allP_sub hx
  exact ⟨a ((core_sz s).2.2 h.sok), Nat.le_trans (allP_dep _ (Nat.le_refl _) hx) h.dep⟩
theorem atoms_filter {n : Nat} {s : Sg} (h : Cs n s) : (riseD (Sg.ds (allP (core s)))).filter dAtom = atomsD s := rise_filter h.ord dAtom fun x => by
  rw [mem_ds, mem_ds]
  constructor
  · rintro ⟨t, h1, rfl⟩
    have := List.mem_filter.mp h1
    exact ⟨⟨t, this.1, rfl⟩, by rw [dAtom_sg]; exact this.2⟩
  · rintro ⟨⟨t, h1, rfl⟩, h2⟩
    rw [dAtom_sg] at h2
    exact ⟨t, List.mem_filter.mpr ⟨h1, h2⟩, rfl⟩
theorem rise_ds {l : List Sg} (h : Ord (Sg.ds l)) : ∃ m : List Sg, riseD (Sg.ds l) = Sg.ds m ∧ (∀ s, s ∈ m ↔ s ∈ l) ∧ m.length ≤ l.length := by
  obtain ⟨h1, h2⟩ := rise_spec h
  obtain ⟨m, e, hm⟩ := all_ds (P := fun s => s ∈ l) (xs := riseD (Sg.ds l)) fun x hx => by
    obtain ⟨s, h3, h4⟩ := mem_ds.mp ((h2 x).mp hx)
    exact ⟨s, h3, h4⟩
  refine ⟨m, e, fun s => ⟨hm s, fun hs => ?_⟩, ?_⟩
  · have := (h2 s.d).mpr (mem_ds.mpr ⟨s, hs, rfl⟩)
    rw [e] at this
    obtain ⟨t, h3, h4⟩ := mem_ds.mp this
    rw [← d_inj h4]
    exact h3
  · have := rise_len (Sg.ds l)
    rw [e, ds_len, ds_len] at this
    exact this
theorem atoms_eq {n : Nat} {s : Sg} (h : Cs n s) (μ : Mem) : callF (atomsF n) [.d s.d] μ = .ok (.d (.tuple (atomsD s))) μ := by
  refine call_pure rfl ?_
  have hc := core_sz s
  have c1 : ∀ μ, callF (coreF n) [.d s.d] μ = .ok (.d (core s).d) μ := core_ok n s h.ht h.sok
  have c2 : ∀ μ, callF partsF [.d (core s).d] μ = _ := parts_eq (hc.2.2 h.sok) h.dep (by have := h.sz; omega)
  have hl : (riseD (Sg.ds (allP (core s)))).length ≤ 3000 := Nat.le_trans (rise_len _) (by rw [ds_len, allP_len]; have := h.sz; omega)
  simp [atomsF, atomsB, c1, c2, ok_dLc]
  refine lc_pure (s := (riseD (Sg.ds (allP (core s))), none)) dAtom id rfl trivial (Nat.le_trans hl (by decide)) (fun x hx => ?_) ?_
  · obtain ⟨t, ht, rfl⟩ := mem_ds.mp (((rise_spec h.ord).2 x).mp hx)
    refine ⟨_, rfl, isAtom_ok (s := t) rfl ⟨(dAtom_sg t).symm, rfl, fun _ => ?_⟩⟩
    simp [wipeE]
  · rw [List.map_id, atoms_filter h]
    simp
    have : (atomsD s).length ≤ 3000 := by rw [← atoms_filter h]; exact Nat.le_trans (List.length_filter_le _ _) hl
    exact le_million (by omega)
end Mok05
set_option autoImplicit false
namespace Mok05
variable [Wd]
open PySem PySem.Spec PyProof.Rows L2
def mk : Nat → (Nat → Bool) → Nat
  | 0, _ => 0
  | n + 1, f => mk n f ||| (if f n = true then 2 ^ n else 0)
section
variable {n : Nat} {f g : Nat → Bool}
end
end Mok05
set_option autoImplicit false
namespace Mok05
variable [Wd]
open PySem PySem.Spec PyProof.Rows L2
open PySem.W (dataLt)
mutual
def ev (v : Sg → Bool) : Sg → Bool
  | .lt x => v (.lt x)
  | .no s => !ev v s
  | .many w l => if w = true then evAny v l else evAll v l
  | .so a b => !ev v a || ev v b
  | .tl _ _ => false
  | .mod w x s => v (.mod w x s)
def evAny (v : Sg → Bool) : List Sg → Bool
  | [] => false
  | s :: r => ev v s || evAny v r
def evAll (v : Sg → Bool) : List Sg → Bool
  | [] => true
  | s :: r => ev v s && evAll v r
end
theorem evAny_map (v : Sg → Bool) : ∀ l, evAny v l = l.any (ev v)
  | [] => rfl
  | s :: r => by rw [evAny, evAny_map v r, List.any_cons]
mutual
def Co (A : List Sg) : Sg → Prop
  | .lt x => .lt x ∈ A
  | .no s => Co A s
  | .many _ l => Cos A l
  | .so a b => Co A a ∧ Co A b
  | .tl _ _ => False
  | .mod w x s => w = false ∧ .mod w x s ∈ A
def Cos (A : List Sg) : List Sg → Prop
  | [] => True
  | s :: r => Co A s ∧ Cos A r
end
mutual
def Sg.pl : Sg → Prop
  | .lt _ => True
  | .no s => s.pl
  | .many _ l => Sg.pls l
  | .so a b => a.pl ∧ b.pl
  | .tl _ _ => False
  | .mod _ _ s => s.pl
def Sg.pls : List Sg → Prop
  | [] => True
  | s :: r => s.pl ∧ Sg.pls r
end
theorem pls_all : ∀ {l : List Sg}, Sg.pls l ↔ ∀ s ∈ l, s.pl
  | [] => by simp [Sg.pls]
  | s :: r => by simp [Sg.pls, pls_all (l := r)]
mutual
theorem ok_pl : ∀ {s : Sg}, s.ok false → s.pl
  | .lt _, _ => trivial
  | .no s, h => ok_pl (s := s) h
  | .many _ l, h => oks_pls h.1
  | .so a b, h => ⟨ok_pl h.1, ok_pl h.2⟩
  | .tl a b, h => by simp [Sg.ok] at h
  | .mod _ _ s, h => ok_pl (s := s) h.2
theorem oks_pls : ∀ {l : List Sg}, Sg.oks false l → Sg.pls l
  | [], _ => trivial
  | s :: r, h => ⟨ok_pl h.1, oks_pls h.2⟩
end
theorem atom_lt (x : Str) : (Sg.lt x).atom = true := by
  show atomW (.str "letter") = true
  decide +kernel
theorem atom_must (x : Str) (s : Sg) : (Sg.mod false x s).atom = true := by
  show atomW (.str (wMod false)) = true
  decide +kernel
theorem atom_no (s : Sg) : (Sg.no s).atom = false := by
  show atomW (.str "not") = false
  decide +kernel
theorem atom_so (a b : Sg) : (Sg.so a b).atom = false := by
  show atomW (.str "so") = false
  decide +kernel
theorem atom_many (w : Bool) (l : List Sg) : (Sg.many w l).atom = false := by
  show atomW (.str (wMany w)) = false
  cases w <;> decide +kernel
mutual
theorem co_core {A : List Sg} : ∀ (s : Sg), s.pl → (∀ x ∈ allP (core s), x.atom = true → x ∈ A) → Co A (core s)
  | .lt x, _, h => h _ (by simp [core, allP]) (atom_lt x)
  | .no s, p, h => co_core s p fun x hx => h x (by simp only [core, allP]; exact List.mem_cons_of_mem _ hx)
  | .many w l, p, h => cos_core l p fun x hx => h x (by simp only [core, allP]; exact List.mem_cons_of_mem _ hx)
  | .so a b, p, h => ⟨co_core a p.1 fun x hx => h x (by simp only [core, allP]; exact List.mem_cons_of_mem _ (List.mem_append_left _ hx)), co_core b p.2 fun x hx => h x (by simp only [core, allP]; exact List.mem_cons_of_mem _ (List.mem_append_right _ hx))⟩
  | .tl a b, p, _ => p.elim
  | .mod true x s, p, h => ⟨rfl, h _ (by simp [core, allP]) (atom_must _ _)⟩
  | .mod false x s, p, h => ⟨rfl, h _ (by simp [core, allP]) (atom_must _ _)⟩
theorem cos_core {A : List Sg} : ∀ (l : List Sg), Sg.pls l → (∀ x ∈ allPs (cores l), x.atom = true → x ∈ A) → Cos A (cores l)
  | [], _, _ => trivial
  | s :: r, p, h => ⟨co_core s p.1 fun x hx => h x (by simp only [cores, allPs]; exact List.mem_append_left _ hx), cos_core r p.2 fun x hx => h x (by simp only [cores, allPs]; exact List.mem_append_right _ hx)⟩
end
end Mok05
set_option autoImplicit false
namespace Mok05
variable [Wd]
open PySem PySem.Spec PyProof.Rows L2
open PySem.W (dataLt)
theorem intsOf_at {n i : Nat} (h : i < n) : (intsOf 0 n)[i]? = some (.int (i : Int)) := by
  unfold intsOf
  simp [h]
theorem intsOf_len (n : Nat) : (intsOf 0 n).length = n := by simp [intsOf]
theorem done_at {done r : List PyData} {x : PyData} {n : Nat} (e : done ++ x :: r = intsOf 0 n) : done.length < n ∧ x = .int (done.length : Int) := by
  have hd : done.length < n := by
    have := congrArg List.length e
    rw [intsOf_len] at this
    simp at this
    omega
  refine ⟨hd, ?_⟩
  have := intsOf_at hd
  rw [← e] at this
  simpa using this
end Mok05
set_option autoImplicit false
namespace Mok05
variable [Wd]
open PySem PySem.Spec PyProof.Rows L2
open PySem.StrLaws Builtin Builtin.Str
structure Th (D N : Nat) (d : PyData) : Prop where
  lay : d.canLay0 = true
  dep : d.depth ≤ D
  shw : d.showable = true
  len : wt d ≤ N
structure Ths (D N : Nat) (xs : List PyData) : Prop where
  lay : PyData.canLayAll0 xs = true
  dep : PyData.depthAll xs ≤ D
  shw : PyData.showableAll xs = true
  len : wts xs ≤ N
section
variable {D N D' N' M : Nat} {d : PyData} {xs ys : List PyData}
theorem Th.mono (h : Th D N d) (e : D ≤ D') (f : N ≤ N') : Th D' N' d := ⟨h.lay, Nat.le_trans h.dep e, h.shw, Nat.le_trans h.len f⟩
theorem Ths.mono (h : Ths D N xs) (e : D ≤ D') (f : N ≤ N') : Ths D' N' xs := ⟨h.lay, Nat.le_trans h.dep e, h.shw, Nat.le_trans h.len f⟩
theorem Th.rp (h : Th D N d) (e : D ≤ 64) (f : N ≤ 1000000) : Rp d := ⟨h.lay, Nat.le_trans h.dep e, h.shw, Nat.le_trans (Nat.le_trans h.len f) (by decide)⟩
theorem Th.shp (h : Th D N d) (e : D ≤ 64) : SeqAt.shaped d = true := by
  have := h.dep
  simp [SeqAt.shaped, h.lay]
  omega
theorem Ths.nil : Ths D N [] := ⟨rfl, by simp [PyData.depthAll], rfl, by simp [wts]⟩
theorem Ths.cons (h : Th D N d) (k : Ths D M xs) : Ths D (N + 2 + M) (d :: xs) := ⟨by simp [h.lay, k.lay], by have := h.dep; have := k.dep; simp only [PyData.depthAll]; omega, by simp [PyData.showableAll, h.shw, k.shw], by have := h.len; have := k.len; simp only [wts]; omega⟩
theorem Ths.hd (h : Ths D N (d :: xs)) : Th D N d ∧ Ths D N xs := by
  obtain ⟨a, b, c, e⟩ := h
  simp only [lay_cons, Bool.and_eq_true, PyData.depthAll, PyData.showableAll, wts] at a b c e
  exact ⟨⟨a.1, by omega, c.1, by omega⟩, ⟨a.2, by omega, c.2, by omega⟩⟩
theorem wts_app : ∀ xs ys : List PyData, wts (xs ++ ys) = wts xs + wts ys
  | [], ys => by simp [wts]
  | x :: xs, ys => by rw [List.cons_append, wts, wts_app xs ys, wts]; omega
theorem ths_mem : ∀ {xs : List PyData}, Ths D N xs → ∀ x ∈ xs, Th D N x
  | [], _, x, hx => by cases hx
  | y :: xs, h, x, hx => by
    rcases List.mem_cons.mp hx with rfl | hx
    · exact h.hd.1
    · exact ths_mem h.hd.2 x hx
theorem ths_of0 : ∀ {xs : List PyData}, (∀ x ∈ xs, x.canLay0 = true ∧ x.depth ≤ D ∧ x.showable = true) → Ths D (wts xs) xs
  | [], _ => .nil
  | y :: xs, h => by
    obtain ⟨a, b, c⟩ := h y (by simp)
    exact (Ths.cons ⟨a, b, c, Nat.le_refl _⟩ (ths_of0 (fun x hx => h x (List.mem_cons_of_mem _ hx)))).mono (Nat.le_refl _) (by simp only [wts]; omega)
theorem ths_of {xs : List PyData} (h : ∀ x ∈ xs, x.canLay0 = true ∧ x.depth ≤ D ∧ x.showable = true) (e : wts xs ≤ N) : Ths D N xs := (ths_of0 h).mono (Nat.le_refl _) e
theorem Ths.sub (h : Ths D N xs) (s : ∀ y ∈ ys, y ∈ xs) (e : wts ys ≤ M) : Ths D M ys := ths_of (fun y hy => let q := ths_mem h y (s y hy); ⟨q.lay, q.dep, q.shw⟩) e
theorem wts_rev : ∀ xs : List PyData, wts xs.reverse = wts xs
  | [] => rfl
  | x :: xs => by rw [List.reverse_cons, wts_app, wts_rev xs, wts, wts, wts]; omega
theorem Th.items (h : Th D N (.tuple xs)) : Ths (D - 1) (N - 3) xs ∧ 1 ≤ D ∧ 3 ≤ N := by
  obtain ⟨a, b, c, e⟩ := h
  simp only [lay_tuple, PyData.depth, PyData.showable, wt] at a b c e
  exact ⟨⟨a, by omega, c, by omega⟩, by omega, by omega⟩
theorem wts_len : ∀ xs : List PyData, 2 * xs.length ≤ wts xs
  | [] => by simp
  | x :: xs => by have := wts_len xs; simp only [wts, List.length_cons]; omega
theorem Ths.size (h : Ths D N xs) : 2 * xs.length ≤ N := Nat.le_trans (wts_len xs) h.len
theorem Th.slen {x : Str} (h : Th D N (.str x)) : x.length + 2 ≤ N := by
  have a := h.len
  simp only [wt] at a
  have : x.length + 2 ≤ (PyData.str x).shown.length := by
    show x.length + 2 ≤ (reprText x).length
    rw [← reprLen_eq]
    have main : ∀ (l : List Nat) (n : Nat), n + l.length ≤ l.foldl (fun n c => n + (reprChar (reprQuote x) c).length) n := by
      intro l
      induction l with
      | nil => intro n; exact Nat.le_refl _
      | cons c l ih =>
        intro n
        have h1 : 1 ≤ (reprChar (reprQuote x) c).length := by
          unfold reprChar
          dsimp only
          repeat' split
          all_goals simp
        have := ih (n + (reprChar (reprQuote x) c).length)
        rw [List.foldl_cons, List.length_cons]
        omega
    have := main x.cps.toList 2
    rw [← Array.foldl_toList]
    simp only [Str.length]
    simp only [Array.length_toList] at this
    omega
  omega
end
def bet (c : Nat) : Bool := (!decide ((⟨#[c]⟩ : Str).cps.toList < (Str.ofString "a").cps.toList)) && !decide ((Str.ofString "z").cps.toList < (⟨#[c]⟩ : Str).cps.toList)
def word : PyData → Bool
  | .str x => decide (1 ≤ x.length) && decide (x.length ≤ 8) && x.cps.toList.all bet
  | _ => false
end Mok05
set_option autoImplicit false
namespace Mok05
variable [Wd]
open PySem PySem.Spec PyProof.Rows L2
def TxSet (P : Program) (w : World) (h : Heap) (a : Addr) (l : List Str) : Prop :=
  ∃ D : PySem.Froz.SD, h.get? a = some (PySem.Froz.sObj "set" D) ∧ PySem.Froz.TxOk P w D l ∧ Ris D.2.2.place.toList ∧ (w.params.followText "set-order" = true ∨ D.2.2.led = true)
section
variable {P : Program} {w : World} {A : Around} {E : Value → Shared → Prop} {s : Shared}
theorem tail_ris {ep : Nat} {es : Array (Int × Value)} {t : SetTable} {b : Bool} (r : Ris t.place.toList) : Ris (PySem.Froz.tailTx ep es t b).2.2.place.toList := by
  unfold PySem.Froz.tailTx
  split
  · exact relayAll_ris _ _ _
  · exact r
theorem tail_led {ep : Nat} {es : Array (Int × Value)} {t : SetTable} {b : Bool} : (PySem.Froz.tailTx ep es t b).2.2.led = t.led := by
  unfold PySem.Froz.tailTx
  split
  · exact relayAll_led _ _ _
  · rfl
theorem addTx_ris {h : Int} {v : Value} {D : PySem.Froz.SD} (r : Ris D.2.2.place.toList) : Ris (PySem.Froz.addTx h v D).2.2.place.toList := by
  obtain ⟨es, ep, t⟩ := D
  have h1 := layNew_ris t es h v r
  unfold PySem.Froz.addTx
  refine tail_ris ?_
  split
  · exact h1
  · exact h1
theorem addTx_led {h : Int} {v : Value} {D : PySem.Froz.SD} : (PySem.Froz.addTx h v D).2.2.led = D.2.2.led := by
  obtain ⟨es, ep, t⟩ := D
  have h1 := layNew_led t es h v
  unfold PySem.Froz.addTx
  rw [tail_led]
  split
  · exact h1
  · exact h1
theorem TxSet.fresh {h : Heap} : TxSet P w (h.push { cls := .type "set", dict := none, data := .set #[] 0 (.fresh 0 0 (!w.params.followText "set-order")) }) h.objs.size [] :=
  ⟨(#[], 0, .fresh 0 0 (!w.params.followText "set-order")), Heap.get?_push_size _ rfl, .nil (by rfl), List.Pairwise.nil, by
    show _ ∨ (!w.params.followText "set-order") = true
    cases w.params.followText "set-order"
    · exact .inr rfl
    · exact .inl rfl⟩
theorem add_old {a : Addr} {D : PySem.Froz.SD} {l : List Str} {k : Str} {u : Tok} {Q : Bool → Shared → Prop} (ho : s.heap.get? a = some (PySem.Froz.sObj "set" D)) (Fx : PySem.Froz.TxOk P w D l) (hk : k ∈ l) (hb : l.length < scanBound)
    (h : Q false s) : wpAny (model P w) A (setAddHashed a (.str k u) (hashStr w k)) Q E s := by
  obtain ⟨es, ep, t⟩ := D
  have hd : (PySem.Froz.sObj "set" (es, ep, t)).data = .set es ep t := rfl
  have hf : t.fits es.size = true := Fx.fit
  have hel : ElemsOf (strKind P w) es.toList := Fx.el
  have hsz : es.size = l.length := Fx.sz
  have hkey : (strKind P w).is k (.str k u) = true := PySem.Froz.is_str k u
  unfold setAddHashed setAddHashedIn
  refine wpAny_holding (wpAny_bind (wpAny_setState_of ho hd hf ?_))
  dsimp only
  rw [byScan_of rfl (by omega) hel]
  simp only [↓reduceIte]
  unfold setAddByScan
  refine wpAny_bind ?_
  refine wpAny_bind (wpAny_rule ?_)
  refine wpAny_bind (wpAny_setScan_of (knd := strKind P w) (k := k) hkey ho hd hf hel ?_)
  cases hr : List.findIdx? (fun e => (strKind P w).is k e.2) es.toList with
  | some j =>
    dsimp only
    exact wpAny_pure (wpAny_pure h)
  | none =>
    obtain ⟨e, he, q⟩ := (Fx.mem k).mp hk
    have c := List.findIdx?_eq_none_iff.mp hr e he
    rw [q] at c
    cases c
theorem add_text {a : Addr} {l : List Str} {k : Str} {u : Tok} {Q : Value → Shared → Prop} (R : TxSet P w s.heap a l) (hb : l.length + 1 < scanBound)
    (h : ∀ h' l', (∀ b o, b ≠ a → s.heap.get? b = some o → h'.get? b = some o) → TxSet P w h' a l' → l' = (if k ∈ l then l else k :: l) → Q .none { s with heap := h', toks := s.toks + 1 }) :
    wpAny (model P w) A (call (.builtin "set.add") [.ref a, .str k u]) Q E s := by
  obtain ⟨D, ho, Fx, hr, hl⟩ := R
  refine wpAny_call_entry PySem.F.slot_set_add ⟨_, ho, rfl⟩ PySem.F.entry_set_add ?_ (PySem.F.args_set_add_2 _ _)
  unfold Builtin.«set.add» Builtin.Frozenset.oneOther
  simp only [List.isEmpty_nil, bind_assoc]
  unfold Builtin.Frozenset.addrOf setAdd
  refine wpAny_bind (wpAny_pure ?_)
  try dsimp only
  refine wpAny_bind (wpAny_pure ?_)
  try dsimp only
  refine wpAny_bind ?_
  refine wpAny_holding ?_
  refine wpAny_bind ((strKind P w).pyHash (PySem.Froz.is_str k u) ?_)
  by_cases hk : k ∈ l
  · refine add_old (s := { s with toks := s.toks + 1 }) ho Fx hk (by omega) ?_
    exact wpAny_pure ⟨_, rfl, h s.heap l (fun b o _ e => e) ⟨D, ho, Fx, hr, hl⟩ (by rw [if_pos hk])⟩
  · refine PySem.Froz.add_x (s := { s with toks := s.toks + 1 }) ho Fx hk hb ?_
    refine wpAny_pure ⟨_, rfl, h _ (k :: l) (fun b o hn e => ?_) ⟨_, PySem.Froz.get_upd _ ho rfl, PySem.Froz.add_ok u Fx, addTx_ris hr, by rw [addTx_led]; exact hl⟩ (by rw [if_neg hk])⟩
    rw [Heap.get?_update_ne _ _ _ _ hn]
    exact e
end
theorem perm_of {l : List Str} : ∀ {m : List Str}, l.Nodup → (∀ x ∈ l, x ∈ m) → m.length = l.length → m.Perm l := by
  induction l with
  | nil =>
    intro m _ _ h
    rw [List.length_eq_zero_iff.mp h]
  | cons x l ih =>
    intro m nd hs hl
    obtain ⟨nx, nd⟩ := List.nodup_cons.mp nd
    have hx := hs x List.mem_cons_self
    refine (List.perm_cons_erase hx).trans (List.Perm.cons x (ih nd (fun y hy => ?_) ?_))
    · have ne : y ≠ x := fun e => nx (e ▸ hy)
      exact (List.mem_erase_of_ne ne).mpr (hs y (List.mem_cons_of_mem _ hy))
    · rw [List.length_erase_of_mem hx, hl]
      simp
def txOf : Value → Str
  | .str x _ => x
  | _ => Str.empty
theorem strs_of : ∀ {vs : List Value}, (∀ v ∈ vs, ∃ x t, v = Value.str x t) → StrsAre vs (vs.map txOf)
  | [], _ => .nil
  | v :: vs, h => by
    obtain ⟨x, t, rfl⟩ := h v List.mem_cons_self
    exact .cons x t (strs_of fun u hu => h u (List.mem_cons_of_mem _ hu))
section
variable {P : Program} {w : World} {A : Around} {E : Value → Shared → Prop} {s : Shared}
theorem sorted_texts {a : Addr} {l : List Str} {Q : Value → Shared → Prop} (R : TxSet P w s.heap a l) (nd : l.Nodup) (hh : A.handled = none) (h64 : l.length < 64)
    (hQ : ∀ s' p (out : Array Value) (c : Nat) (ys : List Str), (∀ b o, s.heap.get? b = some o → s'.heap.get? b = some o) → s'.gens = s.gens → s'.os = s.os → s.heap.objs.size ≤ p → s'.heap.get? p = some (seqObj "list" out c) → StrsAre out.toList ys → ys.Perm l →
      sortedS ys = true → Q (.ref p) s') : wpAny (model P w) A (call (.builtin "sorted") [.ref a]) Q E s := by
  obtain ⟨⟨es, ep, t⟩, ho, Fx, hr, hl⟩ := R
  have hsz : es.size = l.length := Fx.sz
  have hs : sizeLine = sizeLine := rfl
  refine Calls.call_function_entry kind_sorted plain_sorted entry_sorted (args_sorted1 _) ?_
  unfold Builtin.«sorted»
  refine wpAny_bind (m := checkCount "sorted" 1 1 _) (wpAny_pure ?_)
  refine wpAny_bind (collect_set (A := A.in1) hh ⟨_, ho, rfl, rfl⟩ Fx.fit (by show es.size < scanBound; rw [hsz]; exact Nat.lt_trans h64 (by decide)) hr hl fun s1 vs k1 hz g1 o1 pm => ?_)
  have hvl : vs.length = l.length := by rw [pm.length_eq, List.length_map, Array.length_toList]; exact hsz
  have shape : ∀ e ∈ es.toList, ∃ x t, e.2 = Value.str x t := fun e he => by
    obtain ⟨⟨k, h1, _⟩, _⟩ := Fx.el e he
    obtain ⟨t, q⟩ := Value.isStrOf_shape (x := k) (v := e.2) h1
    exact ⟨k, t, q⟩
  have hI : StrsAre vs (vs.map txOf) := strs_of fun v hv => by
    obtain ⟨e, he, q⟩ := List.mem_map.mp (pm.mem_iff.mp hv)
    obtain ⟨x, t, h⟩ := shape e he
    exact ⟨x, t, by rw [← q]; exact h⟩
  have pl : (vs.map txOf).Perm l := perm_of nd (fun x hx => by
    obtain ⟨e, he, q⟩ := (Fx.mem x).mp hx
    obtain ⟨tk, q'⟩ := Value.isStrOf_shape (x := x) (v := e.2) q
    exact List.mem_map.mpr ⟨e.2, pm.mem_iff.mpr (List.mem_map.mpr ⟨e, he, rfl⟩), by rw [q']; rfl⟩) (by rw [List.length_map]; exact hvl)
  refine wpAny_bind (wpAny_newList ?_ (by rw [hvl, sizeLine_eq]; omega))
  have hoL : (s1.heap.push (seqObj "list" vs.toArray 0)).get? s1.heap.objs.size = some (seqObj "list" vs.toArray 0) := Heap.get?_push_size _ rfl
  refine wpAny_bind (wpAny_holding (wpAny_call_entry slot_list_sort ⟨_, hoL, rfl⟩ entry_list_sort (list_sort_treeK strKind_oneLt hoL hI.keysOf (fun v₁ v₂ rest e => keyKind_strs (by rw [← e]; exact hI)) (by rw [hvl]; exact h64) fun st' hp hs => ?_) (args_list_sort _)))
  obtain ⟨ys, a1, a2, a3⟩ := sorted_out_str hI hp hs
  obtain ⟨c, hc⟩ := sortedHeap_at (vs := vs) (out := (arrOf st').map (·.2)) hoL
  refine ⟨_, rfl, wpAny_pure ⟨_, rfl, hQ _ s1.heap.objs.size _ c ys (fun b u e => ?_) g1 o1 hz hc a1 (a2.trans pl) a3⟩⟩
  have q := k1 b u e
  have hlt := Heap.lt_size q
  show (sortedHeap (s1.heap.push (seqObj "list" vs.toArray 0)) s1.heap.objs.size vs _).get? b = some u
  rw [sortedHeap_old (Nat.ne_of_lt hlt) (by rw [size_push']; exact Nat.lt_succ_of_lt hlt)]
  exact Heap.get?_push_of_some _ q
end
def TxO (P : Program) (w : World) (a : Addr) (l : List Str) : HO := .ext fun h => TxSet P w h a l ∧ l.Nodup
theorem TxSet.at {P : Program} {w : World} {h h' : Heap} {a : Addr} {l : List Str} (R : TxSet P w h a l) (k : ∀ o, h.get? a = some o → h'.get? a = some o) : TxSet P w h' a l :=
  let ⟨D, ho, r⟩ := R
  ⟨D, k _ ho, r⟩
theorem txO_new {P : Program} {w : World} {H : Hp} {h : Heap} {a : Addr} {l : List Str} (R : TxSet P w h a l) (nd : l.Nodup) : ObjOk P w H h a (TxO P w a l) :=
  ⟨⟨R, nd⟩, let ⟨_, ho, _⟩ := R; ⟨_, ho⟩, fun _ _ p k => ⟨p.1.at k, p.2⟩⟩
section
variable {X : Cx}
theorem txO_get {pins : List (Addr × Obj)} {σ : L2.St} {H : Hp} {s : Shared} {a : Addr} {l : List Str} (I : Inv X pins σ H s) (ha : H a = some (TxO X.prog X.w a l)) : TxSet X.prog X.w s.heap a l ∧ l.Nodup := (I.hok a _ ha).1
theorem addT_ok {pins : List (Addr × Obj)} {σ : L2.St} {H : Hp} {s : Shared} {E : Value → Shared → Prop} {D : Addr} {l : List Str} {k : Str} {u : Tok} {Q : Value → Shared → Prop} (I : Inv X pins σ H s) (hD : H D = some (TxO X.prog X.w D l)) (room : l.length + 1 < scanBound)
    (h : ∀ s', Inv X pins σ (upd H D (TxO X.prog X.w D (if k ∈ l then l else k :: l))) s' → Q .none s') : wpAny (model X.prog X.w) X.A (call (.builtin "set.add") [.ref D, .str k u]) Q E s := by
  obtain ⟨R, nd⟩ := txO_get I hD
  refine add_text R room fun h' l' kp R' el => ?_
  subst el
  have nd' : (if k ∈ l then l else k :: l).Nodup := by
    split
    · exact nd
    · rename_i hk
      exact List.nodup_cons.mpr ⟨hk, nd⟩
  have he : ∃ o, h'.get? D = some o := let ⟨_, ho, _⟩ := R'; ⟨_, ho⟩
  exact h _ (I.write (e := D) (t' := s.toks + 1) (by rw [hD]; trivial) (.inl rfl) kp he (txO_new R' nd'))
def rSortTx (P : Program) (w : World) : List V → Hp → VK → Prop := fun vs H Q => ∃ (a : Addr) (l : List Str), vs = [.ref a] ∧ H a = some (TxO P w a l) ∧ l.length < 64 ∧ ∀ ys p, ys.Perm l → sortedS ys = true → H p = none → Q (.ref p) (upd H p (.lst (ys.map V.str)))
theorem call_sortTx (hc : X.calm = true) : CallR X (.builtin "sorted") (rSortTx X.prog X.w) := by
  intro pins s σ H vs us Q I r h
  obtain ⟨a, l, rfl, ha, h64, q⟩ := h
  obtain ⟨R, nd⟩ := txO_get I ha
  rw [Vals.ref1 r]
  refine sorted_texts R nd (I.ok.hd hc) h64 fun s' p out c ys k g o hp hg hi pm hs => ?_
  have hlen : (ys.map V.str).length ≤ sizeLine := by rw [List.length_map, pm.length_eq, sizeLine_eq]; omega
  have hn : H p = none := I.hok.fresh hp
  have J : Inv X pins σ (upd H p (.lst (ys.map V.str))) s' := I.call' (ch := []) o (Un.laid k hp hn) (I.hok.laid k hp ⟨hlen, out.toList, c, vals_of_strs hi, hg⟩) (by rw [g]; exact I.bare) (fun _ z => nomatch z)
  exact ⟨.ref p, _, J, rfl, q ys p pm hs hn⟩
end
def tSg (N0 : Addr → HO) (Ad : Hp → Addr → V → (Hp → Prop) → Prop) (wi : TI) (g : TG) (tt : TT) (te : TE) (vs : List Nat) : TE := fun σ H Q => wi σ H fun J H1 => ∀ D, H1 D = none → ∃ W : Nat → Nat → Hp → Prop, (∃ m, W 0 m (upd H1 D (N0 D))) ∧ ∀ i m H, W i m H →
  (J.stop i H ∧ Q (.ref D) H) ∨ (J.go i H ∧ ∃ Nx : Hp → Prop, (∀ H', Nx H' → ∃ m', m' < m ∧ W (i + 1) m' H') ∧ ∀ x H', J.yld i H x H' → g x (wipe σ vs) H' fun σ2 H2 => wipe σ2 vs = wipe σ vs ∧ tt σ2 H2 fun b H3 =>
    if b = true then te σ2 H3 fun y H4 => Ad H4 D y Nx else Nx H3)
structure SetWay (P : Program) (w : World) (N0 : Addr → HO) (Ad : Hp → Addr → V → (Hp → Prop) → Prop) : Prop where
  new : ∀ (H : Hp) (h : Heap), ObjOk P w H (h.push { cls := .type "set", dict := none, data := .set #[] 0 (.fresh 0 0 (!w.params.followText "set-order")) }) h.objs.size (N0 h.objs.size)
  add : ∀ {X : Cx} (pins : List (Addr × Obj)) (s : Shared) (σ : L2.St) (H : Hp) (D : Addr) (y : V) (u : Value) (N : Hp → Prop) (Q E : Value → Shared → Prop), X.prog = P → X.w = w → Inv X pins σ H s → RelV y u → Ad H D y N → (∀ H' s', Inv X pins σ H' s' → N H' → Q .none s') →
    wpAny (model X.prog X.w) X.A (call (.builtin "set.add") [.ref D, u]) Q E s
section
variable {X : Cx} {N0 : Addr → HO} {Ad : Hp → Addr → V → (Hp → Prop) → Prop}
theorem sg_core {pins : List (Addr × Obj)} {s : Shared} {σ : L2.St} {H : Hp} {Q : VK} {elt tg iter : Expr} {ifs : List Expr} {scope : Scope} {own : List (PySem.Str × Nat)} {pos pos' : Pos} {wi : TI} {g : TG} {tt : TT} {te : TE} {use : Option (Value → Sem Unit)} {Qf : Value → Shared → Prop}
    (S : SetWay X.prog X.w N0 Ad) (hc : X.calm = true) (hN : X.N.Nodup) (I : Inv X pins σ H s) (hi : PI X tg iter wi) (ok : BlkOk X.N X.env.scope scope own)
    (hg : ∀ (s : Shared) (H : Hp) (C : Addr) (cl : List (PySem.Str × Addr)) (fp : List Addr), PG (X.blk s H scope (compEnvC scope cl C X.env) fp) tg g) (ht : ∀ (s : Shared) (H : Hp) (C : Addr) (cl : List (PySem.Str × Addr)) (fp : List Addr), PTs (X.blk s H scope (compEnvC scope cl C X.env) fp) ifs tt)
    (he : ∀ (s : Shared) (H : Hp) (C : Addr) (cl : List (PySem.Str × Addr)) (fp : List Addr), PE (X.blk s H scope (compEnvC scope cl C X.env) fp) elt te) (hs : ∀ x, foldedSetIterable iter X.env x = pure x)
    (h : tSg N0 Ad wi g tt te (own.map (·.2)) σ H Q)
    (fin : ∀ D C s' m H', Inv X pins σ H' s' → Q (.ref D) H' → s'.heap.Ns C m → FpOk X pins H' C → compPost (model X.prog X.w) X.A X.xe use Qf (.ref D) C (.ok .next) s') :
    wpAny (model X.prog X.w) X.A (comprehension (.SetComp elt [⟨tg, iter, ifs, 0⟩] scope pos) scope X.env pos' (newSet (.type "set")) false (eval iter X.env) use) Qf X.xe s := by
  have free : ∀ y ∈ scope.names, y.2 = .free → ∃ c, X.env.cells.lookup y.1 = some c := fun y hy e => (ok.free y hy e).elim (fun k => I.ok.has _ (.inl k)) fun k => I.ok.has _ (.inr k)
  refine wpAny_comprehension_free (use := use) rfl hs (closure_ok free) ok.kind (fun y hy e => by rw [ok.uniq y hy, e]) (thn (hi.run pins s σ H _ I h) fun xv s1 hx => thn hx fun itv s2 h2 => ?_)
  obtain ⟨it, fp, tn, J, H2, e, I2, T, st2, f2, q⟩ := h2
  subst e
  refine PpSet.newSet_ok (newEnv_comp ?_)
  have nD : H2 s2.heap.objs.size = none := I2.hok.fresh (Nat.le_refl _)
  obtain ⟨W, ⟨m0, w0⟩, turn⟩ := q _ nD
  have I3 : Inv X pins σ (upd H2 s2.heap.objs.size (N0 s2.heap.objs.size)) { s2 with heap := s2.heap.push { cls := .type "set", dict := none, data := .set #[] 0 (.fresh 0 0 (!X.w.params.followText "set-order")) } } :=
    I2.laid (t' := s2.toks) (fun b o e => Heap.get?_push_of_some _ e) (Nat.le_refl _) (S.new _ _)
  have low : ∀ b ∈ fp, b < s2.heap.objs.size := fun b hb => let ⟨o, e, _⟩ := T.obj _ _ st2 b hb; Heap.lt_size e
  generalize hD : s2.heap.objs.size = D at nD w0 turn I3 low ⊢
  generalize hs3 : ({ s2 with heap := s2.heap.push { cls := .type "set", dict := none, data := .set #[] 0 (.fresh 0 0 (!X.w.params.followText "set-order")) } } : Shared) = s3 at I3 ⊢
  have h3 : s3.heap = s2.heap.push { cls := .type "set", dict := none, data := .set #[] 0 (.fresh 0 0 (!X.w.params.followText "set-order")) } := by rw [← hs3]
  generalize hH3 : upd H2 D (N0 D) = H3 at I3 w0
  have f3 : ∀ b ∈ fp, FpOk X pins H3 b ∧ b < s3.heap.objs.size := fun b hb => by
    have hlt := low b hb
    refine ⟨⟨?_, (f2 b hb).2⟩, by rw [h3, Heap.size_push, hD]; exact Nat.lt_succ_of_lt hlt⟩
    rw [← hH3, upd_ne (Nat.ne_of_lt hlt)]
    exact (f2 b hb).1
  have st3 : tn 0 s3.heap := T.keep _ _ _ st2 fun b _ o e => by rw [h3]; exact Heap.get?_push_of_some _ e
  have I4 := block_start I3 ok hN f3
  have pg := hg s3 H3 s3.heap.objs.size (cellsFrom (s3.heap.objs.size + 1) scope.names (cloFrom X.env.cells scope.names [])) fp
  have pt := ht s3 H3 s3.heap.objs.size (cellsFrom (s3.heap.objs.size + 1) scope.names (cloFrom X.env.cells scope.names [])) fp
  have pe := he s3 H3 s3.heap.objs.size (cellsFrom (s3.heap.objs.size + 1) scope.names (cloFrom X.env.cells scope.names [])) fp
  show codeAny _ _ (.compStart (.SetComp elt [⟨tg, iter, ifs, 0⟩] scope pos) 0 (.ref it) (.ref D) (compEnvC scope (cellsFrom (s3.heap.objs.size + 1) scope.names (cloFrom X.env.cells scope.names [])) s3.heap.objs.size X.env)) (compPost (model X.prog X.w) X.A X.xe use Qf (.ref D) s3.heap.objs.size) { s3 with heap := pushCells (s3.heap.push { cls := .type "dict", data := .dict #[] }) scope.names }
  have n3 : ∀ b ∈ fp, H3 b = none := fun b hb => (f3 b hb).1.1
  generalize hce : compEnvC scope (cellsFrom (s3.heap.objs.size + 1) scope.names (cloFrom X.env.cells scope.names [])) s3.heap.objs.size X.env = ce at I4 pg pt pe ⊢
  have cL : ce.locals = s3.heap.objs.size := by subst hce; rfl
  generalize hs4 : ({ s3 with heap := pushCells (s3.heap.push { cls := .type "dict", data := .dict #[] }) scope.names } : Shared) = s4 at I4 ⊢
  have st4 : tn 0 s4.heap := T.keep _ _ _ st3 fun b _ o e => by rw [← hs4]; exact pushCells_keeps _ _ _ _ (Heap.get?_push_of_some _ e)
  have own' : ∀ {σ' : L2.St} {H' : Hp} {s' : Shared}, Inv (X.blk s3 H3 scope ce fp) [] σ' H' s' → (∀ b ∈ fp, H' b = none) → ∀ b ∈ fp, FpOk (X.blk s3 H3 scope ce fp) [] H' b := fun {σ' H' s'} I' hn b hb =>
    ⟨hn b hb, (I'.ok.exf b hb).1, I'.ok.exfs b hb, .inl hb, fun x c e => (I'.ok.exf b hb).2 x c e, fun p hp => absurd (show p ∈ ([] : List (Addr × Obj)) ++ [] from hp) (by simp)⟩
  have loop : codeAny (model X.prog X.w) X.A (.compLoop (.SetComp elt [⟨tg, iter, ifs, 0⟩] scope pos) 0 (.ref it) (.ref D) ce) (compPost (model X.prog X.w) X.A X.xe use Qf (.ref D) s3.heap.objs.size) s4 := by
    refine PpSet.compLoopS_any (fun n s' => ∃ i H', Inv (X.blk s3 H3 scope ce fp) [] (wipe σ (own.map (·.2))) H' s' ∧ tn i s'.heap ∧ (∀ b ∈ fp, H' b = none) ∧ W i n H') ?_ m0 ⟨0, H3, I4, st4, n3, w0⟩
    rintro n s5 ⟨i, H5, I5, st5, n5, w5⟩
    rcases turn i n H5 w5 with ⟨stop, qq⟩ | ⟨go, Nx, hNx, step⟩
    · refine thnF (T.done (X.blk s3 H3 scope ce fp) rfl rfl rfl hc i [] s5 _ H5 (fun _ _ => False) I5 (own' I5 n5) st5 stop) fun r s6 ⟨hr, I6⟩ => ?_
      subst hr
      have I7 : Inv X pins σ H5 s6 := I3.call' (ch := fp) I6.os I6.base I6.hok I6.bare fun b hb => ⟨(f3 b hb).1.2.2.2.1, (f3 b hb).1.2.1, (f3 b hb).1.2.2.2.2.1, (f3 b hb).1.2.2.2.2.2⟩
      have nC : H5 ce.locals = none := I6.free
      obtain ⟨m, hn, _⟩ := I6.loc
      have hn : s6.heap.Ns ce.locals m := hn
      rw [cL] at hn nC
      exact fin D s3.heap.objs.size s6 m H5 I7 qq hn (I3.fpOk (Nat.le_refl _) nC)
    · refine thnF (T.item (X.blk s3 H3 scope ce fp) rfl rfl rfl hc i [] s5 _ H5 (fun _ _ => False) I5 (own' I5 n5) st5 go) fun r s6 ⟨u, hr, h6⟩ => ?_
      subst hr
      refine thnF h6 fun _ s7 ⟨x, H7, I7, r7, y7, st7, n7⟩ => ?_
      refine thnF (pg.run _ s7 _ H7 x u _ (I7.pinned (own' I7 n7) (T.obj _ _ st7)) r7 (step x H7 y7)) fun _ s8 ⟨σ8, H8, I8, hw8, q8⟩ => ?_
      refine thnF (pt.run _ s8 σ8 H8 _ I8 q8) fun b s9 ⟨H9, I9, q9⟩ => ?_
      have back : ∀ {s' : Shared} {H' : Hp}, Inv (X.blk s3 H3 scope ce fp) ([] ++ pinsAt fp s7.heap) σ8 H' s' → Nx H' → ∃ m, m < n ∧ ∃ i H', Inv (X.blk s3 H3 scope ce fp) [] (wipe σ (own.map (·.2))) H' s' ∧ tn i s'.heap ∧ (∀ b ∈ fp, H' b = none) ∧ W i m H' := fun {s' H'} I' nx => by
        obtain ⟨m', hm, w'⟩ := hNx H' nx
        have pin : ∀ b ∈ fp, ∀ o, s7.heap.get? b = some o → s'.heap.get? b = some o ∧ H' b = none := fun b hb o e =>
          let z := I'.pin (b, o) (List.mem_append_right _ (List.mem_append_right _ (mem_pinsAt hb e)))
          ⟨z.1, z.2.1⟩
        have hl : (wipe σ (own.map (·.2))).length = σ8.length := by rw [← hw8, wipe_length]
        refine ⟨m', hm, i + 1, H', (I'.unpinned (pins := [])).weak hl (fun j v e => (wipe_some (by rw [hw8]; exact e)).1), T.keep _ _ _ st7 fun b hb o e => (pin b hb o e).1, fun b hb => ?_, w'⟩
        obtain ⟨o, e, _⟩ := T.obj _ _ st7 b hb
        exact (pin b hb o e).2
      cases b with
      | false =>
        simp only [Bool.false_eq_true, if_false] at q9 ⊢
        exact back I9 q9
      | true =>
        simp only [if_true] at q9 ⊢
        refine thnF (pe.run _ s9 σ8 H9 _ I9 q9) fun z s10 ⟨yv, H10, I10, r10, q10⟩ => ?_
        exact S.add (X := X.blk s3 H3 scope ce fp) _ s10 σ8 H10 D yv z Nx _ _ rfl rfl I10 r10 q10 fun H' s' I' nx => back I' nx
  exact PpSet.codeAny_compStart_set loop (T.self X.A 0 _ _ _ st4 loop)
theorem pe_sg {elt tg iter : Expr} {ifs : List Expr} {scope : Scope} {own : List (PySem.Str × Nat)} {pos : Pos} {wi : TI} {g : TG} {tt : TT} {te : TE} (S : SetWay X.prog X.w N0 Ad) (hc : X.calm = true) (hN : X.N.Nodup) (hi : PI X tg iter wi) (ok : BlkOk X.N X.env.scope scope own)
    (hg : ∀ (s : Shared) (H : Hp) (C : Addr) (cl : List (PySem.Str × Addr)) (fp : List Addr), PG (X.blk s H scope (compEnvC scope cl C X.env) fp) tg g) (ht : ∀ (s : Shared) (H : Hp) (C : Addr) (cl : List (PySem.Str × Addr)) (fp : List Addr), PTs (X.blk s H scope (compEnvC scope cl C X.env) fp) ifs tt)
    (he : ∀ (s : Shared) (H : Hp) (C : Addr) (cl : List (PySem.Str × Addr)) (fp : List Addr), PE (X.blk s H scope (compEnvC scope cl C X.env) fp) elt te) (hs : ∀ x, foldedSetIterable iter X.env x = pure x := by intro _; rfl) :
    PE X (.SetComp elt [⟨tg, iter, ifs, 0⟩] scope pos) (tSg N0 Ad wi g tt te (own.map (·.2))) := by
  refine ⟨fun pins s σ H Q I h => ?_⟩
  rw [PpSet.eval_SetComp]
  refine sg_core S hc hN I hi ok hg ht he hs h fun D C s' m H' I' q hn f => ⟨m, hn, fun h'' sb => ?_⟩
  obtain ⟨f0, f1, f2, f3, f4, f5⟩ := f
  exact ⟨.ref D, H', I'.turned (t' := s'.toks) (fun b o hb e => (sb.2 b hb).trans e) f0 f1 f3 f4 f5, rfl, q⟩
def AdT (P : Program) (w : World) : Hp → Addr → V → (Hp → Prop) → Prop := fun H D y N => ∃ (k : Str) (l : List Str), y = .str k ∧ H D = some (TxO P w D l) ∧ l.length + 1 < scanBound ∧ N (upd H D (TxO P w D (if k ∈ l then l else k :: l)))
theorem wayT (P : Program) (w : World) : SetWay P w (fun D => TxO P w D []) (AdT P w) where
  new := fun H h => txO_new TxSet.fresh List.nodup_nil
  add := fun {X} pins s σ H D y u N Q E hp hw I r h g => by
    obtain ⟨k, l, rfl, hD, hz, hN⟩ := h
    obtain ⟨t, rfl⟩ := r
    subst hp hw
    exact addT_ok I hD hz fun s' I' => g _ s' I' hN
end
end Mok05
set_option autoImplicit false
namespace Mok05
variable [Wd]
open PySem PySem.Spec PyProof.Rows L2
open PySem.W (dataLt)
section
variable {X : Cx} {ct : Ct} {Z : WX}
theorem lc_walkG {s : Src} {g : PyData → Env → Option Env} {f : Env → List PyData → Mem → Res (List PyData)} {us vs : List Nat} {J : It} {K : PySem.W.Frag} {D : Addr} {HD : Ms → Hp → List PyData → Prop} {m1 : Ms} {H1 : Hp} {ρ : Env} {σ : L2.St} {acc0 accN : List PyData} {μ0 μN : Mem} {Qe : Hp → Prop}
    {tb : (Hp → Prop) → L2.St → Hp → Prop} (hx : ∀ m H m' H' acc μ, HD m H acc → RH K m H μ → Ext m H m' H' → HD m' H' acc) (sv : Srv K J m1 H1 s) (hsub : ∀ j ∈ us, j ∈ vs) (he : EnvR K m1 H1 ρ σ) (hh : RH K m1 H1 μ0) (hid : HD m1 H1 acc0)
    (hL : lcL s g f (wipeE ρ vs) s.1 acc0 μ0 = .ok accN μN)
    (hb : ∀ m ρ1 σ1 H μ acc acc1 μ1 Nx, EnvR K m H ρ1 σ1 → RH K m H μ → HD m H acc → f ρ1 acc μ = .ok acc1 μ1 →
      (∀ m2 H2, HD m2 H2 acc1 → RH K m2 H2 μ1 → Exw m H m2 H2 → (∀ m0 H0, Out m0 H0 D m H → H0 D = none → Out m0 H0 D m2 H2) → Nx H2) → tb Nx σ1 H)
    (hend : ∀ m2 H2, HD m2 H2 accN → RH K m2 H2 μN → Exw m1 H1 m2 H2 → (∀ m0 H0, Out m0 H0 D m1 H1 → H0 D = none → Out m0 H0 D m2 H2) → Qe H2) :
    ∃ W : Nat → Nat → Hp → Prop, (∃ k, W 0 k H1) ∧ ∀ i k H, W i k H → (J.stop i H ∧ Qe H) ∨ (J.go i H ∧ ∃ Nx : Hp → Prop, (∀ H', Nx H' → ∃ k', k' < k ∧ W (i + 1) k' H') ∧ ∀ x H', J.yld i H x H' → tG K g us x (wipe σ vs) H' fun σ2 H2 => wipe σ2 vs = wipe σ vs ∧ tb Nx σ2 H2) := by
  refine ⟨fun i k H => i + k = s.1.length ∧ ∃ m acc μ, Exw m1 H1 m H ∧ RH K m H μ ∧ HD m H acc ∧ (∀ m0 H0, Out m0 H0 D m1 H1 → H0 D = none → Out m0 H0 D m H) ∧ lcL s g f (wipeE ρ vs) (s.1.drop i) acc μ = .ok accN μN,
    ⟨s.1.length, by omega, m1, acc0, μ0, .refl _ _, hh, hid, fun _ _ o _ => o, by simpa using hL⟩, fun i k H h => ?_⟩
  obtain ⟨hik, m, acc, μ, ex, hh', hid', ho, hl⟩ := h
  by_cases hlt : i < s.1.length
  · refine .inr ?_
    rw [List.drop_eq_getElem_cons hlt] at hl
    simp only [lcL] at hl
    split at hl
    · rename_i lv
      refine ⟨sv.go i m H μ hlt ex hh' lv, _, fun H' z => ⟨k - 1, by omega, by omega, z⟩, fun x H' hy => ?_⟩
      obtain ⟨d, hd, rd, e2, hh2⟩ := sv.yld i m H μ x H' ex hh' lv hlt hy
      rw [List.getElem?_eq_getElem hlt] at hd
      cases hd
      split at hl
      · cases hl
      · rename_i ρ1 eg
        have he2 : EnvR K m H' (wipeE ρ vs) (wipe σ vs) := ((he.extw ex).ext e2).wipe vs
        refine ⟨m, _, ρ1, _, he2, rd, eg, fun σ3 he3 l3 q3 => ⟨wipe_same hsub l3 q3, ?_⟩⟩
        cases ef : f ρ1 acc μ with
        | bad => rw [ef] at hl; cases hl
        | exc x μ' => rw [ef] at hl; cases hl
        | ok acc1 μ1 =>
          rw [ef, bnd_ok] at hl
          exact hb m ρ1 σ3 H' μ acc acc1 μ1 _ he3 hh2 (hx _ _ _ _ _ _ hid' hh' e2) ef fun m2 H2 a1 a2 a3 a4 => ⟨m2, acc1, μ1, (ex.trans e2.w).trans a3, a2, a1, fun m0 H0 o hD => a4 m0 H0 ((ho m0 H0 o hD).ext e2) hD, hl⟩
    · cases hl
  · refine .inl ?_
    have hi : i = s.1.length := by omega
    subst hi
    rw [List.drop_length] at hl
    simp only [lcL] at hl
    split at hl
    · rename_i lv
      cases hl
      exact ⟨sv.stop m H _ ex hh' lv, hend m H hid' hh' ex ho⟩
    · cases hl
theorem hid_off {K : PySem.W.Frag} {m0 m : Ms} {H0 H : Hp} {D : Addr} {μ : Mem} (o : Out m0 H0 D m H) (hid : m.h = D :: m0.h) (hh : RH K m H μ) : Ext m0 H0 { v := m.v, h := m0.h } H ∧ RH K { v := m.v, h := m0.h } H μ ∧ ∀ b, Live { v := m.v, h := m0.h } b → Live m b := by
  have hin : ∀ b ∈ m0.h, b ∈ m.h := fun b hb => by rw [hid]; exact List.mem_cons_of_mem _ hb
  have less : ∀ b, Live { v := m.v, h := m0.h } b → Live m b := fun b hb => hb.elim .inl fun z => .inr (hin b z)
  exact ⟨⟨o.pre, o.pre0, rfl, o.keep, o.new, o.tbk⟩, ⟨fun q hq => (hh.tb q hq).go (keeps_less less) fun _ z => z, hh.nd, hh.len, fun b hb => hh.hid b (hin b hb), fun n p u q1 q2 => (hh.at_ n p u q1 q2).keeps (keeps_less less) (fun _ _ _ _ _ _ r => r) fun _ _ _ _ _ q => q, hh.rf⟩, less⟩
structure HidT (P : Program) (w : World) (D : Addr) (h0 : List Addr) (m : Ms) (H : Hp) (acc : List PyData) : Prop where
  hid : m.h = D :: h0
  at_ : ∃ l : List Str, l.Nodup ∧ H D = some (TxO P w D l) ∧ acc = l.map .str
theorem hidT_ext {P : Program} {w : World} {K : PySem.W.Frag} {D : Addr} {h0 : List Addr} {m m' : Ms} {H H' : Hp} {acc : List PyData} {μ : Mem} (h : HidT P w D h0 m H acc) (hh : RH K m H μ) (e : Ext m H m' H') : HidT P w D h0 m' H' acc := by
  obtain ⟨l, h0, h1, h2⟩ := h.at_
  have hm : D ∈ m.h := by rw [h.hid]; simp
  exact ⟨e.hid.trans h.hid, ⟨l, h0, e.keep D _ h1 (fun z => ((hh.hid D hm).2 z).elim) nt_ext, h2⟩⟩
def hasS (acc : List PyData) (k : Str) : Bool := acc.any fun y => match y with
  | .str z => decide (z = k)
  | _ => false
theorem hasS_map {l : List Str} {k : Str} : hasS (l.map .str) k = true ↔ k ∈ l := by
  unfold hasS
  rw [List.any_eq_true]
  constructor
  · rintro ⟨y, hy, h⟩
    obtain ⟨z, hz, rfl⟩ := List.mem_map.mp hy
    rw [← of_decide_eq_true h]
    exact hz
  · intro h
    exact ⟨_, List.mem_map.mpr ⟨k, h, rfl⟩, by simp⟩
def addS (acc : List PyData) (k : Str) : List PyData := if hasS acc k = true then acc else .str k :: acc
def scOne (tt : DT) (te : DE) (ρ : Env) (acc : List PyData) (μ : Mem) : Res (List PyData) :=
  bnd (noX (tt ρ μ)) fun b μ1 => if b = true then bnd (noX (te ρ μ1)) fun w μ2 => match w with
    | .d (.str k) => if acc.length < 63 then .ok (addS acc k) μ2 else .bad
    | _ => .bad else .ok acc μ1
noncomputable def dSortSc (di : DI) (g : PyData → Env → Option Env) (tt : DT) (te : DE) (vs : List Nat) : DE := fun ρ μ => bnd (di ρ μ) fun s μ1 =>
  bnd (lcL s g (scOne tt te) (wipeE ρ vs) s.1 [] μ1) fun acc μ2 => .ok (.d (.list (sortD acc))) μ2
theorem scOne_ok {tt : DT} {te : DE} (ρ : Env) (acc : List PyData) (μ : Mem) (x : Xc) (μ' : Mem) : scOne tt te ρ acc μ ≠ .exc x μ' := by
  unfold scOne
  cases tt ρ μ with
  | bad => intro h; cases h
  | exc _ _ => intro h; cases h
  | ok b μ1 =>
    simp only [noX, bnd_ok]
    split
    · cases te ρ μ1 with
      | bad => intro h; cases h
      | exc _ _ => intro h; cases h
      | ok w μ2 =>
        simp only [noX, bnd_ok]
        split
        · split <;> intro h <;> cases h
        · intro h; cases h
    · intro h; cases h
theorem hidT_grow {P : Program} {w : World} {K : PySem.W.Frag} {D : Addr} {h0 : List Addr} {m : Ms} {H : Hp} {acc : List PyData} {μ : Mem} {k : Str} (h : HidT P w D h0 m H acc) (hh : RH K m H μ) (hz : acc.length < 63) :
    ∃ l : List Str, H D = some (TxO P w D l) ∧ l.length + 1 < scanBound ∧ HidT P w D h0 m (upd H D (TxO P w D (if k ∈ l then l else k :: l))) (addS acc k) ∧ RH K m (upd H D (TxO P w D (if k ∈ l then l else k :: l))) μ ∧ Exw m H m (upd H D (TxO P w D (if k ∈ l then l else k :: l))) := by
  obtain ⟨l, hn, h1, rfl⟩ := h.at_
  have hm : D ∈ m.h := by rw [h.hid]; simp
  have c : Chg (TxO P w D l) := trivial
  have hl : l.length < 63 := by simpa using hz
  refine ⟨l, h1, Nat.lt_trans (show l.length + 1 < 100 by omega) (by decide), ⟨h.hid, _, ?_, upd_same, ?_⟩, hh.puth hm h1 c, Exw.puth hm h1 c⟩
  · split
    · exact hn
    · rename_i q
      exact List.nodup_cons.mpr ⟨q, hn⟩
  · unfold addS
    by_cases q : k ∈ l
    · rw [if_pos (hasS_map.mpr q), if_pos q]
    · rw [if_neg (fun z => q (hasS_map.mp z)), if_neg q]
      rfl
theorem sc_one {P : Program} {w : World} {dt : DT} {de : DE} {m : Ms} {ρ : Env} {σ : L2.St} {H : Hp} {μ μ1 : Mem} {acc acc1 : List PyData} {D : Addr} {h0 : List Addr} {Nx : Hp → Prop} {K : PySem.W.Frag} (hρ : EnvR K m H ρ σ) (hh : RH K m H μ) (hid : HidT P w D h0 m H acc)
    (h : scOne dt de ρ acc μ = .ok acc1 μ1)
    (k : ∀ m2 H2, HidT P w D h0 m2 H2 acc1 → RH K m2 H2 μ1 → Exw m H m2 H2 → (∀ m0 H0, Out m0 H0 D m H → H0 D = none → Out m0 H0 D m2 H2) → Nx H2) :
    tT K ct ZF dt σ H fun b H3 => if b = true then tE K ct ZF de σ H3 fun y H4 => AdT P w H4 D y Nx else Nx H3 := by
  refine ⟨m, ρ, μ, hρ, hh, ?_⟩
  unfold scOne at h
  cases q : dt ρ μ with
  | bad => rw [q] at h; cases h
  | exc x μ1 => rw [q] at h; cases h
  | ok b μ2 =>
    rw [q, show noX (Res.ok b μ2) = Res.ok b μ2 from rfl, bnd_ok] at h
    intro m1 H1 e1 h1
    have hid1 := hidT_ext hid hh e1
    cases b with
    | false =>
      cases h
      exact iteF (k m1 H1 hid1 h1 e1.w fun m0 H0 o _ => o.ext e1)
    | true =>
      refine iteT ⟨m1, ρ, μ2, hρ.ext e1, h1, ?_⟩
      rw [if_pos rfl] at h
      cases q2 : de ρ μ2 with
      | bad => rw [q2] at h; cases h
      | exc x μ3 => rw [q2] at h; cases h
      | ok w0 μ3 =>
        rw [q2, show noX (Res.ok w0 μ3) = Res.ok w0 μ3 from rfl, bnd_ok] at h
        intro m2 H2 e2 h2 y r2
        have hid2 := hidT_ext hid1 h1 e2
        split at h
        · rename_i k0
          cases r2
          split at h
          · rename_i hz
            cases h
            obtain ⟨l, a1, a2, a3, a4, a5⟩ := hidT_grow (k := k0) hid2 h2 hz
            exact ⟨k0, l, rfl, a1, a2, k m2 _ a3 a4 ((e1.trans e2).w.trans a5) fun m0 H0 o hD => ((o.ext e1).ext e2).grow hD⟩
          · cases h
        · cases h
theorem rising_pw : ∀ (l : List Str) (x : Str), risingS x l = true → (PyData.str x :: l.map PyData.str).Pairwise (fun a b => dataLt b a = false)
  | [], x, _ => by simp
  | y :: l, x, h => by
    simp only [risingS, Bool.and_eq_true, Bool.not_eq_true'] at h
    have ih := rising_pw l y h.2
    have e : dataLt (.str y) (.str x) = false := by
      rw [PySem.W.dataLt_str, ← ltCps_eq]
      exact h.1
    refine List.pairwise_cons.mpr ⟨fun z hz => ?_, ih⟩
    rcases List.mem_cons.mp hz with rfl | hz
    · exact e
    · exact lt_tr _ _ _ e ((List.pairwise_cons.mp ih).1 z hz)
theorem sorted_pw {l : List Str} (h : sortedS l = true) : (l.map PyData.str).Pairwise (fun a b => dataLt b a = false) := by
  cases l with
  | nil => simp
  | cons x l => exact rising_pw l x h
theorem dv_strs {K : PySem.W.Frag} {L : Addr → Prop} {H : Hp} : ∀ l : List Str, DvAll K L H (l.map V.str) (l.map PyData.str)
  | [] => .nil
  | x :: l => .cons (.str x) (dv_strs l)
theorem addS_len (acc : List PyData) (k : Str) : (addS acc k).length ≤ acc.length + 1 := by
  unfold addS
  split <;> simp
theorem scOne_len {tt : DT} {te : DE} {ρ : Env} {acc acc1 : List PyData} {μ μ1 : Mem} (h : scOne tt te ρ acc μ = .ok acc1 μ1) (hz : acc.length < 64) : acc1.length < 64 := by
  unfold scOne at h
  cases q : tt ρ μ with
  | bad => rw [q] at h; cases h
  | exc _ _ => rw [q] at h; cases h
  | ok b μ2 =>
    rw [q, show noX (Res.ok b μ2) = Res.ok b μ2 from rfl, bnd_ok] at h
    split at h
    · cases q2 : te ρ μ2 with
      | bad => rw [q2] at h; cases h
      | exc _ _ => rw [q2] at h; cases h
      | ok w0 μ3 =>
        rw [q2, show noX (Res.ok w0 μ3) = Res.ok w0 μ3 from rfl, bnd_ok] at h
        split at h
        · split at h
          · cases h
            have := addS_len acc ‹Str›
            omega
          · cases h
        · cases h
    · cases h
      exact hz
theorem lcL_len {s : Src} {g : PyData → Env → Option Env} {f : Env → List PyData → Mem → Res (List PyData)} {ρ : Env} (hf : ∀ ρ acc μ acc1 μ1, f ρ acc μ = .ok acc1 μ1 → acc.length < 64 → acc1.length < 64) : ∀ (xs acc : List PyData) (μ : Mem) (accN : List PyData) (μN : Mem), lcL s g f ρ xs acc μ = .ok accN μN → acc.length < 64 → accN.length < 64
  | [], acc, μ, accN, μN, h, hz => by
    unfold lcL at h
    split at h
    · cases h; exact hz
    · cases h
  | x :: r, acc, μ, accN, μN, h, hz => by
    unfold lcL at h
    split at h
    · split at h
      · cases h
      · rename_i ρ1 _
        cases e : f ρ1 acc μ with
        | bad => rw [e] at h; cases h
        | exc _ _ => rw [e] at h; cases h
        | ok a b =>
          rw [e, bnd_ok] at h
          exact lcL_len hf r a b accN μN h (hf _ _ _ _ _ e hz)
    · cases h
section
variable {scope : Scope} {own : List (Str × Nat)} {tg iter elt : Expr} {ifs : List Expr} {spos p pos : Pos} {di : DI} {g : PyData → Env → Option Env} {us : List Nat} {dt : DT} {de : DE}
theorem mSortSc (hc : X.calm = true) (hN : X.N.Nodup) (hi : MI X ct Z tg iter di) (ok : BlkOk X.N X.env.scope scope own) (hsub : ∀ j ∈ us, j ∈ own.map (·.2))
    (hg : ∀ (s : Shared) (H : Hp) (C : Addr) (cl : List (Str × Addr)) (fp : List Addr), MG (X.blk s H scope (compEnvC scope cl C X.env) fp) tg g us) (ht : ∀ (s : Shared) (H : Hp) (C : Addr) (cl : List (Str × Addr)) (fp : List Addr), MP (X.blk s H scope (compEnvC scope cl C X.env) fp) ct ZF ifs dt)
    (he : ∀ (s : Shared) (H : Hp) (C : Addr) (cl : List (Str × Addr)) (fp : List Addr), ME (X.blk s H scope (compEnvC scope cl C X.env) fp) ct ZF elt de) (hm : X.mg "sorted" = none) (hgl : Gl X "sorted" := by rfl) (hs : ∀ x, foldedSetIterable iter X.env x = pure x := by intro _; rfl)
    (hst : starEach [.SetComp elt [⟨tg, iter, ifs, 0⟩] scope spos] X.env = [(false, eval (.SetComp elt [⟨tg, iter, ifs, 0⟩] scope spos) X.env)] := by rfl) :
    ME X ct Z (.Call (.Name "sorted" p) [.SetComp elt [⟨tg, iter, ifs, 0⟩] scope spos] [] pos) (dSortSc di g dt de (own.map (·.2))) := by
  refine ⟨pe_imp (pe_callB (call_sortTx hc) hgl hm (by decide +kernel) (pa_cons (pe_sg (g := tG X.K g us) (tt := tT X.K ct ZF dt) (te := tE X.K ct ZF de) (wayT X.prog X.w) hc hN hi.pi ok (fun s H C cl fp => (hg s H C cl fp).pg) (fun s H C cl fp => (ht s H C cl fp).pp) (fun s H C cl fp => (he s H C cl fp).pe) hs) pa_nil hst) (by decide) (by decide) hst rfl) fun σ H Q h => ?_⟩
  obtain ⟨m, ρ, μ, hρ, hh, gg⟩ := h
  refine ⟨m, ρ, μ, hρ, hh, (Gd.bnd gg).mono fun s μ1 m1 H1 e1 h1 g1 J sv D hD => ?_⟩
  cases hL : lcL s g (scOne dt de) (wipeE ρ (own.map (·.2))) s.1 [] μ1 with
  | bad => rw [hL] at g1; exact g1.elim
  | exc x μ2 => exact (lcL_ok scOne_ok _ _ _ _ _ hL).elim
  | ok accN μN =>
    rw [hL, bnd_ok] at g1
    have hn : D ∉ m1.h := fun z => h1.notin hD (.inr z)
    refine lc_walkG (HD := HidT X.prog X.w D m1.h) (D := D) (fun m H m' H' acc μ a b c => hidT_ext a b c) (sv.later (Exw.hide hD (TxO X.prog X.w D []))) hsub ((hρ.ext e1).extw (Exw.hide hD (TxO X.prog X.w D []))) (h1.hide hD (TxO X.prog X.w D [])) ⟨rfl, [], List.nodup_nil, upd_same, rfl⟩ hL
      (fun m ρ1 σ1 H μ acc acc1 μ1 Nx a1 a2 a3 a4 a5 => sc_one a1 a2 a3 a4 a5) fun m2 H2 a1 a2 a3 a4 => ?_
    obtain ⟨l, hnd, hl, rfl⟩ := a1.at_
    have hlen : l.length < 64 := by
      have := lcL_len (fun ρ acc μ acc1 μ1 h => scOne_len h) _ _ _ _ _ hL (by simp)
      simpa using this
    refine ⟨D, l, rfl, hl, hlen, fun ys q pm ss hq => ?_⟩
    obtain ⟨x1, x2, _⟩ := hid_off (a4 m1 H1 (.start hD _) hD) a1.hid a2
    have e3 : Ext { v := m2.v, h := m1.h } H2 { v := m2.v, h := m1.h } (upd H2 q (.lst (ys.map V.str))) := .laid hq _
    have hsrt : ys.map PyData.str = sortD (l.map PyData.str) := sortD_eq (pm.map PyData.str) (sorted_pw ss) fun d hd e he => by
      obtain ⟨a, _, rfl⟩ := List.mem_map.mp hd
      obtain ⟨b, _, rfl⟩ := List.mem_map.mp he
      rfl
    have hnl : ¬ Live { v := m2.v, h := m1.h } q := fun z => x2.notin hq z
    refine g1 _ _ (x1.trans e3) (x2.laid hq _) _ (.lst ⟨upd_same, hnl⟩ ?_)
    rw [← hsrt]
    exact dv_strs ys
end
end
end Mok05
set_option autoImplicit false
namespace Mok05
variable [Wd]
open PySem PySem.Spec PyProof.Rows L2
open PySem.W (dataLt)
section
variable {ρ : Env} {μ : Mem} {Pa : List PyData → Mem → Prop} {Pw : W → Mem → Prop}
theorem ok_scOne {tt : DT} {te : DE} {acc : List PyData} : Ok (scOne tt te ρ acc μ) Pa = Ok (tt ρ μ) fun b μ1 => if b = true then Ok (te ρ μ1) fun w μ2 => match w with
    | .d (.str k) => acc.length < 63 ∧ Pa (addS acc k) μ2
    | _ => False else Pa acc μ1 := by
  unfold scOne
  simp only [ok_bnd, ok_noX]
  congr 1
  funext b μ1
  split
  · simp only [ok_bnd, ok_noX]
    congr 1
    funext w μ2
    cases w with
    | r n => rfl
    | s n => rfl
    | e _ _ _ _ => rfl
    | o _ => rfl
    | d y =>
      cases y with
      | str k =>
        dsimp only
        split <;> simp [*]
      | _ => rfl
  · rfl
theorem ok_dSortSc {di : DI} {g : PyData → Env → Option Env} {tt : DT} {te : DE} {vs : List Nat} : Ok (dSortSc di g tt te vs ρ μ) Pw = Ok (di ρ μ) fun s μ1 => Ok (lcL s g (scOne tt te) (wipeE ρ vs) s.1 [] μ1) fun acc μ2 => Pw (.d (.list (sortD acc))) μ2 := by
  unfold dSortSc
  simp
end
theorem sub_len {α : Type} [DecidableEq α] : ∀ {l m : List α}, l.Nodup → (∀ x ∈ l, x ∈ m) → l.length ≤ m.length
  | [], m, _, _ => by simp
  | x :: l, m, hn, h => by
    obtain ⟨h1, h2⟩ := List.nodup_cons.mp hn
    have hx := h x (by simp)
    have := sub_len (l := l) (m := m.erase x) h2 fun y hy => (List.mem_erase_of_ne (fun e : y = x => h1 (by rw [← e]; exact hy))).mpr (h y (List.mem_cons_of_mem _ hy))
    rw [List.length_erase_of_mem hx] at this
    have : 0 < m.length := List.length_pos_of_mem hx
    simp only [List.length_cons]
    omega
def TxtsD (l : List Str) (xs : List PyData) : Prop := ∃ m : List Str, m.Nodup ∧ (∀ a, a ∈ m ↔ a ∈ l) ∧ xs = sortD (m.map .str)
theorem txts_all {l : List Str} {xs : List PyData} (h : TxtsD l xs) : ∀ x ∈ xs, ∃ a ∈ l, x = .str a := by
  obtain ⟨m, n1, m1, rfl⟩ := h
  intro x hx
  obtain ⟨a, ha, rfl⟩ := List.mem_map.mp (sort_mem.mp hx)
  exact ⟨a, (m1 a).mp ha, rfl⟩
def ScI (R : PyData → Option Str) (done acc : List PyData) (μ' : Mem) : Prop := μ' = [] ∧ ∃ m : List Str, acc = m.map .str ∧ m.Nodup ∧ ∀ a, a ∈ m ↔ ∃ x ∈ done, R x = some a
theorem sc_pure {s : Src} {xs : List PyData} {g : PyData → Env → Option Env} {tt : DT} {te : DE} {ρ : Env} {Pa : List PyData → Mem → Prop} (R : PyData → Option Str) (L : List Str) (hL : L.length ≤ 60) (hs : s.1 = xs) (hl : live s [])
    (hstep : ∀ x ∈ xs, ∃ ρ1, g x ρ = some ρ1 ∧ Ok (tt ρ1 []) fun b μ' => b = (R x).isSome ∧ μ' = [] ∧ (∀ a, R x = some a → Ok (te ρ1 []) fun w μ' => w = .d (.str a) ∧ μ' = [])) (hR : ∀ x ∈ xs, ∀ a, R x = some a → a ∈ L)
    (hend : ∀ m : List Str, m.Nodup → (∀ a, a ∈ m ↔ ∃ x ∈ xs, R x = some a) → Pa (m.map .str) []) : Ok (lcL s g (scOne tt te) ρ s.1 [] []) Pa := by
  refine lc_invG (xs := xs) (ScI R) hs (fun _ _ _ _ h => h.1 ▸ hl) ⟨rfl, [], rfl, List.nodup_nil, by simp⟩ ?_ ?_
  · rintro done x r acc μ' e ⟨rfl, m, rfl, hn, hm⟩
    have hx : x ∈ xs := by rw [← e]; simp
    obtain ⟨ρ1, e1, h1⟩ := hstep x hx
    refine ⟨ρ1, e1, ?_⟩
    rw [ok_scOne]
    refine h1.mono fun b μ' ⟨h2, h3, h4⟩ => ?_
    subst h2 h3
    have hml : m.length ≤ 60 := Nat.le_trans (sub_len hn fun a ha => by
      obtain ⟨y, hy, hya⟩ := (hm a).mp ha
      exact hR y (by rw [← e]; exact List.mem_append_left _ hy) a hya) hL
    cases q : R x with
    | none =>
      simp only [Option.isSome_none, Bool.false_eq_true, if_false]
      refine ⟨rfl, m, rfl, hn, fun a => ?_⟩
      rw [hm]
      constructor
      · rintro ⟨y, hy, h⟩
        exact ⟨y, List.mem_append_left _ hy, h⟩
      · rintro ⟨y, hy, h⟩
        rcases List.mem_append.mp hy with hy | hy
        · exact ⟨y, hy, h⟩
        · rw [List.mem_singleton.mp hy, q] at h
          cases h
    | some a0 =>
      simp only [Option.isSome_some, if_true]
      refine (h4 a0 q).mono fun w μ' ⟨h5, h6⟩ => ?_
      subst h5 h6
      refine ⟨by rw [List.length_map]; omega, rfl, ?_⟩
      unfold addS
      by_cases hh : a0 ∈ m
      · rw [if_pos (hasS_map.mpr hh)]
        refine ⟨m, rfl, hn, fun a => ?_⟩
        rw [hm]
        constructor
        · rintro ⟨y, hy, h⟩
          exact ⟨y, List.mem_append_left _ hy, h⟩
        · rintro ⟨y, hy, h⟩
          rcases List.mem_append.mp hy with hy | hy
          · exact ⟨y, hy, h⟩
          · rw [List.mem_singleton.mp hy, q] at h
            cases h
            exact (hm _).mp hh
      · rw [if_neg (fun z => hh (hasS_map.mp z))]
        refine ⟨a0 :: m, rfl, List.nodup_cons.mpr ⟨hh, hn⟩, fun b => ?_⟩
        rw [List.mem_cons, hm]
        constructor
        · rintro (h | ⟨y, hy, h⟩)
          · exact ⟨x, by simp, by rw [h]; exact q⟩
          · exact ⟨y, List.mem_append_left _ hy, h⟩
        · rintro ⟨y, hy, h⟩
          rcases List.mem_append.mp hy with hy | hy
          · exact .inr ⟨y, hy, h⟩
          · rw [List.mem_singleton.mp hy, q] at h
            cases h
            exact .inl rfl
  · rintro acc μ' ⟨rfl, m, rfl, hn, hm⟩
    exact hend m hn hm
noncomputable def lettersB : DS := (sRet (dPn opTu (dCons (dSortSc (dI iV (dCall everyF [] (dCons (dV 0) dNil))) (gN 1) (dTb (dP2 (opEq false) (dP2 opIxA (dV 1) (dC (.int 0))) (dC (.str "letter")))) (dP2 opIxA (dV 1) (dC (.int 1))) [1]) dNil)))
noncomputable def lettersF : Fn := fnF 1 2 lettersB
noncomputable def handsB : DS := (sRet (dPn opTu (dCons (dSortSc (dI iV (dCall everyF [] (dCons (dV 0) dNil))) (gN 1) (dTb (dP2 (opInA false) (dP2 opIxA (dV 1) (dC (.int 0))) (dPn opTup (dCons (dC (.str "must")) (dCons (dC (.str "may")) dNil))))) (dP2 opIxA (dV 1) (dC (.int 1))) [1]) dNil)))
noncomputable def handsF : Fn := fnF 1 2 handsB
mutual
def lts : Sg → List Str
  | .lt x => [x]
  | .no s => lts s
  | .many _ l => ltss l
  | .so a b => lts a ++ lts b
  | .tl a b => lts a ++ lts b
  | .mod _ _ s => lts s
def ltss : List Sg → List Str
  | [] => []
  | s :: r => lts s ++ ltss r
end
mutual
def hds : Sg → List Str
  | .lt _ => []
  | .no s => hds s
  | .many _ l => hdss l
  | .so a b => hds a ++ hds b
  | .tl a b => hds a ++ hds b
  | .mod _ h s => h :: hds s
def hdss : List Sg → List Str
  | [] => []
  | s :: r => hds s ++ hdss r
end
mutual
theorem mem_lts : ∀ (s : Sg) (a : Str), a ∈ lts s ↔ Sg.lt a ∈ allP s
  | .lt x, a => by simp [lts, allP]
  | .no s, a => by simp [lts, allP, mem_lts s a]
  | .many w l, a => by simp [lts, allP, mem_ltss l a]
  | .so s t, a => by simp [lts, allP, mem_lts s a, mem_lts t a]
  | .tl s t, a => by simp [lts, allP, mem_lts s a, mem_lts t a]
  | .mod w h s, a => by simp [lts, allP, mem_lts s a]
theorem mem_ltss : ∀ (l : List Sg) (a : Str), a ∈ ltss l ↔ Sg.lt a ∈ allPs l
  | [], a => by simp [ltss, allPs]
  | s :: r, a => by simp [ltss, allPs, mem_lts s a, mem_ltss r a]
end
mutual
theorem mem_hds : ∀ (s : Sg) (a : Str), a ∈ hds s ↔ ∃ w t, Sg.mod w a t ∈ allP s
  | .lt x, a => by simp [hds, allP]
  | .no s, a => by simp [hds, allP, mem_hds s a]
  | .many w l, a => by simp [hds, allP, mem_hdss l a]
  | .so s t, a => by
    simp only [hds, allP, List.mem_append, List.mem_cons, mem_hds s a, mem_hds t a]
    constructor
    · rintro (⟨w, u, h⟩ | ⟨w, u, h⟩)
      · exact ⟨w, u, .inr (.inl h)⟩
      · exact ⟨w, u, .inr (.inr h)⟩
    · rintro ⟨w, u, h | h | h⟩
      · cases h
      · exact .inl ⟨w, u, h⟩
      · exact .inr ⟨w, u, h⟩
  | .tl s t, a => by
    simp only [hds, allP, List.mem_append, List.mem_cons, mem_hds s a, mem_hds t a]
    constructor
    · rintro (⟨w, u, h⟩ | ⟨w, u, h⟩)
      · exact ⟨w, u, .inr (.inl h)⟩
      · exact ⟨w, u, .inr (.inr h)⟩
    · rintro ⟨w, u, h | h | h⟩
      · cases h
      · exact .inl ⟨w, u, h⟩
      · exact .inr ⟨w, u, h⟩
  | .mod w h s, a => by
    simp only [hds, allP, List.mem_cons, mem_hds s a]
    constructor
    · rintro (rfl | ⟨w, u, h⟩)
      · exact ⟨w, s, .inl rfl⟩
      · exact ⟨w, u, .inr h⟩
    · rintro ⟨w, u, h | h⟩
      · injection h with _ h2 _
        exact .inl h2
      · exact .inr ⟨w, u, h⟩
theorem mem_hdss : ∀ (l : List Sg) (a : Str), a ∈ hdss l ↔ ∃ w t, Sg.mod w a t ∈ allPs l
  | [], a => by simp [hdss, allPs]
  | s :: r, a => by
    simp only [hdss, allPs, List.mem_append, mem_hds s a, mem_hdss r a]
    constructor
    · rintro (⟨w, u, h⟩ | ⟨w, u, h⟩)
      · exact ⟨w, u, .inl h⟩
      · exact ⟨w, u, .inr h⟩
    · rintro ⟨w, u, h | h⟩
      · exact .inl ⟨w, u, h⟩
      · exact .inr ⟨w, u, h⟩
end
def ltR : PyData → Option Str
  | .tuple [.str w, .str a] => if w = "letter" then some a else none
  | _ => none
def hdR : PyData → Option Str
  | .tuple [.str w, .str a, _] => if w = "must" ∨ w = "may" then some a else none
  | _ => none
theorem d_tup (s : Sg) : ∃ r, s.d = .tuple r := by cases s <;> exact ⟨_, rfl⟩
theorem ltR_sg (s : Sg) : ltR s.d = match s with
    | .lt a => some a
    | _ => none := by
  cases s with
  | many w l => cases w <;> rfl
  | mod w h s => cases w <;> rfl
  | lt a => simp [Sg.d, ltR]
  | no s => obtain ⟨r, e⟩ := d_tup s; simp [Sg.d, ltR, e]
  | so s t => obtain ⟨r, e⟩ := d_tup s; simp [Sg.d, ltR, e]
  | tl s t => obtain ⟨r, e⟩ := d_tup s; simp [Sg.d, ltR, e]
theorem hdR_sg (s : Sg) : hdR s.d = match s with
    | .mod _ a _ => some a
    | _ => none := by
  cases s with
  | many w l => cases w <;> rfl
  | mod w h s => cases w <;> simp (config := { decide := true }) [Sg.d, hdR, wMod]
  | so s t => obtain ⟨r, e⟩ := d_tup s; simp [Sg.d, hdR, e]
  | tl s t => obtain ⟨r, e⟩ := d_tup s; simp [Sg.d, hdR, e]
  | no s => obtain ⟨r, e⟩ := d_tup s; simp [Sg.d, hdR, e]
  | lt a => simp [Sg.d, hdR]
theorem letters_ex {s : Sg} (h : s.sok) (hz : s.sz ≤ 90000) (hl : ∃ L : List Str, L.length ≤ 60 ∧ ∀ a ∈ lts s, a ∈ L) : ∃ xs, TxtsD (lts s) xs ∧ ∀ μ, callF lettersF [.d s.d] μ = .ok (.d (.tuple xs)) μ := by
  obtain ⟨y, ⟨l, rfl, h1, h2⟩, e⟩ := pure_ex (F := everyF) rfl (every_ok h hz)
  obtain ⟨L, hL, hsub⟩ := hl
  obtain ⟨z, ⟨xs, rfl, hx⟩, ez⟩ := pure_ex (F := lettersF) (ws := [.d s.d]) (xs := [s.d]) (P := fun y => ∃ xs, y = .tuple xs ∧ TxtsD (lts s) xs) rfl (by
    simp [lettersF, lettersB, e, ok_dSortSc]
    refine sc_pure (s := (Sg.ds l, none)) (xs := Sg.ds l) ltR L hL rfl trivial (fun x hx => ?_) (fun x hx a ha => ?_) fun m hn hm => ?_
    · obtain ⟨t, ht, rfl⟩ := mem_ds.mp hx
      refine ⟨_, rfl, ?_⟩
      rw [ltR_sg]
      cases t with
      | lt a => simp (config := { decide := true }) [wipeE, Sg.w, Sg.d]
      | many w l => cases w <;> simp (config := { decide := true }) [wipeE, Sg.w, wMany]
      | mod w h s => cases w <;> simp (config := { decide := true }) [wipeE, Sg.w, wMod]
      | _ => simp (config := { decide := true }) [wipeE, Sg.w]
    · obtain ⟨t, ht, rfl⟩ := mem_ds.mp hx
      rw [ltR_sg] at ha
      cases t with
      | lt b => cases ha; exact hsub _ ((mem_lts s _).mpr ((h1 _).mp ht))
      | _ => cases ha
    · have hmem : ∀ a, a ∈ m ↔ a ∈ lts s := fun a => by
        rw [hm, mem_lts, ← h1]
        constructor
        · rintro ⟨x, hx, hxa⟩
          obtain ⟨t, ht, rfl⟩ := mem_ds.mp hx
          rw [ltR_sg] at hxa
          cases t with
          | lt b => cases hxa; exact ht
          | _ => cases hxa
        · intro ha
          exact ⟨_, mem_ds.mpr ⟨_, ha, rfl⟩, by rw [ltR_sg]⟩
      have hml : m.length ≤ 60 := Nat.le_trans (sub_len hn fun a ha => hsub a ((hmem a).mp ha)) hL
      have hz2 : (sortD (m.map PyData.str)).length ≤ sizeLine := by rw [(sortD_perm _).length_eq, List.length_map]; exact le_size (by omega)
      simp [hz2]
      exact ⟨m, hn, hmem, rfl⟩)
  exact ⟨xs, hx, ez⟩
theorem hands_ex {s : Sg} (h : s.sok) (hz : s.sz ≤ 90000) (hl : ∃ L : List Str, L.length ≤ 60 ∧ ∀ a ∈ hds s, a ∈ L) : ∃ xs, TxtsD (hds s) xs ∧ ∀ μ, callF handsF [.d s.d] μ = .ok (.d (.tuple xs)) μ := by
  obtain ⟨y, ⟨l, rfl, h1, h2⟩, e⟩ := pure_ex (F := everyF) rfl (every_ok h hz)
  obtain ⟨L, hL, hsub⟩ := hl
  obtain ⟨z, ⟨xs, rfl, hx⟩, ez⟩ := pure_ex (F := handsF) (ws := [.d s.d]) (xs := [s.d]) (P := fun y => ∃ xs, y = .tuple xs ∧ TxtsD (hds s) xs) rfl (by
    simp [handsF, handsB, e, ok_dSortSc]
    refine sc_pure (s := (Sg.ds l, none)) (xs := Sg.ds l) hdR L hL rfl trivial (fun x hx => ?_) (fun x hx a ha => ?_) fun m hn hm => ?_
    · obtain ⟨t, ht, rfl⟩ := mem_ds.mp hx
      refine ⟨_, rfl, ?_⟩
      rw [hdR_sg]
      cases t with
      | many w l => cases w <;> simp (config := { decide := true }) [wipeE, Sg.w, wMany]
      | mod w h s => cases w <;> simp (config := { decide := true }) [wipeE, Sg.w, wMod, Sg.d]
      | _ => simp (config := { decide := true }) [wipeE, Sg.w]
    · obtain ⟨t, ht, rfl⟩ := mem_ds.mp hx
      rw [hdR_sg] at ha
      cases t with
      | mod w b u => cases ha; exact hsub _ ((mem_hds s _).mpr ⟨w, u, (h1 _).mp ht⟩)
      | _ => cases ha
    · have hmem : ∀ a, a ∈ m ↔ a ∈ hds s := fun a => by
        rw [hm, mem_hds]
        constructor
        · rintro ⟨x, hx, hxa⟩
          obtain ⟨t, ht, rfl⟩ := mem_ds.mp hx
          rw [hdR_sg] at hxa
          cases t with
          | mod w b u => cases hxa; exact ⟨w, u, (h1 _).mp ht⟩
          | _ => cases hxa
        · rintro ⟨w, u, ha⟩
          exact ⟨_, mem_ds.mpr ⟨_, (h1 _).mpr ha, rfl⟩, by rw [hdR_sg]⟩
      have hml : m.length ≤ 60 := Nat.le_trans (sub_len hn fun a ha => hsub a ((hmem a).mp ha)) hL
      have hz2 : (sortD (m.map PyData.str)).length ≤ sizeLine := by rw [(sortD_perm _).length_eq, List.length_map]; exact le_size (by omega)
      simp [hz2]
      exact ⟨m, hn, hmem, rfl⟩)
  exact ⟨xs, hx, ez⟩
end Mok05
set_option autoImplicit false
namespace Mok05
variable [Wd]
open PySem PySem.Spec PyProof.Rows L2
open PySem.W (dataLt)
open Classical in
noncomputable def vOf : List Sg → List Bool → Sg → Bool
  | a :: A, t :: ts, s => if s = a then t else vOf A ts s
  | _, _, _ => false
structure AtA (A : List Sg) : Prop where
  nodup : A.Nodup
  sok : ∀ a ∈ A, a.sok
  at_ : ∀ a ∈ A, a.atom = true
  few : A.length ≤ 100000
section
variable {μ : Mem} {Pw : W → Mem → Prop}
end
end Mok05
set_option autoImplicit false
namespace Mok05
variable [Wd]
open PySem PySem.Spec PyProof.Rows L2
section
variable {prog : Program} {w : World} {A : Around} {E : Value → Shared → Prop} {s : Shared}
end
end Mok05
set_option autoImplicit false
namespace Mok05
variable [Wd]
open PySem PySem.Spec PyProof.Rows L2
section
variable {prog : Program} {w : World} {A : Around} {E : Value → Shared → Prop} {R : Result → Shared → Prop}
end
end Mok05
set_option autoImplicit false
set_option maxHeartbeats 1000000
namespace Mok05
variable [Wd]
open PySem PySem.Spec PyProof.Rows L2
section
variable {prog : Program} {w : World} {A : Around} {E : Value → Shared → Prop} {s : Shared}
end
end Mok05
set_option autoImplicit false
namespace Mok05
variable [Wd]
open PySem PySem.Spec PyProof.Rows L2
section
variable {X : Cx} {pins : List (Addr × Obj)} {σ : L2.St} {H : Hp} {s : Shared}
end
def zipD (xs ys : List PyData) : List PyData := List.zipWith (fun x y => .tuple [x, y]) xs ys
section
variable {X : Cx} {ct : Ct} {Z : WX}
end
section
variable {μ : Mem} {Pw : W → Mem → Prop}
end
end Mok05
set_option autoImplicit false
namespace Mok05
variable [Wd]
open PySem PySem.Spec PyProof.Rows L2
def opBool : Op
  | [.d (.int i)], μ => pB (i != 0) μ
  | [.d (.bool b)], μ => pB b μ
  | _, _ => none
def opBits : Op
  | [.d (.int i)], μ => pI (Builtin.Int.intBits i : Nat) μ
  | _, _ => none
section
variable {X : Cx} {ct : Ct} {Z : WX}
end
section
variable {μ : Mem} {Pw : W → Mem → Prop}
@[simp] theorem okO_booli {i : Int} : OkO (opBool [.d (.int i)] μ) Pw = Pw (.d (.bool (i != 0))) μ := rfl
@[simp] theorem okO_boolb {b : Bool} : OkO (opBool [.d (.bool b)] μ) Pw = Pw (.d (.bool b)) μ := rfl
@[simp] theorem okO_bits {i : Int} : OkO (opBits [.d (.int i)] μ) Pw = Pw (.d (.int (Builtin.Int.intBits i : Nat))) μ := rfl
end
end Mok05
set_option autoImplicit false
namespace Mok05
variable [Wd]
open PySem PySem.Spec PyProof.Rows L2
mutual
def outs : Sg → List Sg
  | .lt x => [.lt x]
  | .no s => outs s
  | .many _ l => outss l
  | .so a b => outs a ++ outs b
  | .tl a b => outs a ++ outs b
  | .mod false x s => [.mod false x s]
  | .mod true _ s => outs s
def outss : List Sg → List Sg
  | [] => []
  | s :: l => outs s ++ outss l
end
end Mok05
set_option autoImplicit false
namespace Mok05
variable [Wd]
open PySem PySem.Spec PyProof.Rows L2
section
variable {μ : Mem} {Pw : W → Mem → Prop}
end
def rowB (n i : Nat) : List Bool := (List.range n).map fun j => i.testBit (n - 1 - j)
noncomputable def wv (A : List Sg) (i : Nat) (a : Sg) : Bool := vOf A (rowB A.length i) a
end Mok05
set_option autoImplicit false
namespace Mok05
variable [Wd]
open PySem PySem.Spec PyProof.Rows L2
section
variable {n : Nat} {A : List Sg} {vs : Nat → Sg → Bool} {μ : Mem} {k : Nat}
end
structure Cg (A : List Sg) (c : Sg) : Prop where
  ht : c.ht < 60
  sok : c.sok
  dep : c.d.depth ≤ 64
  co : Co A c
section
variable {n : Nat} {A : List Sg} {vs : Nat → Sg → Bool} {μ : Mem} {k : Nat}
end
end Mok05
set_option autoImplicit false
namespace Mok05
variable [Wd]
open PySem PySem.Spec PyProof.Rows L2
noncomputable def parts (A : List Sg) (l : List Sg) (s : Sg) (ts : List Bool) : Bool := !ev (vOf A ts) (core s) && l.all fun x => ev (vOf A ts) (core x)
theorem datas_snoc (y : PyData) : ∀ xs : List PyData, datas (xs.map W.d ++ [.d y]) = some (xs ++ [y])
  | [] => rfl
  | x :: r => by simp [datas, datas_snoc y r]
end Mok05
set_option autoImplicit false
namespace Mok05
variable [Wd]
open PySem PySem.Spec PyProof.Rows L2
section
variable {n : Nat} {l A : List Sg} {s : Sg}
end
end Mok05
set_option autoImplicit false
namespace Mok05
variable [Wd]
open PySem PySem.Spec PyProof.Rows L2
def iZp : List W → Mem → Res Src
  | [.d (.list xs), .d (.list ys)], μ => .ok (zipD xs ys, none) μ
  | [.d (.tuple xs), .d (.tuple ys)], μ => .ok (zipD xs ys, none) μ
  | [.d (.tuple xs), .d (.list ys)], μ => .ok (zipD xs ys, none) μ
  | [.d (.list xs), .d (.tuple ys)], μ => .ok (zipD xs ys, none) μ
  | _, _ => .bad
section
variable {X : Cx} {ct : Ct} {Z : WX}
end
section
variable {μ : Mem} {Ps : Src → Mem → Prop}
@[simp] theorem ok_iZl {xs ys : List PyData} : Ok (iZp [.d (.list xs), .d (.list ys)] μ) Ps = Ps (zipD xs ys, none) μ := rfl
@[simp] theorem ok_iZtl {xs ys : List PyData} : Ok (iZp [.d (.tuple xs), .d (.list ys)] μ) Ps = Ps (zipD xs ys, none) μ := rfl
@[simp] theorem ok_iZlt {xs ys : List PyData} : Ok (iZp [.d (.list xs), .d (.tuple ys)] μ) Ps = Ps (zipD xs ys, none) μ := rfl
@[simp] theorem ok_iZt {xs ys : List PyData} : Ok (iZp [.d (.tuple xs), .d (.tuple ys)] μ) Ps = Ps (zipD xs ys, none) μ := rfl
end
end Mok05
set_option autoImplicit false
namespace Mok05
variable [Wd]
open PySem PySem.Spec PyProof.Rows L2
section
variable {K : PySem.W.Frag} {D : Addr} {h0 : List Addr} {m m' : Ms} {H H' : Hp} {acc : List PyData} {μ : Mem}
end
section
variable {X : Cx} {ct : Ct} {Z : WX}
end
section
variable {X : Cx} {ct : Ct} {Z : WX} {scope : Scope} {own : List (Str × Nat)} {tg iter kx vx : Expr} {ifs : List Expr} {pos : Pos} {di : DI} {g : PyData → Env → Option Env} {us : List Nat} {dt : DT} {dk dv : DE}
end
section
variable {ρ : Env} {μ : Mem} {Pw : W → Mem → Prop} {Pa : List PyData → Mem → Prop}
end
end Mok05
set_option autoImplicit false
namespace Mok05
variable [Wd]
open PySem PySem.Spec PyProof.Rows L2
section
variable {X : Cx} {ct : Ct} {Z : WX}
end
section
variable {μ : Mem} {Pw : W → Mem → Prop}
end
end Mok05
set_option autoImplicit false
namespace Mok05
variable [Wd]
open PySem PySem.Spec PyProof.Rows L2
section
variable {prog : Program} {w : World} {A : Around} {E : Value → Shared → Prop} {s : Shared}
end
section
variable {prog : Program} {w : World} {A : Around} {E : Value → Shared → Prop} {s : Shared}
end
end Mok05
set_option autoImplicit false
namespace Mok05
variable [Wd]
open PySem PySem.Spec PyProof.Rows L2
section
variable {X : Cx} {ct : Ct} {Z : WX}
end
section
variable {μ : Mem} {Ps : Src → Mem → Prop}
end
end Mok05
set_option autoImplicit false
namespace Mok05
variable [Wd]
open PySem PySem.Spec PyProof.Rows L2
def natsD (l : List Nat) : List PyData := l.map fun i => .int (i : Nat)
end Mok05
set_option autoImplicit false
namespace Mok05
variable [Wd]
open PySem PySem.Spec PyProof.Rows L2
structure Web where
  n : Nat
  st : List (Str × List (Nat × Nat))
  le : List (Str × List Nat)
def pairD (p : Nat × Nat) : PyData := .tuple [.int (p.1 : Nat), .int (p.2 : Nat)]
def look {α : Type} : List (Str × List α) → Str → List α
  | [], _ => []
  | (y, xs) :: r, x => if y = x then xs else look r x
theorem map_split {α β : Type} {f : α → β} : ∀ {l : List α} {done r : List β} {x : β}, done ++ x :: r = l.map f → ∃ l1 y l2, l = l1 ++ y :: l2 ∧ done = l1.map f ∧ x = f y ∧ r = l2.map f
  | [], done, r, x, e => by simp at e
  | s :: l, [], r, x, e => by
    simp only [List.map_cons, List.nil_append, List.cons.injEq] at e
    exact ⟨[], s, l, rfl, rfl, e.1, e.2⟩
  | s :: l, d :: done, r, x, e => by
    simp only [List.map_cons, List.cons_append, List.cons.injEq] at e
    obtain ⟨l1, y, l2, rfl, rfl, h1, h2⟩ := map_split e.2
    exact ⟨s :: l1, y, l2, rfl, by simp [e.1], h1, h2⟩
def ledBy (ps : List (Nat × Nat)) (g : Nat → Bool) (i : Nat) : Bool := ps.any fun p => decide (p.1 = i) && g p.2
def lead (w : Web) (h : Str) (g : Nat → Bool) : Nat → Bool := ledBy (look w.st h) g
end Mok05
set_option autoImplicit false
namespace Mok05
variable [Wd]
open PySem PySem.Spec PyProof.Rows L2
section
variable {μ : Mem} {Pw : W → Mem → Prop}
end
end Mok05
set_option autoImplicit false
namespace Mok05
variable [Wd]
open PySem PySem.Spec PyProof.Rows L2
section
variable {w : Web} {f : Nat → Bool}
end
end Mok05
set_option autoImplicit false
namespace Mok05
variable [Wd]
open PySem PySem.Spec PyProof.Rows L2
section
variable {w : Web} {f : Nat → Bool}
end
end Mok05
set_option autoImplicit false
namespace Mok05
variable [Wd]
open PySem PySem.Spec PyProof.Rows L2
section
variable {w : Web} {f : Nat → Bool}
end
end Mok05
set_option autoImplicit false
namespace Mok05
variable [Wd]
open PySem PySem.Spec PyProof.Rows L2
end Mok05
set_option autoImplicit false
namespace Mok05
variable [Wd]
open PySem PySem.Spec PyProof.Rows L2
end Mok05
set_option autoImplicit false
namespace Mok05
variable [Wd]
open PySem PySem.Spec PyProof.Rows L2
section
variable {w : Web} {s : Sg}
end
end Mok05
set_option autoImplicit false
namespace Mok05
variable [Wd]
open PySem PySem.Spec PyProof.Rows L2
mutual
def beh (t : Sg) : Sg → Sg
  | .lt x => .so t (.lt x)
  | .no s => .so t (.no (beh t s))
  | .many w l => if w = true then .so t (.many w (behs t l)) else .many w (behs t l)
  | .so a b => .so (beh t a) (beh t b)
  | .tl a b => .so t (.tl (beh t a) (beh t b))
  | .mod w h s => if w = true then .so t (.mod w h (.many false [t, beh t s])) else .so t (.mod w h (beh t s))
def behs (t : Sg) : List Sg → List Sg
  | [] => []
  | s :: r => beh t s :: behs t r
end
mutual
def tout : Sg → Sg
  | .lt x => .lt x
  | .no s => .no (tout s)
  | .many w l => .many w (touts l)
  | .so a b => .so (tout a) (tout b)
  | .tl a b => beh (tout a) (tout b)
  | .mod w h s => .mod w h (tout s)
def touts : List Sg → List Sg
  | [] => []
  | s :: r => tout s :: touts r
end
end Mok05
set_option autoImplicit false
namespace Mok05
variable [Wd]
open PySem PySem.Spec PyProof.Rows L2
end Mok05
set_option autoImplicit false
namespace Mok05
variable [Wd]
open PySem PySem.Spec PyProof.Rows L2
noncomputable def B_said_behind (self : Fn) : DS := (sSeq (sSet 2 (dP2 opIxA (dV 0) (dC (.int 0))))
  (sSeq (sSet 3 (dPn opTu (dCons (dLc false (dI iV (dCall innerF [] (dCons (dV 0) dNil))) (gN 5) dYes (dCall self [] (dCons (dV 5) (dCons (dV 1) dNil))) [5]) dNil)))
  (sSeq (sIf (dTb (dP2 (opEq false) (dV 2) (dC (.str "may"))))
  (sRet (dPn opTup (dCons (dC (.str "so")) (dCons (dV 1) (dCons (dPn opTup (dCons (dC (.str "may")) (dCons (dP2 opIxA (dV 0) (dC (.int 1))) (dCons (dPn opTup (dCons (dC (.str "and")) (dCons (dPn opTup (dCons (dV 1) (dCons (dP2 opIxA (dV 3) (dC (.int 0))) dNil))) dNil))) dNil)))) dNil))))) sNext)
  (sSeq (sSet 4 (dCall withF [] (dCons (dV 0) (dCons (dV 3) dNil))))
  (sSeq (sIf (dTb (dP2 (opInA false) (dV 2) (dPn opTup (dCons (dC (.str "and")) (dCons (dC (.str "so")) dNil)))))
  (sRet (dV 4)) sNext)
  (sRet (dPn opTup (dCons (dC (.str "so")) (dCons (dV 1) (dCons (dV 4) dNil))))))))))
noncomputable def F_said_behind : Nat → Fn
  | 0 => fun _ _ => .bad
  | n + 1 => fnF 2 6 (B_said_behind (F_said_behind n))
noncomputable def B_told_out (self : Fn) : DS := (sSeq (sSet 1 (dPn opTu (dCons (dLc false (dI iV (dCall innerF [] (dCons (dV 0) dNil))) (gN 2) dYes (dCall self [] (dCons (dV 2) dNil)) [2]) dNil)))
  (sSeq (sIf (dTb (dP2 (opEq false) (dP2 opIxA (dV 0) (dC (.int 0))) (dC (.str "told"))))
  (sRet (dCall (F_said_behind 40) [] (dCons (dP2 opIxA (dV 1) (dC (.int 1))) (dCons (dP2 opIxA (dV 1) (dC (.int 0))) dNil)))) sNext)
  (sRet (dCall withF [] (dCons (dV 0) (dCons (dV 1) dNil))))))
noncomputable def F_told_out : Nat → Fn
  | 0 => fun _ _ => .bad
  | n + 1 => fnF 1 3 (B_told_out (F_told_out n))
noncomputable def B_is_word : DS := (sSeq (sIf (dOr (dNot (dTv (dP1 (opIsi "str") (dV 0)))) (dNot (dTb (dChain opLeT opLeT (dC (.int 1)) (dPn (orO opLen opLenD) (dCons (dV 0) dNil)) (dC (.int 8))))))
  (sRet (dC (.bool false))) sNext)
  (sRet (dPn opAll (dCons (dLc false (dI iVs (dV 0)) (gN 1) dYes (dChain opLeT opLeT (dC (.str "a")) (dV 1) (dC (.str "z"))) [1]) dNil))))
noncomputable def F_is_word : Fn := fnF 1 2 B_is_word
noncomputable def B_things_within_pair : DS := (sSeq (sIf (dAnd (dTb (dP2 (opEq false) (dV 0) (dC (.str "letter")))) (dTv (dCall F_is_word [] (dCons (dV 1) dNil))))
  (sRet (dPn opTup dNil)) sNext)
  (sSeq (sIf (dTb (dP2 (opEq false) (dV 0) (dC (.str "not"))))
  (sRet (dPn opTup (dCons (dV 1) dNil))) sNext)
  (sSeq (sIf (dAnd (dTb (dP2 (opInA false) (dV 0) (dPn opTup (dCons (dC (.str "and")) (dCons (dC (.str "or")) dNil))))) (dTv (dP1 (opIsi "tuple") (dV 1))))
  (sRet (dV 1)) sNext)
  (sRet (dC .none)))))
noncomputable def F_things_within_pair : Fn := fnF 2 2 B_things_within_pair
noncomputable def B_things_within : DS := (sSeq (sIf (dOr (dNot (dTv (dP1 (opIsi "tuple") (dV 0)))) (dTb (dP2 (opInA true) (dPn (orO opLen opLenD) (dCons (dV 0) dNil)) (dPn opTup (dCons (dC (.int 2)) (dCons (dC (.int 3)) dNil))))))
  (sRet (dC .none)) sNext)
  (sSeq (sSet 2 (dP2 opIxA (dV 0) (dC (.int 0))))
  (sSeq (sIf (dTb (dP2 (opEq false) (dPn (orO opLen opLenD) (dCons (dV 0) dNil)) (dC (.int 2))))
  (sRet (dCall F_things_within_pair [] (dCons (dV 2) (dCons (dP2 opIxA (dV 0) (dC (.int 1))) dNil)))) sNext)
  (sSeq (sIf (dOr (dTb (dP2 (opEq false) (dV 2) (dC (.str "so")))) (dAnd (dTb (dP2 (opEq false) (dV 2) (dC (.str "told")))) (dTv (dV 1))))
  (sRet (dSl false (dV 0) (dPart (dC (.int 1))) dNo)) sNext)
  (sSeq (sIf (dAnd (dTb (dP2 (opInA false) (dV 2) (dPn opTup (dCons (dC (.str "must")) (dCons (dC (.str "may")) dNil))))) (dTv (dCall F_is_word [] (dCons (dP2 opIxA (dV 0) (dC (.int 1))) dNil))))
  (sRet (dSl false (dV 0) (dPart (dC (.int 2))) dNo)) sNext)
  (sRet (dC .none)))))))
noncomputable def F_things_within : Fn := fnF 2 3 B_things_within
noncomputable def B_is_built : DS := (sSeq (sSet 2 (dPn (opLst true) (dCons (dV 0) dNil)))
  (sSeq (whl (dTv (dV 2))
  (sSeq (sSet 3 (dCall F_things_within [] (dCons (dMt "list" opPop (dV 2) dNil) (dCons (dV 1) dNil))))
  (sSeq (sIf (dTb (dP2 (opIs false) (dV 3) (dC .none)))
  (sRet (dC (.bool false))) sNext)
  (sExpr (dMt "list" opExtend (dV 2) (dCons (dV 3) dNil))))) 100000)
  (sRet (dC (.bool true)))))
noncomputable def F_is_built : Fn := fnF 2 4 B_is_built
noncomputable def B_is_plain_saying : DS := (sRet (dCall F_is_built [] (dCons (dV 0) (dCons (dC (.bool false)) dNil))))
noncomputable def F_is_plain_saying : Fn := fnF 1 1 B_is_plain_saying
end Mok05
set_option autoImplicit false
namespace Mok05
variable [Wd]
open PySem PySem.Spec PyProof.Rows L2
theorem behs_map (t : Sg) : ∀ l, behs t l = l.map (beh t)
  | [] => rfl
  | s :: r => by rw [behs, behs_map t r]; rfl
theorem touts_map : ∀ l, touts l = l.map tout
  | [] => rfl
  | s :: r => by rw [touts, touts_map r]; rfl
mutual
def Sg.A : Sg → Nat
  | .lt _ => 1
  | .no s => s.A + 1
  | .many w l => Sg.As l + (if w = true then 1 else 0)
  | .so a b => a.A + b.A
  | .tl a b => a.A + b.A + 1
  | .mod w _ s => s.A + (if w = true then 2 else 1)
def Sg.As : List Sg → Nat
  | [] => 0
  | s :: r => s.A + Sg.As r
end
mutual
def Sg.q : Sg → Nat
  | .lt _ => 1
  | .no s => s.q + 1
  | .many _ l => Sg.qs l + 1
  | .so a b => a.q + b.q + 1
  | .tl a b => a.q + b.q + 1
  | .mod w _ s => s.q + (if w = true then 2 else 1)
def Sg.qs : List Sg → Nat
  | [] => 0
  | s :: r => s.q + Sg.qs r
end
mutual
def Sg.pa : Sg → Nat
  | .lt _ => 1
  | .no s => s.pa + 1
  | .many w l => Sg.pas l + (if w = true then 1 else 0)
  | .so a b => max a.pa b.pa
  | .tl a b => max a.pa b.pa + 1
  | .mod _ _ s => s.pa + 1
def Sg.pas : List Sg → Nat
  | [] => 0
  | s :: r => max s.pa (Sg.pas r)
end
section
variable (t : Sg)
mutual
theorem beh_q : ∀ s : Sg, s.pl → (beh t s).q ≤ s.q + s.A * (t.q + 2)
  | .lt _, _ => by simp only [beh, Sg.A, Sg.q, Nat.one_mul]; omega
  | .no s, h => by have := beh_q s h; simp only [beh, Sg.A, Sg.q, Nat.add_mul, Nat.one_mul]; omega
  | .many w l, h => by have := beh_qs l h; cases w <;> simp only [beh, Sg.A, Sg.q, if_true, Bool.false_eq_true, if_false, Nat.add_mul, Nat.one_mul, Nat.zero_mul] <;> omega
  | .so a b, h => by have := beh_q a h.1; have := beh_q b h.2; simp only [beh, Sg.A, Sg.q, Nat.add_mul]; omega
  | .tl a b, h => h.elim
  | .mod w x s, h => by have := beh_q s h; cases w <;> simp only [beh, Sg.A, Sg.q, Sg.qs, if_true, Bool.false_eq_true, if_false, Nat.add_mul, Nat.one_mul] <;> omega
theorem beh_qs : ∀ l : List Sg, Sg.pls l → Sg.qs (behs t l) ≤ Sg.qs l + Sg.As l * (t.q + 2)
  | [], _ => by simp [behs, Sg.qs]
  | s :: r, h => by have := beh_q s h.1; have := beh_qs r h.2; simp only [behs, Sg.qs, Sg.As, Nat.add_mul]; omega
end
mutual
theorem beh_sok (ht : t.sok) : ∀ s : Sg, s.sok → (beh t s).sok
  | .lt _, h => ⟨ht, h⟩
  | .no s, h => ⟨ht, beh_sok ht s h⟩
  | .many w l, h => by
    have a := beh_soks ht l h.1
    have b : (behs t l).length ≤ 1000 := by rw [behs_map, List.length_map]; exact h.2
    cases w
    · exact ⟨a, b⟩
    · exact ⟨ht, a, b⟩
  | .so a b, h => ⟨beh_sok ht a h.1, beh_sok ht b h.2⟩
  | .tl a b, h => ⟨ht, beh_sok ht a h.1, beh_sok ht b h.2⟩
  | .mod w x s, h => by
    have a := beh_sok ht s h.2
    cases w
    · exact ⟨ht, h.1, a⟩
    · exact ⟨ht, h.1, ⟨ht, a, trivial⟩, by simp⟩
theorem beh_soks (ht : t.sok) : ∀ l : List Sg, Sg.soks l → Sg.soks (behs t l)
  | [], _ => trivial
  | s :: r, h => ⟨beh_sok ht s h.1, beh_soks ht r h.2⟩
end
mutual
theorem beh_pl (ht : t.pl) : ∀ s : Sg, s.pl → (beh t s).pl
  | .lt _, _ => ⟨ht, trivial⟩
  | .no s, h => ⟨ht, beh_pl ht s h⟩
  | .many w l, h => by
    have a := beh_pls ht l h
    cases w
    · exact a
    · exact ⟨ht, a⟩
  | .so a b, h => ⟨beh_pl ht a h.1, beh_pl ht b h.2⟩
  | .tl a b, h => h.elim
  | .mod w x s, h => by
    have a := beh_pl ht s h
    cases w
    · exact ⟨ht, a⟩
    · exact ⟨ht, ht, a, trivial⟩
theorem beh_pls (ht : t.pl) : ∀ l : List Sg, Sg.pls l → Sg.pls (behs t l)
  | [], _ => trivial
  | s :: r, h => ⟨beh_pl ht s h.1, beh_pls ht r h.2⟩
end
end
mutual
theorem tout_sok : ∀ s : Sg, s.sok → (tout s).sok ∧ (tout s).pl
  | .lt _, h => ⟨h, trivial⟩
  | .no s, h => tout_sok s h
  | .many w l, h => by
    have a := tout_soks l h.1
    exact ⟨⟨a.1, by rw [touts_map, List.length_map]; exact h.2⟩, a.2⟩
  | .so a b, h => ⟨⟨(tout_sok a h.1).1, (tout_sok b h.2).1⟩, (tout_sok a h.1).2, (tout_sok b h.2).2⟩
  | .tl a b, h => ⟨beh_sok _ (tout_sok a h.1).1 _ (tout_sok b h.2).1, beh_pl _ (tout_sok a h.1).2 _ (tout_sok b h.2).2⟩
  | .mod w x s, h => ⟨⟨h.1, (tout_sok s h.2).1⟩, (tout_sok s h.2).2⟩
theorem tout_soks : ∀ l : List Sg, Sg.soks l → Sg.soks (touts l) ∧ Sg.pls (touts l)
  | [], _ => ⟨trivial, trivial⟩
  | s :: r, h => ⟨⟨(tout_sok s h.1).1, (tout_soks r h.2).1⟩, (tout_sok s h.1).2, (tout_soks r h.2).2⟩
end
theorem beh_ok (t : Sg) : ∀ (n : Nat) (s : Sg), s.ht < n → s.sok → Ok (F_said_behind n [.d s.d, .d t.d] []) fun w _ => w = .d (beh t s).d := by
  intro n
  induction n with
  | zero => intro s h; omega
  | succ n ih =>
    intro s hn hs
    have each : ∀ x ∈ s.inn, callF (F_said_behind n) [.d x.d, .d t.d] [] = .ok (.d (beh t x).d) [] := fun x hx => call_pure rfl (ih x (by have := inn_ht hx; omega) (inn_sok hx hs))
    have wi := with_eq s (s.inn.map (beh t)) (by simp)
    have hz := inn_len hs
    simp [F_said_behind, B_said_behind, inner_eq, ok_dLc]
    refine each_inner (f := beh t) hz (fun x hx => ?_) ?_
    · simp [wipeE, dCall, dCons, dNil, dV, each x hx]
    refine ⟨by simpa [ds_map] using hz, ?_⟩
    simp only [wi]
    cases s with
    | many w l => cases w <;> simp (config := { decide := true }) [Sg.w, wMany, beh, Sg.wi, Sg.inn, behs_map, Sg.d]
    | mod w x s => cases w <;> simp (config := { decide := true }) [Sg.w, wMod, beh, Sg.wi, Sg.inn, Sg.d, Sg.ds, wMany]
    | _ => simp (config := { decide := true }) [Sg.w, beh, Sg.wi, Sg.inn, Sg.d]
end Mok05
set_option autoImplicit false
namespace Mok05
instance (priority := low) wd0 : Wd := ⟨default, ⟨fun _ _ => 0, { strHash := fun _ => 0, shareClass := fun _ => 0, mergeTok := id, idOf := fun _ => 0, idOfShared := fun _ _ => 0, followText := fun _ => false, idOfImm := fun _ => 0 }⟩, []⟩
variable [Wd]
open PySem PySem.Spec PyProof.Rows L2
section
variable {μ : Mem} {Pw : W → Mem → Prop}
theorem okO_lens {x : Str} (h : x.length ≤ sizeLine) : OkO ((orO opLen opLenD) [.d (.str x)] μ) Pw = Pw (.d (.int x.length)) μ := by
  simp [orO, opLen, sz, h, pI]
end
theorem bet_true {c : Nat} {μ : Mem} {ρ : Env} : dChain opLeT opLeT (dC (.str "a")) (dV 1) (dC (.str "z")) (ρ.set 1 (some (.d (.str ⟨#[c]⟩)))) μ = (if 1 < ρ.length then .ok (.d (.bool (bet c))) μ else .bad) := by
  by_cases h : 1 < ρ.length
  · rw [if_pos h]
    have e : ∀ μ, dV 1 (ρ.set 1 (some (.d (.str ⟨#[c]⟩)))) μ = .ok (.d (.str ⟨#[c]⟩)) μ := fun μ => dV_of (by rw [List.getElem?_set_self h])
    unfold dChain
    simp only [dC, bnd_ok, e]
    unfold bet
    simp only [opLeT, orO, opLe, opCmp, opCmpS, pB, ofO, bnd_ok, asBl]
    by_cases q : (Str.ofString "a").cps.toList ≤ (⟨#[c]⟩ : Str).cps.toList <;> simp [q]
  · rw [if_neg h]
    have e : ∀ μ, dV 1 (ρ.set 1 (some (.d (.str ⟨#[c]⟩)))) μ = .bad := fun μ => by
      unfold dV
      rw [List.getElem?_eq_none (by simp; omega)]
    unfold dChain
    simp only [dC, bnd_ok, e, bnd_bad]
theorem all_bet (l : List Nat) : ((l.map bet).all id) = l.all bet := by
  rw [List.all_map]; rfl
theorem signs_at {x : Str} {j : Nat} {d : PyData} (h : (signs x)[j]? = some d) : ∃ c, x.cps.toList[j]? = some c ∧ d = .str ⟨#[c]⟩ := by
  unfold signs at h
  rw [List.getElem?_map] at h
  obtain ⟨c, h1, h2⟩ := Option.map_eq_some_iff.mp h
  exact ⟨c, h1, h2.symm⟩
theorem is_word_ok {d : PyData} (h : Th 64 1000000 d) (μ : Mem) : Ok (F_is_word [.d d] μ) fun w _ => w = .d (.bool (word d)) := by
  cases d with
  | str x =>
    have hl := h.slen
    have hz : x.length ≤ sizeLine := Nat.le_trans (show x.length ≤ 1000000 by omega) (by decide)
    simp [F_is_word, B_is_word, isi_str h.lay, isS, okO_lens hz]
    by_cases h1 : 1 ≤ (x.length : Int)
    · rw [if_pos h1]
      by_cases h2 : (x.length : Int) ≤ 8
      · rw [if_pos h2, ok_dLc]
        simp
        refine lc_map (xs := signs x) (s := (signs x, none)) (ys := x.cps.toList.map fun c => .bool (bet c)) rfl trivial (by simp [Str.length]) (by rw [signs_len]; exact hz) (fun j d y hd hy => ?_) ?_
        · obtain ⟨c, h3, rfl⟩ := signs_at hd
          rw [List.getElem?_map, h3] at hy
          cases hy
          rw [bet_true]
          exact if_pos (by simp [wipeE])
        · skip
          have e : boolsD (x.cps.toList.map fun c => PyData.bool (bet c)) = some (x.cps.toList.map bet) := by
            rw [← boolsD_map, List.map_map]; rfl
          rw [okO_all e, all_bet]
          have h3 : 1 ≤ x.length := by omega
          have h4 : x.length ≤ 8 := by omega
          simp [word, h3, h4]
      · rw [if_neg h2]
        have h4 : ¬ x.length ≤ 8 := by omega
        simp [word, h4]
    · rw [if_neg h1]
      have h4 : ¬ 1 ≤ x.length := by omega
      simp [word, h4]
  | _ => simp [F_is_word, B_is_word, isi_str h.lay, isS, word]
theorem is_word_eq {d : PyData} (h : Th 64 1000000 d) (μ : Mem) : callF F_is_word [.d d] μ = .ok (.d (.bool (word d))) μ := call_pure rfl (is_word_ok h [])
def TW2 (w x : PyData) : Option (List PyData) := match w with
  | .str v => if v = "letter" then (if word x = true then some [] else none) else if v = "not" then some [x] else if v = "and" ∨ v = "or" then (match x with
    | .tuple ys => some ys
    | _ => none) else none
  | _ => none
def TW3 (t : Bool) (w x y : PyData) : Option (List PyData) := match w with
  | .str v => if v = "so" ∨ (v = "told" ∧ t = true) then some [x, y] else if v = "must" ∨ v = "may" then (if word x = true then some [y] else none) else none
  | _ => none
def TW (t : Bool) : PyData → Option (List PyData)
  | .tuple [w, x] => TW2 w x
  | .tuple [w, x, y] => TW3 t w x y
  | _ => none
theorem mem_wts {y : PyData} : ∀ {xs : List PyData}, y ∈ xs → wt y + 2 ≤ wts xs
  | x :: xs, h => by
    rw [wts]
    rcases List.mem_cons.mp h with rfl | h
    · omega
    · have := mem_wts h; omega
theorem TW_wts {t : Bool} {d : PyData} {ys : List PyData} (h : TW t d = some ys) : wts ys + 1 ≤ wt d := by
  unfold TW at h
  split at h
  · rename_i w x
    simp only [wt.eq_6, wts]
    unfold TW2 at h
    split at h
    · split at h
      · split at h
        · cases h; simp only [wts]; omega
        · cases h
      · split at h
        · cases h; simp only [wts]; omega
        · split at h
          · split at h
            · cases h; simp only [wt.eq_6]; omega
            · cases h
          · cases h
    · cases h
  · rename_i w x y
    simp only [wt.eq_6, wts]
    unfold TW3 at h
    split at h
    · split at h
      · cases h; simp only [wts]; omega
      · split at h
        · split at h
          · cases h; simp only [wts]; omega
          · cases h
        · cases h
    · cases h
  · cases h
def say (t : Bool) (d : PyData) : Bool := match h : TW t d with
  | none => false
  | some ys => ys.attach.all fun ⟨y, hy⟩ => say t y
termination_by wt d
decreasing_by
  have a := TW_wts h
  have b := mem_wts hy
  omega
theorem say_eq (t : Bool) (d : PyData) : say t d = match TW t d with
    | none => false
    | some ys => ys.all (say t) := by
  rw [say]
  split
  · rename_i h; rw [h]
  · rename_i ys h
    rw [h]
    simp
theorem TW_ths {t : Bool} {d : PyData} {ys : List PyData} {D N : Nat} (k : Th D N d) (h : TW t d = some ys) : Ths D N ys := by
  have e := TW_wts h
  have hl := k.len
  unfold TW at h
  split at h
  · rename_i w x
    obtain ⟨q, _, _⟩ := k.items
    obtain ⟨q1, q2⟩ := q.hd
    obtain ⟨q3, q4⟩ := q2.hd
    unfold TW2 at h
    split at h
    · split at h
      · split at h
        · cases h; exact .nil
        · cases h
      · split at h
        · cases h
          exact (Ths.sub q2 (fun y hy => hy) (by omega)).mono (by omega) (Nat.le_refl _)
        · split at h
          · split at h
            · cases h
              obtain ⟨q5, _⟩ := q3.items
              exact q5.mono (by omega) (by omega)
            · cases h
          · cases h
    · cases h
  · rename_i w x y
    obtain ⟨q, _, _⟩ := k.items
    obtain ⟨q1, q2⟩ := q.hd
    unfold TW3 at h
    split at h
    · split at h
      · cases h; exact q2.mono (by omega) (by omega)
      · split at h
        · split at h
          · cases h; exact q2.hd.2.mono (by omega) (by omega)
          · cases h
        · cases h
    · cases h
  · cases h
def twD : Option (List PyData) → PyData
  | none => .none
  | some ys => .tuple ys
theorem eqv_nos {d : PyData} {s : Str} (h : isS d = false) : PyData.eqv d (.str s) = false := by
  cases d <;> first | (simp [PyData.eqv]; done) | simp [isS] at h
theorem eqv_nos' {d : PyData} {s : Str} (h : isS d = false) : PyData.eqv (.str s) d = false := by
  cases d <;> first | (simp [PyData.eqv]; done) | simp [isS] at h
theorem tw2_nos {w x : PyData} (h : isS w = false) : TW2 w x = none := by
  cases w <;> first | rfl | simp [isS] at h
theorem tw3_nos {t : Bool} {w x y : PyData} (h : isS w = false) : TW3 t w x y = none := by
  cases w <;> first | rfl | simp [isS] at h
theorem pair_ok {w x : PyData} (hw : Th 64 1000000 w) (hx : Th 64 1000000 x) (μ : Mem) : Ok (F_things_within_pair [.d w, .d x] μ) fun r _ => r = .d (twD (TW2 w x)) := by
  have sw := hw.shp (Nat.le_refl _)
  by_cases hs : isS w = true
  · obtain ⟨v, rfl⟩ : ∃ v, w = .str v := by cases w <;> first | exact ⟨_, rfl⟩ | simp [isS] at hs
    have hv : PyData.strOk v = true := by simpa using hw.lay
    simp [F_things_within_pair, B_things_within_pair, is_word_eq hx, isi_tup hx.lay, hv, sw, TW2]
    by_cases h1 : v = "letter"
    · subst h1
      cases word x <;> simp (config := { decide := true }) [twD]
    · by_cases h2 : v = "not"
      · subst h2
        simp (config := { decide := true }) [twD]
      · by_cases h3 : v = "and"
        · subst h3
          cases x <;> simp (config := { decide := true }) [twD, isT]
        · by_cases h4 : v = "or"
          · subst h4
            cases x <;> simp (config := { decide := true }) [twD, isT]
          · simp [h1, h2, h3, h4, Ne.symm h3, Ne.symm h4, twD]
  · rw [Bool.not_eq_true] at hs
    simp [F_things_within_pair, B_things_within_pair, is_word_eq hx, isi_tup hx.lay, sw, eqv_nos hs, eqv_nos' hs, tw2_nos hs, twD, bothS]
theorem pair_eq {w x : PyData} (hw : Th 64 1000000 w) (hx : Th 64 1000000 x) (μ : Mem) : callF F_things_within_pair [.d w, .d x] μ = .ok (.d (twD (TW2 w x))) μ := call_pure rfl (pair_ok hw hx [])
theorem within_ok {d : PyData} {t : Bool} (h : Th 64 1000000 d) (μ : Mem) : Ok (F_things_within [.d d, .d (.bool t)] μ) fun r _ => r = .d (twD (TW t d)) := by
  cases d with
  | tuple xs =>
    obtain ⟨hxs, _, _⟩ := h.items
    match xs, hxs with
    | [], _ => simp (config := { decide := true }) [F_things_within, B_things_within, isi_tup h.lay, isT, TW, twD]
    | [_], _ => simp (config := { decide := true }) [F_things_within, B_things_within, isi_tup h.lay, isT, TW, twD]
    | [w, x], hxs =>
      have hw := hxs.hd.1.mono (D' := 64) (N' := 1000000) (by omega) (by omega)
      have hx := hxs.hd.2.hd.1.mono (D' := 64) (N' := 1000000) (by omega) (by omega)
      simp (config := { decide := true }) [F_things_within, B_things_within, isi_tup h.lay, isT, TW, pair_eq hw hx]
    | [w, x, y], hxs =>
      have hw := hxs.hd.1.mono (D' := 64) (N' := 1000000) (by omega) (by omega)
      have hx := hxs.hd.2.hd.1.mono (D' := 64) (N' := 1000000) (by omega) (by omega)
      have sw := hw.shp (Nat.le_refl _)
      by_cases hs : isS w = true
      · obtain ⟨v, rfl⟩ : ∃ v, w = .str v := by cases w <;> first | exact ⟨_, rfl⟩ | simp [isS] at hs
        have hv : PyData.strOk v = true := by simpa using hw.lay
        simp (config := { decide := true }) [F_things_within, B_things_within, isi_tup h.lay, isT, TW, is_word_eq hx, hv, sw, TW3]
        by_cases h1 : v = "so"
        · subst h1
          simp (config := { decide := true }) [twD]
        · by_cases h2 : v = "told"
          · subst h2
            cases t <;> simp (config := { decide := true }) [twD]
          · by_cases h3 : v = "must"
            · subst h3
              cases word x <;> simp (config := { decide := true }) [twD]
            · by_cases h4 : v = "may"
              · subst h4
                cases word x <;> simp (config := { decide := true }) [twD]
              · simp [h1, h2, h3, h4, Ne.symm h3, Ne.symm h4, twD]
      · rw [Bool.not_eq_true] at hs
        simp (config := { decide := true }) [F_things_within, B_things_within, isi_tup h.lay, isT, TW, is_word_eq hx, sw, eqv_nos hs, eqv_nos' hs, tw3_nos hs, twD, bothS]
    | _ :: _ :: _ :: _ :: r, _ =>
      have e1 : ¬ ((2 : Int) = (r.length : Int) + 1 + 1 + 1 + 1) := by omega
      have e2 : ¬ ((3 : Int) = (r.length : Int) + 1 + 1 + 1 + 1) := by omega
      simp (config := { decide := true }) [F_things_within, B_things_within, isi_tup h.lay, isT, TW, twD, e1, e2]
  | _ => simp [F_things_within, B_things_within, isi_tup h.lay, isT, TW, twD]
theorem within_eq {d : PyData} {t : Bool} (h : Th 64 1000000 d) (μ : Mem) : callF F_things_within [.d d, .d (.bool t)] μ = .ok (.d (twD (TW t d))) μ := call_pure rfl (within_ok h [])
theorem ths_snoc {D N : Nat} {r : List PyData} {x : PyData} (h : Ths D N (r ++ [x])) : Ths D N r ∧ Th D N x ∧ wts r + wt x + 2 = wts (r ++ [x]) := by
  refine ⟨h.sub (fun y hy => List.mem_append_left _ hy) ?_, ths_mem h x (by simp), ?_⟩
  · have := h.len
    rw [wts_app] at this
    omega
  · rw [wts_app, wts, wts]
    omega
theorem built_loop (d : PyData) (t b : Bool) : ∀ (n : Nat) (L : List PyData) (e3 : Option W), L.all (say t) = b → wts L < n → Ths 64 500000 L →
    Oks (whl (dTv (dV 2)) (sSeq (sSet 3 (dCall F_things_within [] (dCons (dMt "list" opPop (dV 2) dNil) (dCons (dV 1) dNil))))
  (sSeq (sIf (dTb (dP2 (opIs false) (dV 3) (dC .none)))
  (sRet (dC (.bool false))) sNext)
  (sExpr (dMt "list" opExtend (dV 2) (dCons (dV 3) dNil))))) n [some (.d d), some (.d (.bool t)), some (.r 0), e3] [.l L]) (fun _ _ => b = true) (fun w _ => w = .d (.bool b)) (fun _ _ => False) (fun _ _ => False)
  | 0, L, e3, _, h, _ => by omega
  | n + 1, L, e3, hb, h, hL => by
    rw [oks_whl]
    by_cases hn : L = []
    · subst hn
      have : b = true := by rw [← hb]; rfl
      simp [asB, truth, this]
    · obtain ⟨r, x, rfl⟩ := snoc_of hn
      obtain ⟨h1, h2, h3⟩ := ths_snoc hL
      have hx := h2.mono (D' := 64) (N' := 1000000) (Nat.le_refl _) (by decide)
      have e : (!(r ++ [x]).isEmpty) = true := by simp
      have sx := say_eq t x
      simp [asB, truth, tyW, okO_pop (show ([MO.l (r ++ [x])] : Mem)[0]? = some (.l (r ++ [x])) from rfl), within_eq hx, okO_isNone]
      rw [List.all_append, List.all_cons, List.all_nil, Bool.and_true] at hb
      cases q : TW t x with
      | none =>
        rw [q] at sx
        simp only at sx
        rw [sx, Bool.and_false] at hb
        simp [twD, ← hb]
      | some ys =>
        rw [q] at sx
        simp only at sx
        have hw := TW_wts q
        have hy := TW_ths h2 q
        have hl := hL.len
        have hry : Ths 64 500000 (r ++ ys) := ths_of (fun y hy' => by
          rcases List.mem_append.mp hy' with h | h
          · have := ths_mem h1 y h; exact ⟨this.lay, this.dep, this.shw⟩
          · have := ths_mem hy y h; exact ⟨this.lay, this.dep, this.shw⟩) (by rw [wts_app]; omega)
        have hz : r.length + ys.length ≤ sizeLine := le_million (by have := hry.size; rw [List.length_append] at this; omega)
        simp [twD]
        rw [okO_ext (xs := r) (by rfl) hz]
        exact built_loop d t b n (r ++ ys) (some (.d (.tuple ys))) (by rw [List.all_append, ← sx]; exact hb) (by rw [wts_app]; omega) hry
theorem built_ok {d : PyData} {t : Bool} (h : Th 64 90000 d) (μ : Mem) : Ok (F_is_built [.d d, .d (.bool t)] []) fun r _ => r = .d (.bool (say t d)) := by
  have hd : Ths 64 500000 [d] := (Ths.cons h (Ths.nil (N := 0))).mono (Nat.le_refl _) (by decide)
  have hl := h.len
  simp [F_is_built, B_is_built]
  exact Oks.mono (built_loop d t (say t d) 100000 [d] none (by simp) (by simp only [wts]; omega) hd) (fun _ _ h => by rw [h]) (fun _ _ h => h) (fun _ _ h => h) (fun _ _ h => h)
theorem built_eq {d : PyData} {t : Bool} (h : Th 64 90000 d) (μ : Mem) : callF F_is_built [.d d, .d (.bool t)] μ = .ok (.d (.bool (say t d))) μ := call_pure rfl (built_ok h [])
theorem is_plain_eq {d : PyData} (h : Th 64 90000 d) (μ : Mem) : callF F_is_plain_saying [.d d] μ = .ok (.d (.bool (say false d))) μ := call_pure rfl (by simp [F_is_plain_saying, B_is_plain_saying, built_eq h])
end Mok05
set_option autoImplicit false
namespace Mok05
variable [Wd]
open PySem PySem.Spec PyProof.Rows L2
mutual
def ne : Sg → Prop
  | .lt x => 1 ≤ x.length
  | .no s => ne s
  | .many _ l => nes l
  | .so a b => ne a ∧ ne b
  | .tl a b => ne a ∧ ne b
  | .mod _ h s => 1 ≤ h.length ∧ ne s
def nes : List Sg → Prop
  | [] => True
  | s :: r => ne s ∧ nes r
end
theorem ne_of : ∀ s : Sg, (∀ a ∈ lts s, 1 ≤ a.length) → (∀ a ∈ hds s, 1 ≤ a.length) → ne s :=
  Sg.rec (motive_1 := fun s => (∀ a ∈ lts s, 1 ≤ a.length) → (∀ a ∈ hds s, 1 ≤ a.length) → ne s) (motive_2 := fun l => (∀ a ∈ ltss l, 1 ≤ a.length) → (∀ a ∈ hdss l, 1 ≤ a.length) → nes l)
    (fun x h _ => h x (by simp [lts])) (fun s ih h k => ih h k) (fun w l ih h k => ih h k) (fun a b h1 h2 h k => ⟨h1 (fun x hx => h x (List.mem_append_left _ hx)) (fun x hx => k x (List.mem_append_left _ hx)), h2 (fun x hx => h x (List.mem_append_right _ hx)) (fun x hx => k x (List.mem_append_right _ hx))⟩)
    (fun a b h1 h2 h k => ⟨h1 (fun x hx => h x (List.mem_append_left _ hx)) (fun x hx => k x (List.mem_append_left _ hx)), h2 (fun x hx => h x (List.mem_append_right _ hx)) (fun x hx => k x (List.mem_append_right _ hx))⟩)
    (fun w y s ih h k => ⟨k y (by simp [hds]), ih h fun x hx => k x (List.mem_cons_of_mem _ hx)⟩) (fun _ _ => trivial) (fun s r h1 h2 h k => ⟨h1 (fun x hx => h x (List.mem_append_left _ hx)) (fun x hx => k x (List.mem_append_left _ hx)), h2 (fun x hx => h x (List.mem_append_right _ hx)) (fun x hx => k x (List.mem_append_right _ hx))⟩)
theorem bet_low : ∀ c : Nat, low c = true → bet c = true := by
  intro c h
  have h1 : 97 ≤ c ∧ c ≤ 122 := of_decide_eq_true h
  have main : ∀ k : Nat, k < 26 → bet (97 + k) = true := by decide +kernel
  have := main (c - 97) (by omega)
  rw [show 97 + (c - 97) = c by omega] at this
  exact this
theorem word_sw {x : Str} (h : Sw x) (hn : 1 ≤ x.length) : word (.str x) = true := by
  have h2 : x.length ≤ 8 := by
    have := h.2
    simpa [cp, Str.length] using this
  have h3 : x.cps.toList.all bet = true := List.all_eq_true.mpr fun c hc => bet_low c (low_all h.1 c hc)
  simp [word, hn, h2]
  simpa using h3
mutual
theorem say_sg : ∀ s : Sg, s.pl → s.sok → ne s → say false s.d = true
  | .lt x, _, h, n => by
    rw [say_eq]
    simp (config := { decide := true }) [Sg.d, TW, TW2, word_sw h n]
  | .no s, p, h, n => by
    rw [say_eq]
    simp (config := { decide := true }) [Sg.d, TW, TW2, say_sg s p h n]
  | .many w l, p, h, n => by
    rw [say_eq]
    have := say_sgs l p h.1 n
    cases w <;> simp (config := { decide := true }) [Sg.d, TW, TW2, wMany] <;> exact this
  | .so a b, p, h, n => by
    rw [say_eq]
    simp (config := { decide := true }) [Sg.d, TW, TW3, say_sg a p.1 h.1 n.1, say_sg b p.2 h.2 n.2]
  | .tl a b, p, _, _ => p.elim
  | .mod w x s, p, h, n => by
    rw [say_eq]
    cases w <;> simp (config := { decide := true }) [Sg.d, TW, TW3, wMod, word_sw h.1 n.1, say_sg s p h.2 n.2]
theorem say_sgs : ∀ l : List Sg, Sg.pls l → Sg.soks l → nes l → ∀ y ∈ Sg.ds l, say false y = true
  | [], _, _, _ => by simp [Sg.ds]
  | s :: r, p, h, n => by
    intro y hy
    rcases List.mem_cons.mp hy with rfl | hy
    · exact say_sg s p.1 h.1 n.1
    · exact say_sgs r p.2 h.2 n.2 y hy
end
end Mok05
set_option autoImplicit false
namespace Mok05
variable [Wd]
open PySem PySem.Spec PyProof.Rows L2
open PySem.W (dataLt)
section
open PySem.W
end
theorem cut_tail (xs : List PyData) : cutD xs (some 1) none = xs.tail := by
  cases xs with
  | nil => rfl
  | cons x r => simp
end Mok05
set_option autoImplicit false
namespace Mok05
variable [Wd]
open PySem PySem.Spec PyProof.Rows L2
open PySem.W (dataLt)
end Mok05
set_option autoImplicit false
namespace Mok05
variable [Wd]
open PySem PySem.Spec PyProof.Rows L2
open PySem.W (dataLt)
end Mok05
set_option autoImplicit false
namespace Mok05
variable [Wd]
open PySem PySem.Spec PyProof.Rows L2
open PySem.W (dataLt)
theorem lt_trans {a b c : PyData} (h : cmpOk a c = true) (h1 : dataLt a b = true) (h2 : dataLt b c = true) : dataLt a c = true := by
  cases e : dataLt a c with
  | true => rfl
  | false =>
    have q := lt_tr a b c (lt_asym _ _ h1) (lt_asym _ _ h2)
    have s := same_eq _ _ (lt_total h e q)
    subst s
    rw [lt_asym _ _ h1] at h2
    cases h2
end Mok05
set_option autoImplicit false
namespace Mok05
variable [Wd]
open PySem PySem.Spec PyProof.Rows L2
open PySem.W (dataLt)
end Mok05
set_option autoImplicit false
namespace Mok05
variable [Wd]
open PySem PySem.Spec PyProof.Rows L2
mutual
def Sg.dp : Sg → Nat
  | .lt _ => 1
  | .no s => s.dp + 1
  | .many _ l => Sg.dps l + 2
  | .so a b => max a.dp b.dp + 1
  | .tl a b => max a.dp b.dp + 1
  | .mod _ _ s => s.dp + 1
def Sg.dps : List Sg → Nat
  | [] => 0
  | s :: r => max s.dp (Sg.dps r)
end
mutual
def Sg.pb : Sg → Nat
  | .lt _ => 1
  | .no s => s.pb + 1
  | .many w l => Sg.pbs l + (if w = true then 1 else 0)
  | .so a b => max a.pb b.pb
  | .tl a b => max a.pb b.pb + 1
  | .mod w _ s => s.pb + (if w = true then 3 else 1)
def Sg.pbs : List Sg → Nat
  | [] => 0
  | s :: r => max s.pb (Sg.pbs r)
end
section
variable (t : Sg)
end
mutual
def Sg.un : Sg → Nat
  | .lt _ => 0
  | .no s => s.un + 1
  | .many _ l => Sg.uns l + (if l.length = 1 then 1 else 0)
  | .so a b => a.un + b.un
  | .tl a b => a.un + b.un
  | .mod _ _ s => s.un + 1
def Sg.uns : List Sg → Nat
  | [] => 0
  | s :: r => s.un + Sg.uns r
end
end Mok05
set_option autoImplicit false
namespace Mok05
variable [Wd]
open PySem PySem.Spec PyProof.Rows L2
section
variable (t : Sg)
end
def aT : Nat → Nat
  | 0 => 1
  | 1 => 4
  | 2 => 8
  | _ => 20
end Mok05
set_option autoImplicit false
namespace Mok05
variable [Wd]
open PySem PySem.Spec PyProof.Rows L2
def Rd (s : Sg) : Prop := ∀ a b, Sg.tl a b ∈ allP s → (tout b).ht < 40
theorem Rd.inn {s x : Sg} (h : Rd s) (hx : x ∈ s.inn) : Rd x := fun a b hab => h a b (by
  rw [allP_inn]
  exact List.mem_cons_of_mem _ (mem_allPs.mpr ⟨x, hx, hab⟩))
theorem tout_okR : ∀ (n : Nat) (s : Sg), s.ht < n → Rd s → s.sok → Ok (F_told_out n [.d s.d] []) fun w _ => w = .d (tout s).d := by
  intro n
  induction n with
  | zero => intro s h; omega
  | succ n ih =>
    intro s hn hr hs
    have each : ∀ x ∈ s.inn, callF (F_told_out n) [.d x.d] [] = .ok (.d (tout x).d) [] := fun x hx => call_pure rfl (ih x (by have := inn_ht hx; omega) (hr.inn hx) (inn_sok hx hs))
    have wi := with_eq s (s.inn.map tout) (by simp)
    have hz := inn_len hs
    simp [F_told_out, B_told_out, inner_eq, ok_dLc]
    refine each_inner (f := tout) hz (fun x hx => ?_) ?_
    · simp [wipeE, dCall, dCons, dNil, dV, each x hx]
    refine ⟨by simpa [ds_map] using hz, ?_⟩
    simp only [wi]
    cases s with
    | many w l => cases w <;> simp (config := { decide := true }) [Sg.w, wMany, tout, Sg.wi, Sg.inn, touts_map, Sg.d]
    | mod w x s => cases w <;> simp (config := { decide := true }) [Sg.w, wMod, tout, Sg.wi, Sg.inn, Sg.d]
    | tl a b =>
      have hb := hr a b (by rw [allP_inn]; simp)
      have q : callF (F_said_behind 40) [.d (tout b).d, .d (tout a).d] [] = .ok (.d (beh (tout a) (tout b)).d) [] := call_pure rfl (beh_ok _ _ _ hb (tout_sok b hs.2).1)
      simp (config := { decide := true }) [Sg.w, tout, Sg.inn, Sg.ds, q]
    | _ => simp (config := { decide := true }) [Sg.w, tout, Sg.wi, Sg.inn, Sg.d]
theorem tout_eq {s : Sg} (h : s.ht < 30) (hr : Rd s) (hs : s.sok) (μ : Mem) : callF (F_told_out 30) [.d s.d] μ = .ok (.d (tout s).d) μ := call_pure rfl (tout_okR 30 s h hr hs)
end Mok05
set_option autoImplicit false
namespace Mok05
variable [Wd]
open PySem PySem.Spec PyProof.Rows L2
end Mok05
set_option autoImplicit false
namespace Mok05
variable [Wd]
open PySem PySem.Spec PyProof.Rows L2
section
variable {n : Nat} {x : Str} {K : Int} {μ : Mem} {N B C : Env → Mem → Prop} {R : W → Mem → Prop} {a5 a6 a7 : Option W}
end
end Mok05
set_option autoImplicit false
namespace Mok05
variable [Wd]
open PySem PySem.Spec PyProof.Rows L2
end Mok05
set_option autoImplicit false
namespace Mok05
variable [Wd]
open PySem PySem.Spec PyProof.Rows L2
end Mok05
set_option autoImplicit false
namespace Mok05
variable [Wd]
open PySem PySem.Spec PyProof.Rows L2
end Mok05
set_option autoImplicit false
namespace Mok05
variable [Wd]
open PySem PySem.Spec PyProof.Rows L2
theorem call_feed {ns : List Int} {P : W → Mem → Prop} (hns : ns.length ≤ 63) (q : ∀ xs, Mf 0 [MO.l xs] → P (.r 0) [.l xs]) : Ok (callF feedF [.s ns] []) P := by
  rw [ok_callR rfl]
  refine (feed_ok hns).mono ?_
  rintro w μ' ⟨xs, rfl, rfl, h⟩
  exact q xs ⟨xs, rfl, h⟩
theorem law_of {F : Fn} {ns : List Int} (main : Ok (F [.s ns] []) fun w _ => w = .d (.bool true)) : ∃ μ, F [.s ns] [] = .ok (.d (.bool true)) μ := by
  obtain ⟨w, μ, e, rfl⟩ := main.ex
  exact ⟨μ, e⟩
mutual
def fl : Sg → Prop
  | .lt _ => True
  | .no s => fl s
  | .many _ l => fls l
  | .so a b => fl a ∧ fl b
  | .tl _ _ => False
  | .mod _ _ _ => False
def fls : List Sg → Prop
  | [] => True
  | s :: r => fl s ∧ fls r
end
end Mok05
set_option autoImplicit false
namespace Mok05
variable [Wd]
open PySem PySem.Spec PyProof.Rows L2
def sBad : DS := fun _ _ => .bad
@[simp] theorem oks_sBad {ρ : Env} {μ : Mem} {N B C : Env → Mem → Prop} {R : W → Mem → Prop} : Oks (sBad ρ μ) N R B C = False := rfl
end Mok05
set_option autoImplicit false
namespace Mok05
variable [Wd]
open PySem PySem.Spec PyProof.Rows L2
noncomputable def B_is_saying : DS := (sRet (dCall F_is_built [] (dCons (dV 0) (dCons (dC (.bool true)) dNil))))
noncomputable def F_is_saying : Fn := fnF 1 1 B_is_saying
end Mok05
set_option autoImplicit false
namespace Mok05
variable [Wd]
open PySem PySem.Spec PyProof.Rows L2
theorem is_saying_eq {d : PyData} (h : Th 64 90000 d) (μ : Mem) : callF F_is_saying [.d d] μ = .ok (.d (.bool (say true d))) μ := call_pure rfl (by simp [F_is_saying, B_is_saying, built_eq h])
theorem for_first {ys : List PyData} {g : PyData → Env → Option Env} {b : DS} {ρ : Env} {μ : Mem} {N B C : Env → Mem → Prop} {R : W → Mem → Prop} (I : Env → Prop) (p : Nat → Bool) (h0 : I ρ)
    (step : ∀ k y ρ, ys[k]? = some y → (∀ j, j < k → p j = false) → I ρ → ∃ ρ1, g y ρ = some ρ1 ∧ Oks (b ρ1 μ) (fun ρ2 μ2 => I ρ2 ∧ μ2 = μ ∧ p k = false) R N (fun ρ2 μ2 => I ρ2 ∧ μ2 = μ ∧ p k = false))
    (fin : ∀ ρ, I ρ → (∀ j, j < ys.length → p j = false) → N ρ μ) : Oks (forL (ys, none) g b ys ρ μ) N R B C := by
  refine for_invG (s := (ys, none)) (xs := ys) (fun done ρ μ1 => I ρ ∧ μ1 = μ ∧ ∀ j, j < done.length → p j = false) rfl (fun _ _ _ _ _ => trivial) ⟨h0, rfl, by simp⟩ ?_ ?_
  · rintro done x r ρ μ1 e ⟨h1, rfl, h2⟩
    have hx : ys[done.length]? = some x := by rw [← e]; simp
    obtain ⟨ρ1, h3, h4⟩ := step done.length x ρ hx h2 h1
    refine ⟨ρ1, h3, h4.mono ?_ (fun _ _ h => h) (fun _ _ h => h) ?_⟩ <;>
    · rintro ρ2 μ2 ⟨k1, k2, k3⟩
      refine ⟨k1, k2, fun j hj => ?_⟩
      rw [List.length_append, List.length_singleton] at hj
      by_cases q : j < done.length
      · exact h2 j q
      · have : j = done.length := by omega
        exact this ▸ k3
  · rintro ρ1 μ1 ⟨h1, rfl, h2⟩
    exact fin ρ1 h1 h2
end Mok05
set_option autoImplicit false
namespace Mok05
variable [Wd]
open PySem PySem.Spec PyProof.Rows L2
end Mok05
set_option autoImplicit false
namespace Mok05
variable [Wd]
open PySem PySem.Spec PyProof.Rows L2
mutual
theorem say_sgT : ∀ s : Sg, s.sok → ne s → say true s.d = true
  | .lt x, h, n => by
    rw [say_eq]
    simp (config := { decide := true }) [Sg.d, TW, TW2, word_sw h n]
  | .no s, h, n => by
    rw [say_eq]
    simp (config := { decide := true }) [Sg.d, TW, TW2, say_sgT s h n]
  | .many w l, h, n => by
    rw [say_eq]
    have := say_sgsT l h.1 n
    cases w <;> simp (config := { decide := true }) [Sg.d, TW, TW2, wMany] <;> exact this
  | .so a b, h, n => by
    rw [say_eq]
    simp (config := { decide := true }) [Sg.d, TW, TW3, say_sgT a h.1 n.1, say_sgT b h.2 n.2]
  | .tl a b, h, n => by
    rw [say_eq]
    simp (config := { decide := true }) [Sg.d, TW, TW3, say_sgT a h.1 n.1, say_sgT b h.2 n.2]
  | .mod w x s, h, n => by
    rw [say_eq]
    cases w <;> simp (config := { decide := true }) [Sg.d, TW, TW3, wMod, word_sw h.1 n.1, say_sgT s h.2 n.2]
theorem say_sgsT : ∀ l : List Sg, Sg.soks l → nes l → ∀ y ∈ Sg.ds l, say true y = true
  | [], _, _ => by simp [Sg.ds]
  | s :: r, h, n => by
    intro y hy
    rcases List.mem_cons.mp hy with rfl | hy
    · exact say_sgT s h.1 n.1
    · exact say_sgsT r h.2 n.2 y hy
end
end Mok05
set_option autoImplicit false
namespace Mok05
variable [Wd]
open PySem PySem.Spec PyProof.Rows L2
theorem for_each {ys : List PyData} {g : PyData → Env → Option Env} {b : DS} {ρ : Env} {μ : Mem} {N B C : Env → Mem → Prop} {R : W → Mem → Prop} (I : Env → Prop) (h0 : I ρ)
    (step : ∀ y ∈ ys, ∀ ρ, I ρ → ∃ ρ1, g y ρ = some ρ1 ∧ Oks (b ρ1 μ) (fun ρ2 μ2 => I ρ2 ∧ μ2 = μ) R N (fun ρ2 μ2 => I ρ2 ∧ μ2 = μ))
    (fin : ∀ ρ, I ρ → N ρ μ) : Oks (forL (ys, none) g b ys ρ μ) N R B C :=
  for_first I (fun _ => false) h0 (fun k y ρ hk _ hI => by
    obtain ⟨ρ1, h1, h2⟩ := step y (List.mem_of_getElem? hk) ρ hI
    exact ⟨ρ1, h1, h2.mono (fun _ _ h => ⟨h.1, h.2, rfl⟩) (fun _ _ h => h) (fun _ _ h => h) (fun _ _ h => ⟨h.1, h.2, rfl⟩)⟩) fun ρ h _ => fin ρ h
end Mok05
set_option autoImplicit false
namespace Mok05
variable [Wd]
open PySem PySem.Spec PyProof.Rows L2
end Mok05
set_option autoImplicit false
namespace Mok05
variable [Wd]
open PySem PySem.Spec PyProof.Rows L2
def otherW (z : Str) : Option PyData := if z = "and" then some (.str "or") else if z = "or" then some (.str "and") else if z = "must" then some (.str "may") else if z = "may" then some (.str "must") else none
noncomputable def B_letters_put (self : Fn) : DS := (sSeq (sIf (dTb (dP2 (opEq false) (dP2 opIxA (dV 0) (dC (.int 0))) (dC (.str "letter"))))
  (sSeq (sFor (dI iV (dV 1)) (gT 2 (gCons' (gN 2) (gCons' (gN 3) gNil')))
  (sIf (dTb (dP2 (opEq false) (dV 2) (dP2 opIxA (dV 0) (dC (.int 1)))))
  (sRet (dV 3)) sNext))
  (sRet (dV 0))) sNext)
  (sRet (dCall withF [] (dCons (dV 0) (dCons (dPn opTu (dCons (dLc false (dI iV (dCall innerF [] (dCons (dV 0) dNil))) (gN 4) dYes (dCall self [] (dCons (dV 4) (dCons (dV 1) dNil))) [4]) dNil)) dNil)))))
noncomputable def F_letters_put : Nat → Fn
  | 0 => fun _ _ => .bad
  | n + 1 => fnF 2 5 (B_letters_put (F_letters_put n))
noncomputable def B_in_few_words (self : Fn) : DS := (sSeq (sSet 1 (dPn opTu (dCons (dLc false (dI iV (dCall innerF [] (dCons (dV 0) dNil))) (gN 3) dYes (dCall self [] (dCons (dV 3) dNil)) [3]) dNil)))
  (sSeq (sSet 2 (dP2 opIxA (dV 0) (dC (.int 0))))
  (sSeq (sIf (dTb (dP2 (opEq false) (dV 2) (dC (.str "or"))))
  (sRet (dPn opTup (dCons (dC (.str "not")) (dCons (dPn opTup (dCons (dC (.str "and")) (dCons (dPn opTu (dCons (dLc false (dI iV (dV 1)) (gN 3) dYes (dPn opTup (dCons (dC (.str "not")) (dCons (dV 3) dNil))) [3]) dNil)) dNil))) dNil)))) sNext)
  (sSeq (sIf (dTb (dP2 (opEq false) (dV 2) (dC (.str "so"))))
  (sRet (dPn opTup (dCons (dC (.str "not")) (dCons (dPn opTup (dCons (dC (.str "and")) (dCons (dPn opTup (dCons (dP2 opIxA (dV 1) (dC (.int 0))) (dCons (dPn opTup (dCons (dC (.str "not")) (dCons (dP2 opIxA (dV 1) (dC (.int 1))) dNil))) dNil))) dNil))) dNil)))) sNext)
  (sSeq (sIf (dTb (dP2 (opEq false) (dV 2) (dC (.str "may"))))
  (sRet (dPn opTup (dCons (dC (.str "not")) (dCons (dPn opTup (dCons (dC (.str "must")) (dCons (dP2 opIxA (dV 0) (dC (.int 1))) (dCons (dPn opTup (dCons (dC (.str "not")) (dCons (dP2 opIxA (dV 1) (dC (.int 0))) dNil))) dNil)))) dNil)))) sNext)
  (sRet (dCall withF [] (dCons (dV 0) (dCons (dV 1) dNil)))))))))
noncomputable def F_in_few_words : Nat → Fn
  | 0 => fun _ _ => .bad
  | n + 1 => fnF 1 4 (B_in_few_words (F_in_few_words n))
noncomputable def B_pushed (self : Fn) : DS := (sSeq (sSet 2 (dP2 opIxA (dV 0) (dC (.int 0))))
  (sSeq (sIf (dTb (dP2 (opEq false) (dV 2) (dC (.str "letter"))))
  (sRet (dIf (dTv (dV 1)) (dV 0) (dPn opTup (dCons (dC (.str "not")) (dCons (dV 0) dNil))))) sNext)
  (sSeq (sIf (dTb (dP2 (opEq false) (dV 2) (dC (.str "not"))))
  (sRet (dCall self [] (dCons (dP2 opIxA (dV 0) (dC (.int 1))) (dCons (dNotV (dV 1)) dNil)))) sNext)
  (sSeq (sIf (dTb (dP2 (opEq false) (dV 2) (dC (.str "so"))))
  (sRet (dPn opTup (dCons (dIf (dTv (dV 1)) (dC (.str "or")) (dC (.str "and"))) (dCons (dPn opTup (dCons (dCall self [] (dCons (dP2 opIxA (dV 0) (dC (.int 1))) (dCons (dNotV (dV 1)) dNil))) (dCons (dCall self [] (dCons (dP2 opIxA (dV 0) (dC (.int 2))) (dCons (dV 1) dNil))) dNil))) dNil)))) sNext)
  (sSeq (sSet 3 (dCall withF [] (dCons (dV 0) (dCons (dPn opTu (dCons (dLc false (dI iV (dCall innerF [] (dCons (dV 0) dNil))) (gN 4) dYes (dCall self [] (dCons (dV 4) (dCons (dV 1) dNil))) [4]) dNil)) dNil))))
  (sRet (dIf (dTv (dV 1)) (dV 3) (dPn opTup (dCons (dKD otherW (dV 2)) (dStar (dSl false (dV 3) (dPart (dC (.int 1))) dNo) dNil))))))))))
noncomputable def F_pushed : Nat → Fn
  | 0 => fun _ _ => .bad
  | n + 1 => fnF 2 5 (B_pushed (F_pushed n))
noncomputable def B_pushed_in : DS := (sRet (dCall (F_pushed 30) [] (dCons (dV 0) (dCons (dC (.bool true)) dNil))))
noncomputable def F_pushed_in : Fn := fnF 1 1 B_pushed_in
end Mok05
set_option autoImplicit false
namespace Mok05
variable [Wd]
open PySem PySem.Spec PyProof.Rows L2
mutual
def pu (k : Bool) : Sg → Sg
  | .lt x => if k = true then .lt x else .no (.lt x)
  | .no s => pu (!k) s
  | .many w l => .many (w != !k) (pus k l)
  | .so a b => .many k [pu (!k) a, pu k b]
  | .tl a b => .tl a b
  | .mod w h s => .mod (w != !k) h (pu k s)
def pus (k : Bool) : List Sg → List Sg
  | [] => []
  | s :: r => pu k s :: pus k r
end
mutual
def few : Sg → Sg
  | .lt x => .lt x
  | .no s => .no (few s)
  | .many w l => if w = true then .no (.many false (fewn l)) else .many false (fews l)
  | .so a b => .no (.many false [few a, .no (few b)])
  | .tl a b => .tl a b
  | .mod w h s => if w = true then .no (.mod false h (.no (few s))) else .mod false h (few s)
def fews : List Sg → List Sg
  | [] => []
  | s :: r => few s :: fews r
def fewn : List Sg → List Sg
  | [] => []
  | s :: r => .no (few s) :: fewn r
end
theorem pus_map (k : Bool) : ∀ l, pus k l = l.map (pu k)
  | [] => rfl
  | s :: r => by rw [pus, pus_map k r]; rfl
theorem fews_map : ∀ l, fews l = l.map few
  | [] => rfl
  | s :: r => by rw [fews, fews_map r]; rfl
theorem fewn_map : ∀ l, fewn l = (l.map few).map .no
  | [] => rfl
  | s :: r => by rw [fewn, fewn_map r]; rfl
theorem inn_pl {s x : Sg} (h : x ∈ s.inn) (k : s.pl) : x.pl := by
  cases s with
  | lt _ => cases h
  | no s => rw [List.mem_singleton.mp h]; exact k
  | many w l => exact pls_all.mp k x h
  | so a b =>
    rcases List.mem_cons.mp h with rfl | h
    · exact k.1
    · rw [List.mem_singleton.mp h]; exact k.2
  | tl a b => exact k.elim
  | mod _ _ s => rw [List.mem_singleton.mp h]; exact k
theorem pu_ok : ∀ (n : Nat) (s : Sg) (k : Bool), s.ht < n → s.sok → s.pl → Ok (F_pushed n [.d s.d, .d (.bool k)] []) fun w _ => w = .d (pu k s).d := by
  intro n
  induction n with
  | zero => intro s k h; omega
  | succ n ih =>
    intro s k hn hs hp
    have each : ∀ (k : Bool), ∀ x ∈ s.inn, callF (F_pushed n) [.d x.d, .d (.bool k)] [] = .ok (.d (pu k x).d) [] := fun k x hx => call_pure rfl (ih x k (by have := inn_ht hx; omega) (inn_sok hx hs) (inn_pl hx hp))
    have wi := with_eq s (s.inn.map (pu k)) (by simp)
    have hz := inn_len hs
    cases s with
    | lt x => cases k <;> simp (config := { decide := true }) [F_pushed, B_pushed, Sg.w, pu, asB, truth, truthD, Sg.d]
    | no s =>
      have e := each (!k) s (by simp [Sg.inn])
      cases k <;> simp (config := { decide := true }) [F_pushed, B_pushed, Sg.d, pu] at e ⊢ <;> simp [e]
    | so a b =>
      have e1 := each (!k) a (by simp [Sg.inn])
      have e2 := each k b (by simp [Sg.inn])
      cases k <;> simp (config := { decide := true }) [F_pushed, B_pushed, Sg.d, pu] at e1 e2 ⊢ <;> simp [e1, e2, Sg.ds, wMany]
    | tl a b => exact hp.elim
    | many w l =>
      have hl : l.length ≤ sizeLine := hz
      have hz1 : l.length ≤ 1000 := hs.2
      cases w <;> simp (config := { decide := true }) [F_pushed, B_pushed, Sg.w, wMany, inner_eq, ok_dLc]
      all_goals
        refine each_inner (f := pu k) hz (fun x hx => ?_) ?_
        · simp [wipeE, dCall, dCons, dNil, dV, each k x hx]
        refine ⟨by simpa [ds_map] using hz, ?_⟩
        simp only [wi]
        cases k <;> simp (config := { decide := true }) [Sg.wi, Sg.inn, Sg.d, pu, pus_map, wMany, otherW]
    | mod w y s =>
      cases w <;> simp (config := { decide := true }) [F_pushed, B_pushed, Sg.w, wMod, inner_eq, ok_dLc]
      all_goals
        refine each_inner (f := pu k) hz (fun x hx => ?_) ?_
        · simp [wipeE, dCall, dCons, dNil, dV, each k x hx]
        refine ⟨by simpa [ds_map] using hz, ?_⟩
        simp only [wi]
        cases k <;> simp (config := { decide := true }) [Sg.wi, Sg.inn, Sg.d, pu, wMod, otherW]
theorem each_no {l : List Sg} {i : Nat} {ρ : Env} {μ : Mem} {Pa : List PyData → Mem → Prop} (hz : l.length ≤ sizeLine) (hi : i < ρ.length) (q : Pa (Sg.ds (l.map .no)) μ) :
    Ok (lcL (Sg.ds l, none) (gN i) (lcOne dYes (dPn opTup (dCons (dC (.str "not")) (dCons (dV i) dNil)))) ρ (Sg.ds l) [] μ) Pa := by
  refine each_list (f := .no) hz (fun x hx => ?_) q
  have e : (ρ.set i (some (.d x.d)))[i]? = some (some (.d x.d)) := List.getElem?_set_self hi
  simp [dPn, dCons, dNil, dC, dV_of e, opTup, datas, mkT, sz, Sg.d, ofO]
theorem few_ok : ∀ (n : Nat) (s : Sg), s.ht < n → s.sok → s.pl → Ok (F_in_few_words n [.d s.d] []) fun w _ => w = .d (few s).d := by
  intro n
  induction n with
  | zero => intro s h; omega
  | succ n ih =>
    intro s hn hs hp
    have each : ∀ x ∈ s.inn, callF (F_in_few_words n) [.d x.d] [] = .ok (.d (few x).d) [] := fun x hx => call_pure rfl (ih x (by have := inn_ht hx; omega) (inn_sok hx hs) (inn_pl hx hp))
    have wi := with_eq s (s.inn.map few) (by simp)
    have hz := inn_len hs
    simp [F_in_few_words, B_in_few_words, inner_eq, ok_dLc]
    refine each_inner (f := few) hz (fun x hx => ?_) ?_
    · simp [wipeE, dCall, dCons, dNil, dV, each x hx]
    refine ⟨by simpa [ds_map] using hz, ?_⟩
    cases s with
    | many w l =>
      have hl : l.length ≤ sizeLine := hz
      cases w with
      | true =>
        simp (config := { decide := true }) [Sg.w, wMany, Sg.inn]
        refine each_no (by simpa using hl) (by simp [wipeE]) ?_
        simp (config := { decide := true }) [few, fewn_map, Sg.d, wMany, ds_map]
        exact hl
      | false =>
        simp only [wi]
        simp (config := { decide := true }) [Sg.w, wMany, Sg.inn, Sg.wi, few, fews_map, Sg.d]
    | mod w y s =>
      cases w with
      | true => simp (config := { decide := true }) [Sg.w, wMod, Sg.inn, Sg.ds, few, Sg.d]
      | false =>
        simp only [wi]
        simp (config := { decide := true }) [Sg.w, wMod, Sg.inn, Sg.wi, few, Sg.d]
    | so a b => simp (config := { decide := true }) [Sg.w, Sg.inn, Sg.ds, few, Sg.d, wMany]
    | tl a b => exact hp.elim
    | lt x =>
      simp only [wi]
      simp (config := { decide := true }) [Sg.w, Sg.inn, Sg.wi, few, Sg.d]
    | no s =>
      simp only [wi]
      simp (config := { decide := true }) [Sg.w, Sg.inn, Sg.wi, few, Sg.d]
mutual
theorem pu_sz : ∀ (s : Sg) (k : Bool), s.sok → (pu k s).sok ∧ (pu k s).ht ≤ s.ht + 1 ∧ (pu k s).sz ≤ 2 * s.sz
  | .lt x, k, h => by cases k <;> simp [pu, Sg.sok, Sg.ht, Sg.sz] <;> exact h
  | .no s, k, h => by have := pu_sz s (!k) h; simp only [pu, Sg.ht, Sg.sz]; exact ⟨this.1, by omega, by omega⟩
  | .many w l, k, h => by
    have := pus_sz l k h.1
    simp only [pu, Sg.ht, Sg.sz]
    exact ⟨⟨this.1, by rw [pus_map, List.length_map]; exact h.2⟩, by omega, by omega⟩
  | .so a b, k, h => by
    have x := pu_sz a (!k) h.1
    have y := pu_sz b k h.2
    simp only [pu, Sg.ht, Sg.sz, Sg.hts, Sg.szs]
    exact ⟨⟨⟨x.1, y.1, trivial⟩, by simp⟩, by omega, by omega⟩
  | .tl a b, k, h => by simp only [pu]; exact ⟨h, by omega, by omega⟩
  | .mod w y s, k, h => by have := pu_sz s k h.2; simp only [pu, Sg.ht, Sg.sz]; exact ⟨⟨h.1, this.1⟩, by omega, by omega⟩
theorem pus_sz : ∀ (l : List Sg) (k : Bool), Sg.soks l → Sg.soks (pus k l) ∧ Sg.hts (pus k l) ≤ Sg.hts l + 1 ∧ Sg.szs (pus k l) ≤ 2 * Sg.szs l
  | [], k, _ => by simp [pus, Sg.soks, Sg.hts, Sg.szs]
  | s :: r, k, h => by have x := pu_sz s k h.1; have y := pus_sz r k h.2; simp only [pus, Sg.hts, Sg.szs]; exact ⟨⟨x.1, y.1⟩, by omega, by omega⟩
end
mutual
theorem few_sz : ∀ (s : Sg), s.sok → (few s).sok ∧ (few s).ht ≤ 3 * s.ht ∧ (few s).sz + 1 ≤ 5 * s.sz
  | .lt x, h => by simp only [few, Sg.ht, Sg.sz]; exact ⟨h, by omega, by omega⟩
  | .no s, h => by have := few_sz s h; simp only [few, Sg.ht, Sg.sz]; exact ⟨this.1, by omega, by omega⟩
  | .many w l, h => by
    have := fews_sz l h.1
    cases w
    · simp only [few, Sg.ht, Sg.sz, Bool.false_eq_true, if_false]
      exact ⟨⟨this.1, by rw [fews_map, List.length_map]; exact h.2⟩, by omega, by omega⟩
    · simp only [few, Sg.ht, Sg.sz, if_true]
      exact ⟨⟨this.2.1.1, by rw [fewn_map, List.length_map, List.length_map]; exact h.2⟩, by omega, by omega⟩
  | .so a b, h => by
    have x := few_sz a h.1
    have y := few_sz b h.2
    simp only [few, Sg.ht, Sg.sz, Sg.hts, Sg.szs]
    exact ⟨⟨⟨x.1, y.1, trivial⟩, by simp⟩, by omega, by omega⟩
  | .tl a b, h => by
    have x := few_sz a h.1
    have y := few_sz b h.2
    simp only [few, Sg.ht, Sg.sz]
    exact ⟨h, by omega, by omega⟩
  | .mod w y s, h => by
    have := few_sz s h.2
    cases w
    · simp only [few, Sg.ht, Sg.sz, Bool.false_eq_true, if_false]; exact ⟨⟨h.1, this.1⟩, by omega, by omega⟩
    · simp only [few, Sg.ht, Sg.sz, if_true]; exact ⟨⟨h.1, this.1⟩, by omega, by omega⟩
theorem fews_sz : ∀ (l : List Sg), Sg.soks l → Sg.soks (fews l) ∧ (Sg.soks (fewn l) ∧ Sg.hts (fewn l) ≤ 3 * Sg.hts l + 1 ∧ Sg.szs (fewn l) ≤ 5 * Sg.szs l) ∧ Sg.hts (fews l) ≤ 3 * Sg.hts l ∧ Sg.szs (fews l) ≤ 5 * Sg.szs l
  | [], _ => by simp [fews, fewn, Sg.soks, Sg.hts, Sg.szs]
  | s :: r, h => by
    have x := few_sz s h.1
    have y := fews_sz r h.2
    simp only [fews, fewn, Sg.hts, Sg.szs, Sg.ht, Sg.sz]
    exact ⟨⟨x.1, y.1⟩, ⟨⟨x.1, y.2.1.1⟩, by omega, by omega⟩, by omega, by omega⟩
end
end Mok05
set_option autoImplicit false
namespace Mok05
variable [Wd]
open PySem PySem.Spec PyProof.Rows L2
def setG (f : Str) (z : FV) : List (Str × FV) → List (Str × FV)
  | [] => [(f, z)]
  | (g, x) :: r => if g = f then (g, z) :: r else (g, x) :: setG f z r
section
variable {K : PySem.W.Frag} {m : Ms} {H : Hp} {f : Str} {us : List (Str × V)} {gs : List (Str × FV)}
def FvR (K : PySem.W.Frag) (m : Ms) (H : Hp) (v : V) : FV → Prop
  | .d y => Dv K (Live m) H v y
  | .r k => RefR m k v
theorem gs_look (h : GsR K m H us gs) {z : FV} (e : gs.lookup f = some z) : ∃ v, us.lookup f = some v ∧ FvR K m H v z := by
  unfold GsR at h
  induction h with
  | nil => cases e
  | @cons p q us gs h1 _ ih =>
    obtain ⟨g, v⟩ := p
    obtain ⟨g', w⟩ := q
    obtain ⟨rfl, h2⟩ := h1
    dsimp only at h2
    rw [List.lookup] at e ⊢
    cases c : (f == g) with
    | true =>
      simp only [c] at e ⊢
      cases e
      refine ⟨v, rfl, ?_⟩
      cases z <;> exact h2
    | false =>
      simp only [c] at e ⊢
      exact ih e
theorem gs_miss (h : GsR K m H us gs) (e : gs.lookup f = none) : us.lookup f = none := by
  unfold GsR at h
  induction h with
  | nil => rfl
  | @cons p q us gs h1 _ ih =>
    obtain ⟨g, v⟩ := p
    obtain ⟨g', w⟩ := q
    obtain ⟨rfl, h2⟩ := h1
    rw [List.lookup] at e ⊢
    cases c : (f == g) with
    | true => simp [c] at e
    | false =>
      simp only [c] at e ⊢
      exact ih e
theorem gs_len (h : GsR K m H us gs) : us.length = gs.length := Paired.length h
theorem gs_put {v : V} {z : FV} (r : FvR K m H v z) (h : GsR K m H us gs) : GsR K m H (putF f v us) (setG f z gs) := by
  unfold GsR at h ⊢
  induction h with
  | nil =>
    refine .cons ⟨rfl, ?_⟩ .nil
    cases z <;> exact r
  | @cons p q us gs h1 h2 ih =>
    obtain ⟨g, w⟩ := p
    obtain ⟨g', y⟩ := q
    obtain ⟨rfl, h3⟩ := h1
    by_cases c : g = f
    · simp only [putF, setG, c, if_true]
      refine .cons ⟨rfl, ?_⟩ h2
      cases z <;> exact r
    · simp only [putF, setG, c, if_false]
      exact .cons ⟨rfl, h3⟩ ih
theorem setG_ref {z : FV} {k : Nat} (h : FRef (setG f z gs) k) : FRef gs k ∨ z = .r k := by
  obtain ⟨g, hg⟩ := h
  induction gs with
  | nil =>
    simp only [setG, List.mem_singleton, Prod.mk.injEq] at hg
    exact .inr hg.2.symm
  | cons p gs ih =>
    obtain ⟨g', y⟩ := p
    unfold setG at hg
    split at hg
    · rcases List.mem_cons.mp hg with hg | hg
      · simp only [Prod.mk.injEq] at hg
        exact .inr hg.2.symm
      · exact .inl ⟨g, List.mem_cons_of_mem _ hg⟩
    · rcases List.mem_cons.mp hg with hg | hg
      · exact .inl ⟨g, by rw [hg]; simp⟩
      · exact (ih hg).imp (fun ⟨g, h⟩ => ⟨g, List.mem_cons_of_mem _ h⟩) id
end
theorem obj_atQ {K : PySem.W.Frag} {m : Ms} {H : Hp} {μ : Mem} {n : Nat} {v : V} {x : Str} {gs : List (Str × FV)} (r : RV K m H (.r n) v) (hh : RH K m H μ) (e : μ[n]? = some (.q x gs)) :
    ∃ a C dx us, m.v[n]? = some (some [a]) ∧ v = .ref a ∧ PySem.W.nsIn K mainGlobals x = some (some (.ref C)) ∧ H a = some (.ins C dx us) ∧ GsR K m H us gs := by
  obtain ⟨l, b, h1, h2, h3, a, C, dx, us, h4, h5, h6, h7⟩ := ref_at r hh e (by intro z; cases z)
  cases h4
  cases h2
  exact ⟨_, C, dx, us, h1, h3, h5, h6, h7⟩
theorem fp_nodup : ∀ {v : List Fp} {n : Nat} {l : List Addr}, (fps v).Nodup → v[n]? = some (some l) → l.Nodup
  | [], _, _, _, h => by simp at h
  | x :: v, 0, l, nd, h => by
    simp only [List.getElem?_cons_zero, Option.some.injEq] at h
    subst h
    have e : fps (some l :: v) = l ++ fps v := by simp [fps]
    rw [e, List.nodup_append] at nd
    exact nd.1
  | x :: v, n + 1, l, nd, h => by
    simp only [List.getElem?_cons_succ] at h
    refine fp_nodup (v := v) ?_ h
    cases x with
    | none => simpa [fps] using nd
    | some l' =>
      have e : fps (some l' :: v) = l' ++ fps v := by simp [fps]
      rw [e, List.nodup_append] at nd
      exact nd.2.1
theorem fps_nodup_of : ∀ {v : List Fp}, (∀ (i : Nat) (l : List Addr), v[i]? = some (some l) → l.Nodup) → (∀ (i j : Nat) (l k : List Addr) (a : Addr), v[i]? = some (some l) → v[j]? = some (some k) → a ∈ l → a ∈ k → i = j) → (fps v).Nodup
  | [], _, _ => by simp [fps]
  | x :: v, h1, h2 => by
    have ih := fps_nodup_of (v := v) (fun i l h => h1 (i + 1) l (by simpa using h)) fun i j l k a hi hj al ak => by
      have := h2 (i + 1) (j + 1) l k a (by simpa using hi) (by simpa using hj) al ak
      omega
    cases x with
    | none => simpa [fps] using ih
    | some l =>
      have e : fps (some l :: v) = l ++ fps v := by simp [fps]
      rw [e, List.nodup_append]
      refine ⟨h1 0 l rfl, ih, fun a ha b hb => ?_⟩
      rintro rfl
      obtain ⟨k, hk, hak⟩ := fps_iff.mp hb
      obtain ⟨i, hi⟩ := List.mem_iff_getElem?.mp hk
      have := h2 0 (i + 1) l k a rfl (by simpa using hi) ha hak
      omega
end Mok05
set_option autoImplicit false
namespace Mok05
variable [Wd]
open PySem PySem.Spec PyProof.Rows L2
def ctK (K : PySem.W.Frag) : Ct := fun x => match PySem.W.nsIn K mainGlobals x with
  | some (some (.ref a)) => some a
  | _ => none
theorem ctK_of {K : PySem.W.Frag} {x : Str} {C : Addr} (h : PySem.W.nsIn K mainGlobals x = some (some (.ref C))) : ctK K x = some C := by simp [ctK, h]
def spX2 (K : PySem.W.Frag) (f g : Str) : Sp := fun vs H Q _ => ∃ (a C : Addr) (u v : V), vs = [.ref a, u, v] ∧ OexC K C ∧ PySem.W.findIn K (.ref C) f = some none ∧ PySem.W.findIn K (.ref C) g = some none ∧ H a = some (exo a C none) ∧
  ∀ dx, H dx = none → dx ≠ a → Q .non (upd (upd (upd H dx (exd dx [(f, u)])) a (exo a C (some dx))) dx (exd dx [(g, v), (f, u)]))
theorem x2_run {K : PySem.W.Frag} {f g : Str} {vs : List V} {H : Hp} {Q : VK} {E : XK} {N : List Str} (h : spX2 K f g vs H Q E) : (tSeq (tOst K f (tVar 0) (tVar 1)) (tOst K g (tVar 0) (tVar 2))) { nx := fun _ H' => Q .non H', rt := Q } (start N vs) H := by
  obtain ⟨a, C, u, v, rfl, T, n1, n2, ea, q⟩ := h
  refine ⟨u, rfl, .ref a, rfl, a, C, rfl, T, n1, .inl ⟨ea, fun dx hd ne => ?_⟩⟩
  refine ⟨v, rfl, .ref a, rfl, a, C, rfl, T, n2, .inr ⟨dx, _, upd_same, by rw [upd_ne ne]; exact upd_same, by simp, q dx hd ne⟩⟩
theorem x2_len {K : PySem.W.Frag} {f g : Str} {vs : List V} {H : Hp} {Q : VK} {E : XK} {ps : List Str} (hp : ps.length = 3) (h : spX2 K f g vs H Q E) : vs.length = ps.length := by
  obtain ⟨a, C, u, v, rfl, _⟩ := h
  rw [hp]
  rfl
def XcAt (K : PySem.W.Frag) (mg : Str → Option Value) (x qual : Str) (st : Stmt) (ps fs : List Str) : Prop := ∃ (C f : Addr) (fd : FuncData), PySem.W.nsIn K mainGlobals x = some (some (.ref C)) ∧ mg x = some (.ref C) ∧ OexC K C ∧
  PySem.W.findIn K (.ref C) "__init__" = some (some (.ref f)) ∧ PySem.W.typeIn K (.ref f) = some (.type "function") ∧ C8.Fun K "__init__" qual st f fd ∧ Binds K fd ps [] ∧ XfC K C ∧ ∀ g ∈ fs, PySem.W.findIn K (.ref C) g = some none
structure CalX (P : Program) (w : World) (K : PySem.W.Frag) (mg : Str → Option Value) (base : Heap) (k : Nat) (x : Str) (fs : List Str) (sp : Sp) : Prop where
  ex : ∃ (C f : Addr) (fd : FuncData) (ps : List Str), PySem.W.nsIn K mainGlobals x = some (some (.ref C)) ∧ mg x = some (.ref C) ∧ OexC K C ∧
    PySem.W.findIn K (.ref C) "__init__" = some (some (.ref f)) ∧ PySem.W.typeIn K (.ref f) = some (.type "function") ∧ FnOk P w K mg base CX0 k f fd ps sp ∧ Binds K fd ps [] ∧ ∀ g ∈ fs, PySem.W.findIn K (.ref C) g = some none
section
variable {P : Program} {w : World} {K : PySem.W.Frag} {mg : Str → Option Value} {base : Heap} {x qual : Str} {st : Stmt} {ps fs : List Str} {sp : Sp}
theorem calX_of {k : Nat} (D : XcAt K mg x qual st ps fs) (hf : ∀ (f : Addr) (fd : FuncData), C8.Fun K "__init__" qual st f fd → FnOk P w K mg base CX0 k f fd ps sp) : CalX P w K mg base k x fs sp := by
  obtain ⟨C, f, fd, h1, h2, h3, h4, h5, h6, h7, h8, h9⟩ := D
  exact ⟨C, f, fd, ps, h1, h2, h3, h4, h5, hf f fd h6, h7, h9⟩
end
def sRaise (x : Str) (fs : List Str) (da : DA) : DS := fun ρ μ => match da ρ μ with
  | .ok ws μ1 => match datas ws with
    | some xs => if xs.length = fs.length then .exc ⟨x, (fs.zip xs).reverse⟩ ρ μ1 else .bad
    | none => .bad
  | .exc x μ1 => .exc x ρ μ1
  | .bad => .bad
theorem datas_cons {w : W} {ws : List W} {xs : List PyData} (h : datas (w :: ws) = some xs) : ∃ y ys, w = .d y ∧ datas ws = some ys ∧ xs = y :: ys := by
  cases w with
  | d y =>
    simp only [datas, Option.map_eq_some_iff] at h
    obtain ⟨ys, h1, rfl⟩ := h
    exact ⟨y, ys, rfl, h1, rfl⟩
  | r n => simp [datas] at h
  | s n => simp [datas] at h
  | e _ _ _ _ => simp [datas] at h
  | o _ => simp [datas] at h
theorem rvs_datas {K : PySem.W.Frag} {m : Ms} {H : Hp} {ws : List W} {vs : List V} {xs : List PyData} (r : RVs K m H ws vs) (h : datas ws = some xs) : DvAll K (Live m) H vs xs := by
  induction r generalizing xs with
  | nil =>
    simp only [datas, Option.some.injEq] at h
    subst h
    exact .nil
  | cons a b ih =>
    obtain ⟨y, ys, rfl, h1, rfl⟩ := datas_cons h
    exact .cons a (ih h1)
theorem gd_raise {K : PySem.W.Frag} {ct : Ct} {Z : WX} {D : Ends} {m : Ms} {σ : L2.St} {H : Hp} {ρ : Env} {x : Str} {fs : List Str} {r : Res (List W)} {Pp : List W → Mem → Ms → Hp → Prop} (he : EnvR K m H ρ σ)
    (g : Gs K ct Z D m H (match r with
      | .ok ws μ1 => match datas ws with
        | some xs => if xs.length = fs.length then .exc ⟨x, (fs.zip xs).reverse⟩ ρ μ1 else .bad
        | none => .bad
      | .exc x μ1 => .exc x ρ μ1
      | .bad => .bad))
    (k : ∀ ws xs μ1 m1 H1, Ext m H m1 H1 → RH K m1 H1 μ1 → datas ws = some xs → xs.length = fs.length → (∀ m' σ' H' cls d, Ext m H m' H' → RH K m' H' μ1 → EnvR K m' H' ρ σ' → XcR K ct m' H' ⟨x, (fs.zip xs).reverse⟩ cls d → Z cls d σ' H') → Pp ws μ1 m1 H1) : Gd K ct Z m σ H r Pp := by
  cases r with
  | bad => exact g
  | exc x μ1 => exact fun m' H' cls d e h xr => g m' σ H' cls d e h (he.ext e) xr
  | ok ws μ1 =>
    dsimp only at g
    cases hd : datas ws with
    | none => rw [hd] at g; exact g.elim
    | some xs =>
      rw [hd] at g
      dsimp only at g
      by_cases hl : xs.length = fs.length
      · rw [if_pos hl] at g
        exact fun m1 H1 e1 h1 => k ws xs μ1 m1 H1 e1 h1 hd hl g
      · rw [if_neg hl] at g
        exact g.elim
section
variable {X : Cx} {Z : WX} {k : Nat} {x : Str} {p pos pos' : Pos}
theorem msRaise2 {f g : Str} {a b : Expr} {da : DA} (c : CalX X.prog X.w X.K X.mg X.base k x [f, g] (spX2 X.K f g)) (hr : Room (k + 1) X.A) (tk : Takes X Z) (ha : MA X (ctK X.K) Z [a, b] da) (hg : Gl X x := by rfl) (hc : X.calm = true := by rfl)
    (hdb : (x == ("__debug__" : Str)) = false := by decide) (he : starEach [a, b] X.env = (false, eval a X.env) :: starEach [b] X.env := by rfl) (hpl : (backTo pos (starEach [b] X.env)).any (·.1) = false := by rfl) :
    MS X (ctK X.K) Z (.Raise (some (.Call (.Name x p) [a, b] [] pos)) none pos') (sRaise x [f, g] da) := by
  obtain ⟨C, fa, fd, ps, c1, c2, T, c3, c4, FO, hb, hn⟩ := c.ex
  refine ⟨ps_imp (ps_raise hc tk (pmk_oex T c3 c4 FO hr hb .nil pass0 hg c2 ha.pa hdb he hpl)) fun D σ H h => ?_⟩
  obtain ⟨m, ρ, μ, hρ, hh, gg⟩ := h
  refine ⟨m, ρ, μ, hρ, hh, gd_raise hρ gg fun ws xs μ1 m1 H1 e1 h1 hd hl q vs r1 => ?_⟩
  have dv := rvs_datas r1 hd
  match xs, hl, vs, dv with
  | [y, z], _, [u, v], .cons dy (.cons dz .nil) =>
    refine ⟨by simp, fun ad hna => ⟨ad, C, u, v, rfl, T, hn _ (by simp), hn _ (by simp), upd_same, fun dx hdx ne => ?_⟩⟩
    rw [upd_ne ne] at hdx
    refine ⟨rfl, dx, [(g, v), (f, u)], by rw [upd_ne (Ne.symm ne)]; exact upd_same, upd_same, hdx, ?_⟩
    have eH : upd (del (upd (upd (upd (upd H1 ad (exo ad C none)) dx (exd dx [(f, u)])) ad (exo ad C (some dx))) dx (exd dx [(g, v), (f, u)])) ad) dx (.xd [(g, v), (f, u)]) = upd H1 dx (.xd [(g, v), (f, u)]) := by
      funext b
      by_cases hb : b = dx
      · rw [hb, upd_same, upd_same]
      · rw [upd_ne hb, upd_ne hb]
        by_cases hb2 : b = ad
        · rw [hb2, del_same, hna]
        · rw [del_ne hb2, upd_ne hb, upd_ne hb2, upd_ne hb, upd_ne hb2]
    rw [eH]
    have e2 : Ext m1 H1 m1 (upd H1 dx (.xd [(g, v), (f, u)])) := .laid hdx _
    exact q m1 σ _ _ _ (e1.trans e2) (h1.laid hdx _) ((hρ.ext e1).ext e2) ⟨⟨C, ctK_of c1, rfl⟩, dx, _, rfl, upd_same, .cons ⟨rfl, Dv.stay dz e2.ks⟩ (.cons ⟨rfl, Dv.stay dy e2.ks⟩ .nil)⟩
end
section
variable {X : Cx} {Z : WX} {x : Str} {c : Value} {body suite : List Stmt} {b₀ : Stmt} {np pos pos' : Pos}
end
end Mok05
set_option autoImplicit false
namespace Mok05
variable [Wd]
open PySem PySem.Spec PyProof.Rows L2
def oexB (K : PySem.W.Frag) (C : Addr) : Bool := match K.lookup C with
  | some ⟨.type "type", _, .cls cd, sl⟩ => (match cd.mro, sl.toList with
    | .ref C' :: bm, [_, _, _, _, some (.builtin n), _] => C' == C && n == "ValueError.__new__" && !cd.hasDel && cd.hasDict && PySem.HandSPX.refsVE bm
    | _, _ => false)
  | _ => false
theorem oexB_ok {K : PySem.W.Frag} {C : Addr} (q : oexB K C = true) (sa : PySem.W.findIn K (.ref C) "__setattr__" = some (some (.builtin "object.__setattr__"))) (exC : PySem.W.subIn K (.ref C) (.type "BaseException") = some true)
    (tyC : PySem.W.typeIn K (.ref C) = some (.type "type")) (kC : PySem.W.keepIn K (.ref C) = true) : OexC K C := by
  refine ⟨?_, sa, exC, tyC, kC⟩
  unfold oexB at q
  split at q
  · rename_i dd cd sl ho
    split at q
    · rename_i C' bm k0 k1 k2 k3 n k5 hm hs
      simp only [Bool.and_eq_true, beq_iff_eq, Bool.not_eq_true'] at q
      obtain ⟨⟨⟨⟨rfl, rfl⟩, hdel⟩, hdct⟩, ht⟩ := q
      obtain ⟨nm, bs, mro, ns, qn, hd, sn, sub, ab, col, del⟩ := cd
      dsimp only at hm hdel hdct
      subst hm hdel hdct
      have hsl : sl = #[k0, k1, k2, k3, some (.builtin "ValueError.__new__"), k5] := by
        obtain ⟨l⟩ := sl
        simp only at hs
        rw [hs]
      subst hsl
      exact ⟨nm, qn, ns, bs, bm, sn, sub, ab, col, dd, k0, k1, k2, k3, k5, ho, ht⟩
    · cases q
  · cases q
section
variable {K : PySem.W.Frag} {mg : Str → Option Value} {x qual : Str} {st : Stmt} {ps fs : List Str}
theorem xc_mk {h : Heap} {C f : Addr} {oc kV doc pm cdv ctv : Value} {od an : Option Addr} {osl : Array (Option Value)} (KX : K.In h) (G : h.Ns mainGlobals mg) (a : PySem.W.nsIn K mainGlobals x = some (some (.ref C))) (q : oexB K C = true)
    (sa : PySem.W.findIn K (.ref C) "__setattr__" = some (some (.builtin "object.__setattr__"))) (exC : PySem.W.subIn K (.ref C) (.type "BaseException") = some true) (tyC : PySem.W.typeIn K (.ref C) = some (.type "type")) (kC : PySem.W.keepIn K (.ref C) = true)
    (b : PySem.W.findIn K (.ref C) "__init__" = some (some (.ref f))) (ti : PySem.W.typeIn K (.ref f) = some (.type "function"))
    (l : K.lookup f = some ⟨oc, od, .func (PySem.W.fnOf "__init__" qual (C8.fnArgs st) (C8.fnBody st) (C8.fnScope st) .none kV doc pm an cdv ctv), osl⟩) (c : PySem.W.codeIn K cdv qual = true)
    (ga : PySem.W.findIn K (.ref C) "__getattribute__" = some (some (.builtin "BaseException.__getattribute__"))) (gg : PySem.W.findIn K (.ref C) "__getattr__" = some none) (hd : PySem.W.hasDictIn K C = true)
    (n : ∀ g ∈ fs, PySem.W.findIn K (.ref C) g = some none)
    (hb : ∀ (kV doc pm : Value) (an : Option Addr) (cdv ct : Value) (us : List Value), us.length = ps.length → bindArgs (PySem.W.fnOf "__init__" qual (C8.fnArgs st) (C8.fnBody st) (C8.fnScope st) .none kV doc pm an cdv ct) ⟨us, []⟩ = pure (ps.zip us)) : XcAt K mg x qual st ps fs :=
  ⟨C, f, _, a, PySem.W.mg_of KX G a, oexB_ok q sa exC tyC kC, b, ti, ⟨oc, od, .none, kV, doc, pm, an, cdv, ctv, osl, rfl, l, c⟩, .all (hb kV doc pm an cdv ctv), ⟨ga, gg, exC, hd⟩, n⟩
end
section
variable {X : Cx} {Z : WX} {y : Str} {body suite : List Stmt} {b₀ : Stmt} {np pos pos' : Pos}
end
section
variable {ρ ρ1 : Env} {μ μ1 : Mem} {x : Xc}
end
end Mok05
set_option autoImplicit false
namespace Mok05
variable [Wd]
open PySem PySem.Spec PyProof.Rows L2
abbrev Puts := List (Str × Sg)
mutual
def put (ps : Puts) : Sg → Sg
  | .lt x => (ps.lookup x).getD (.lt x)
  | .no s => .no (put ps s)
  | .many w l => .many w (putl ps l)
  | .so a b => .so (put ps a) (put ps b)
  | .tl a b => .tl (put ps a) (put ps b)
  | .mod w h s => .mod w h (put ps s)
def putl (ps : Puts) : List Sg → List Sg
  | [] => []
  | s :: r => put ps s :: putl ps r
end
end Mok05
set_option autoImplicit false
namespace Mok05
variable [Wd]
open PySem PySem.Spec PyProof.Rows L2
def opRevL : Op
  | [.d (.list xs)], μ => mkL false xs.reverse μ
  | _, _ => none
theorem mRevL {X : Cx} {ct : Ct} {Z : WX} {e : Expr} {k : Nat} {p1 p2 p3 pos : Pos} {da : DE} (ha : ME X ct Z e da) : ME X ct Z (.Subscript e (.Slice none none (some (.UnaryOp .USub (.Constant (.int 1) k p1) p2)) p3) pos) (dP1 opRevL da) := by
  refine ⟨pe_imp (pe_revL ha.pe) fun σ H Q h => ?_⟩
  obtain ⟨m, ρ, μ, hρ, hh, g⟩ := h
  refine ⟨m, ρ, μ, hρ, hh, (Gd.bnd g).mono fun w μ1 m1 H1 e1 h1 g1 v r1 => ?_⟩
  cases w with
  | r _ => exact g1.elim
  | s _ => exact g1.elim
  | e _ _ _ _ => exact g1.elim
  | o _ => exact g1.elim
  | d d =>
    cases r1 with
    | @lst a vs xs hs hd =>
      have g2 : Gd X.K ct Z m1 σ H1 (ofO (mkL false xs.reverse μ1)) (PV X.K Q) := g1
      refine ⟨a, vs, rfl, hs.sq, fun p hp => (lst_new (own := false) h1 hd.rev ?_ hp).2⟩
      unfold GdO
      cases q : mkL false xs.reverse μ1 with
      | none => rw [q] at g2; exact g2
      | some p => rw [q] at g2; exact fun m' H' v e' h' r' => g2 m' H' e' h' v r'
    | _ => exact g1.elim
theorem okO_revl {xs : List PyData} {μ : Mem} {Pw : W → Mem → Prop} : OkO (opRevL [.d (.list xs)] μ) Pw = (xs.length ≤ sizeLine ∧ Pw (.d (.list xs.reverse)) μ) := by
  by_cases h : xs.length ≤ sizeLine <;> simp [opRevL, mkL, sz, h]
end Mok05
set_option autoImplicit false
namespace Mok05
variable [Wd]
open PySem PySem.Spec PyProof.Rows L2
section
variable {X : Cx} {body : List Stmt} {h₀ : ExceptHandler} {hds : List ExceptHandler} {l : List (List Value × Option Nat × (Addr → Value → Option Addr → TS))} {pos : Pos} {tb : WX → TS} {Wout : WX}
end
section
variable {X : Cx} {Z : WX} {body : List Stmt} {h₀ : ExceptHandler} {hds : List ExceptHandler} {pos : Pos}
end
end Mok05
set_option autoImplicit false
namespace Mok05
variable [Wd]
open PySem PySem.Spec PyProof.Rows L2
section
variable {X : Cx} {ct : Ct} {Z : WX} {a d C : Addr} {oe : Obj} {pn : List (Addr × Obj)} {L : List Str} {f : Str → Bool} {n : Str} {p p1 p2 pos : Pos} {x1 : Nat} {es : List Expr}
end
end Mok05
set_option autoImplicit false
namespace Mok05
variable [Wd]
open PySem PySem.Spec PyProof.Rows L2
end Mok05
set_option autoImplicit false
namespace Mok05
open PySem PySem.Spec PyProof.Rows L2
theorem call_hereT {P : Program} {w : World} {K : PySem.W.Frag} {mg mb : Str → Option Value} {fa a : Addr} {s1 : Shared} {vs : List Value} {ns : List Int} {cs : List (Addr × Addr)}
    (KX : K.In s1.heap) (hns : s1.heap.Ns mainGlobals mg) (hb : s1.heap.Ns builtinsNs mb) (hbb : ∀ x : Str, x ≠ "__name__" → mb x = bootBuiltins x) (lim : s1.heap.NoLimit) (hg : s1.gens = #[])
    (tabs : ∀ p ∈ cs, s1.heap.get? p.2 = some (PySem.W.tabObj #[])) (out : ∀ p ∈ cs, K.lookup p.2 = none) (codes : ∀ p ∈ cs, PySem.W.CodeHd s1.heap p.1 p.2)
    (bmain : ∃ (bm : Addr) (ob : Obj), mg "__builtins__" = some (.ref bm) ∧ bm ≠ builtinsNs ∧ s1.heap.get? bm = some ob ∧ ob.cls = .type "module" ∧ ob.dict = some builtinsNs ∧ ob.data = .plain)
    (ha : s1.heap.get? a = some { cls := .type "list", data := .seq vs.toArray }) (hi : IntsAre vs ns) (hl : ns.length ≤ sizeLine)
    (run : ∀ (base : Heap) (H : Hp), K.In base → base.Ns mainGlobals mg → (∀ p ∈ cs, LamX.TabB base mg p.1 p.2) → (∀ p ∈ cs, H p.2 = some (.tbl #[])) → Env0 P w K mg base callerA [] s1 H → LsR K H a (ns.map V.int) →
      codeAny (model P w) callerA (.call (.ref fa) ⟨[.ref a], []⟩) (CR (L2.CX P w) [] P w H s1 (fun v _ => v = .bl true) (fun _ _ _ => False)) s1) :
    codeAny (model P w) callerA (.call (.ref fa) ⟨[.ref a], []⟩) (fun r s' => r = .ok (.ret (.bool true)) ∧ OldK s1.heap s'.heap ∧ s'.os = s1.os ∧ AllBare s'.gens) s1 := by
  have rv := vals_ints hi
  have lv := hi.length
  have inT : ∀ b, (∃ p ∈ cs, p.2 = b) → s1.heap.get? b = some (PySem.W.tabObj #[]) := fun b ⟨p, hp, e⟩ => e ▸ tabs p hp
  have aT : ¬ ∃ p ∈ cs, p.2 = a := fun z => by
    have := inT a z
    rw [ha] at this
    cases this
  suffices main : ∃ H : Hp, (∀ p ∈ cs, H p.2 = some (.tbl #[])) ∧ (∀ b, H b = none ∨ (∃ p ∈ cs, p.2 = b) ∨ ∃ o xs, H b = some (.frz o (.lst xs))) ∧ LsR K H a (ns.map V.int) ∧ HOk P w H s1.heap ∧ (∀ b, H b ≠ none → (b = a ∧ K.lookup a = none) ∨ ∃ p ∈ cs, p.2 = b) by
    obtain ⟨H, hTb, hO, hS, hok, hA⟩ := main
    have free : ∀ {b : Addr} {o : Obj}, s1.heap.get? b = some o → (b = a → K.lookup a = none → False) → ((∃ p ∈ cs, p.2 = b) → False) → (hidT s1.heap H).get? b = some o := by
      intro b o e no nt
      refine hidT_get e (Classical.byContradiction fun z => ?_)
      rcases hA b z with k | k
      · exact no k.1 k.2
      · exact nt k
    have nsK : ∀ {b : Addr} {m : Str → Option Value}, s1.heap.Ns b m → (hidT s1.heap H).Ns b m := by
      rintro b m ⟨o, es, ep, e, d, r⟩
      refine ⟨o, es, ep, free e (fun z _ => ?_) (fun z => ?_), d, r⟩
      · rw [z, ha] at e
        cases e
        cases d
      · rw [inT b z] at e
        cases e
        cases d
    have kb : K.In (hidT s1.heap H) := by
      intro b o e
      refine free (KX b o e) (fun z n => ?_) (fun ⟨p, hp, z⟩ => ?_)
      · rw [z, n] at e
        cases e
      · rw [← z, out p hp] at e
        cases e
    have md : Mod K mg (hidT s1.heap H) := by
      obtain ⟨mc, l1, l2⟩ := lim
      exact ⟨kb, nsK hns, ⟨mb, nsK hb, hbb⟩, ⟨mc, nsK l1, l2⟩⟩
    have tb : ∀ p ∈ cs, LamX.TabB (hidT s1.heap H) mg p.1 p.2 := fun p hp => by
      have t0 := tabs p hp
      constructor
      · obtain ⟨o, us, f1, f2, f3, f4, f5, f6, f7, e1, e2, e3, e4, e5⟩ := codes p hp
        refine ⟨o, us, f1, f2, f3, f4, f5, f6, f7, free e1 (fun z _ => ?_) (fun z => ?_), e2, e3, e4, e5⟩
        · rw [z, ha] at e1
          cases e1
          cases e3
        · rw [inT _ z] at e1
          cases e1
          cases e3
          simp at e4
      · obtain ⟨bm, ob, g1, g2, g3, g4, g5, g6⟩ := bmain
        have n1 : bm ≠ mainGlobals := fun z => by
          obtain ⟨o, es, ep, e, dd, _⟩ := hns
          rw [z, e] at g3
          cases g3
          rw [dd] at g6
          cases g6
        have n2 : ¬ ∃ p ∈ cs, p.2 = bm := fun z => by
          rw [inT bm z] at g3
          cases g3
          cases g6
        refine ⟨bm, ob, g1, g2, n1, fun z => n2 ⟨p, hp, z.symm⟩, free g3 (fun z _ => ?_) n2, g4, g5, g6⟩
        rw [z, ha] at g3
        cases g3
        cases g6
      · intro z
        obtain ⟨o, es, ep, e, dd, _⟩ := hns
        rw [z, t0] at e
        cases e
        cases dd
    have none_ : ∀ b : Addr, b ∉ frs ([] : List PySem.Env) := fun b z => by cases z
    have e0 : Env0 P w K mg (hidT s1.heap H) callerA [] s1 H :=
      { frames := rfl, mod := md, bs := fun b o e => of_hidT e, bsz := Nat.le_of_eq (hidT_size _ _), funs := trivial, frf := fun b z => absurd z (none_ b), hok := hok, bare := .of_eq hg }
    apply codeAny_mono (run _ H kb (nsK hns) tb hTb e0 hS)
    intro r s' h
    match r, h with
    | .error e, h =>
      obtain ⟨_, _, _, _, _, _, _, _, _, _, _, _, z⟩ := h
      exact z.elim
    | .ok .next, h => exact False.elim h
    | .ok .brk, h => exact False.elim h
    | .ok .cont, h => exact False.elim h
    | .ok (.ret u), h =>
      obtain ⟨v, H', os, bare, un, hok', r', z⟩ := h
      have z : v = V.bl true := z
      subst z
      cases (show u = Value.bool true from r')
      have same : ∀ b o, (¬ ∃ p ∈ cs, p.2 = b) → s1.heap.get? b = some o → s'.heap.get? b = some o := fun b o nb e => by
        rcases hO b with n | n | ⟨ob, xs, n⟩
        · exact un.keep b o e n (none_ b) (by simp)
        · exact (nb n).elim
        · have k1 := (hok b _ n).1
          have k2 := (hok' b _ (un.frzs b ob _ n)).1
          rw [k1] at e
          cases e
          exact k2
      have more : ∀ p ∈ cs, ∃ m : Array Value, s'.heap.get? p.2 = some (PySem.W.tabObj m) := fun p hp => by
        obtain ⟨m, z⟩ := un.tbls p.2 #[] (hTb p hp)
        exact ⟨_, hok' p.2 _ z⟩
      refine ⟨rfl, ⟨fun b o e => ?_, fun b o e => ?_⟩, os, bare⟩
      · by_cases hb : ∃ p ∈ cs, p.2 = b
        · obtain ⟨p, hp, rfl⟩ := hb
          obtain ⟨m, hm⟩ := more p hp
          rw [tabs p hp] at e
          cases e
          refine .inr (.inl ⟨((codes p hp).tab (tabs p hp)).isCodeTable, rfl, #[], m, rfl, ?_⟩)
          rw [Array.empty_append]
          exact hm
        · exact .inl (same b o hb e)
      · by_cases hb : ∃ p ∈ cs, p.2 = b
        · obtain ⟨p, hp, rfl⟩ := hb
          obtain ⟨m, hm⟩ := more p hp
          exact ⟨_, hm⟩
        · exact ⟨o, same b o hb e⟩
  classical
  let H0 : Hp := match K.lookup a with
    | some _ => fun _ => none
    | none => upd (fun _ => none) a (.frz { cls := .type "list", data := .seq vs.toArray } (.lst (ns.map V.int)))
  have h0 : ∀ b, H0 b = none ∨ (b = a ∧ K.lookup a = none ∧ H0 b = some (.frz { cls := .type "list", data := .seq vs.toArray } (.lst (ns.map V.int)))) := fun b => by
    simp only [H0]
    cases hk : K.lookup a with
    | some o => exact .inl rfl
    | none =>
      by_cases e : b = a
      · subst e
        exact .inr ⟨rfl, rfl, upd_same⟩
      · exact .inl (upd_ne e)
  refine ⟨fun b => if ∃ p ∈ cs, p.2 = b then some (.tbl #[]) else H0 b, fun p hp => if_pos ⟨p, hp, rfl⟩, fun b => ?_, ?_, fun b u z => ?_, fun b z => ?_⟩
  · by_cases hb : ∃ p ∈ cs, p.2 = b
    · exact .inr (.inl hb)
    · rcases h0 b with e | ⟨_, _, e⟩
      · exact .inl ((if_neg hb).trans e)
      · exact .inr (.inr ⟨_, _, (if_neg hb).trans e⟩)
  · cases hk : K.lookup a with
    | some o =>
      have e := KX a o hk
      rw [ha] at e
      cases e
      exact .inr ⟨_, vs.toArray, _, hk, rfl, rfl, rfl, by rw [List.size_toArray, lv]; exact hl, by simpa using rv⟩
    | none =>
      refine .inl ⟨{ cls := .type "list", data := .seq vs.toArray }, ?_⟩
      refine (if_neg aT).trans ?_
      simp only [H0, hk]
      exact upd_same
  · by_cases hb : ∃ p ∈ cs, p.2 = b
    · have z := (if_pos hb).symm.trans z
      cases z
      exact inT b hb
    · have z := (if_neg hb).symm.trans z
      rcases h0 b with e | ⟨rfl, _, e⟩
      · rw [e] at z
        cases z
      · rw [e] at z
        cases z
        exact ⟨ha, by rw [List.length_map]; exact hl, vs, _, rv, ha⟩
  · by_cases hb : ∃ p ∈ cs, p.2 = b
    · exact .inr hb
    · rcases h0 b with e | ⟨e1, e2, _⟩
      · exact (z ((if_neg hb).trans e)).elim
      · exact .inl ⟨e1, e2⟩
def lamQ (x : Str) : Str := x ++ ".<locals>." ++ "<lambda>"
def tabsOf (K : PySem.W.Frag) (names : List Str) : List (Addr × Str) := names.filterMap fun x => (PySem.W.tabIn K x).map fun p => (p.2, lamQ x)
theorem walkT {l : PySem.W.OpenLaw} {q : Program} {loose : List Str} {XP : (Str → Option Value) → Heap → Prop} {YP : World → Heap → Prop} {d : DefRec} {K : Params → PySem.W.Frag} {k : Nat} {F : Fn} {nm p : Str} {names : List Str} (hn : l.most = some 63) (hdf : d.params.defaults = [])
    (hY : ∀ (w : World) (h : Heap), YP w h → (K w.params).In h) (hk : k ≤ 230) (hnm : d.name = nm) (hrec : (names.all fun x => ((recsOf q).find? fun e => e.name == x).isSome) = true)
    (hout : ∀ (w : World) (h : Heap), (K w.params).In h → ∀ x ∈ names, ∀ c P, PySem.W.tabIn (K w.params) x = some (c, P) → (K w.params).lookup P = none)
    (C : ∀ (w : World) (mg : Str → Option Value) (h base : Heap), (K w.params).In h → h.Ns mainGlobals mg → (∀ x ∈ names, ∀ c P, PySem.W.tabIn (K w.params) x = some (c, P) → LamX.TabB base mg c P) →
      @CalP ⟨l.prog, w, tabsOf (K w.params) names⟩ l.prog w (K w.params) mg base (ctK (K w.params)) k nm [p] F)
    (hF : ∀ [Wd] (ns : List Int), ns.length ≤ 63 → (∀ k ∈ ns, Builtin.Int.intBits k ≤ 1048576) → ∃ μ, F [.s ns] [] = .ok (.d (.bool true)) μ) :
    PySem.W.WalkO q loose XP YP l.row.toRowW d [] (fun f vs => PySem.call f vs) := by
  refine Att.attach_callB hn hdf fun w s₀ s₁ mg mb fa o pm cd doc a vs ns G Y ho hd hcd hmg hobj hints hlen hbits hg => ?_
  have KX := hY w _ Y
  have look : ∀ x ∈ names, ∀ c P, PySem.W.tabIn (K w.params) x = some (c, P) → PySem.W.CodeHd s₁.heap c P ∧ s₁.heap.get? P = some (PySem.W.tabObj #[]) := fun x hx c P e => by
    have hr := List.all_eq_true.mp hrec x hx
    obtain ⟨dd, hdd⟩ := Option.isSome_iff_exists.mp hr
    exact PySem.W.tab_of G.T KX hdd e
  have mem : ∀ p ∈ names.filterMap fun x => PySem.W.tabIn (K w.params) x, ∃ x ∈ names, PySem.W.tabIn (K w.params) x = some (p.1, p.2) := fun p hp => by
    obtain ⟨x, hx, e⟩ := List.mem_filterMap.mp hp
    exact ⟨x, hx, e⟩
  refine call_hereT (cs := names.filterMap fun x => PySem.W.tabIn (K w.params) x) KX G.T.g G.T.b G.T.builtins G.T.nolimit hg (fun p hp => ?_) (fun p hp => ?_) (fun p hp => ?_) G.T.bmain hobj hints (Nat.le_trans hlen (by decide)) fun base H kb nb tb hTb e0 hS => ?_
  · obtain ⟨x, hx, e⟩ := mem p hp
    exact (look x hx _ _ e).2
  · obtain ⟨x, hx, e⟩ := mem p hp
    exact hout w _ KX x hx _ _ e
  · obtain ⟨x, hx, e⟩ := mem p hp
    exact (look x hx _ _ e).1
  letI WI : Wd := ⟨l.prog, w, tabsOf (K w.params) names⟩
  obtain ⟨f, fd, G1, h2, h3⟩ := C w mg _ base KX G.T.g fun x hx c P e => tb (c, P) (List.mem_filterMap.mpr ⟨x, hx, e⟩)
  rw [hnm] at hmg
  have e := hmg.symm.trans h2
  cases e
  obtain ⟨μ, hr⟩ := hF ns hlen hbits
  have hb := h3 s₁ [.ref a] KX rfl
  have tb0 : ∀ p ∈ Wd.T, TbR ⟨[], []⟩ H p := fun p hp => by
    obtain ⟨x, hx, ex⟩ := List.mem_filterMap.mp (show p ∈ tabsOf (K w.params) names from hp)
    obtain ⟨cp, hc, rfl⟩ := Option.map_eq_some_iff.mp ex
    have no : ∀ b, ¬ Live ⟨[], []⟩ b := fun b z => by
      rcases z with z | z
      · simp [fps] at z
      · cases z
    refine ⟨#[], hTb cp (List.mem_filterMap.mpr ⟨x, hx, hc⟩), no _, trivial, fun pos cv z => ?_⟩
    simp [codeAmong] at z
  refine G1.run callerA [] s₁ H ⟨[.ref a], []⟩ [.ref a] [.ref a] _ _ ⟨[], []⟩ [] [.s ns] ⟨rfl, by show 1 + claimMargin + 3 * k + 5 < recursionLimit; simp only [claimMargin, recursionLimit]; omega, by show 4 + 16 * k + 200 < cLine; simp only [cLine]; omega⟩ rfl e0 hb (.cons rfl .nil) (.cons ⟨a, rfl, ?_⟩ .nil) ⟨tb0, List.nodup_nil, rfl, fun b hb => (by cases hb), fun n p o h1 _ => (by simp at h1), fun n x gs e => (by simp at e)⟩ ?_
  · exact hS
  · rw [hr]
    intro m' H' e h' v r
    cases r
    rfl
end Mok05
set_option autoImplicit false
namespace Mok05
variable [Wd]
open PySem PySem.Spec PyProof.Rows L2
section
variable {X : Cx} {pins : List (Addr × Obj)} {σ : L2.St} {H : Hp} {s : Shared}
end
end Mok05
set_option autoImplicit false
namespace Mok05
variable [Wd]
open PySem PySem.Spec PyProof.Rows L2
section
variable {P : Program} {w : World} {K : PySem.W.Frag} {mg : Str → Option Value} {base : Heap} {ct : Ct}
def LamAt (K : PySem.W.Frag) (mg : Str → Option Value) (base : Heap) (x : Str) : Prop := ∃ (f : Addr) (o : Obj) (fd : FuncData) (c T : Addr), mg x = some (.ref f) ∧ K.lookup f = some o ∧ o.data = .func fd ∧ fd.code = .ref c ∧ LamX.TabB base mg c T ∧ (T, lamQ x) ∈ Wd.T ∧ ∀ p ∈ Wd.T, p.1 = T → p.2 = lamQ x
theorem lamAt_mk {h : Heap} {x : Str} {c T : Addr} (KX : K.In h) (G : h.Ns mainGlobals mg) (e : PySem.W.tabIn K x = some (c, T)) (tb : LamX.TabB base mg c T) (hT : (T, lamQ x) ∈ Wd.T) (only : ∀ p ∈ Wd.T, p.1 = T → p.2 = lamQ x) : LamAt K mg base x := by
  unfold PySem.W.tabIn at e
  split at e
  · rename_i f hf
    split at e
    · rename_i hfo
      split at e
      · rename_i c2 hc
        split at e
        · split at e
          · cases e
            exact ⟨f, _, _, c, T, PySem.W.mg_of KX G hf, hfo, rfl, hc, tb, hT, only⟩
          · cases e
        · cases e
      · cases e
    · cases e
  · cases e
variable {k : Nat} {x : Str} {st : Stmt} {N ps : List Str} {body : DS}
end
section
variable {X : Cx} {ct : Ct} {Z : WX}
end
end Mok05
set_option autoImplicit false
namespace PySem
namespace MoLE
open PySem.W PySem.Calls PyProof.Rows
open Builtin Builtin.ObjectAttr
section
variable {prog : Program} {w : World} {A : Around} {E : Value → Shared → Prop} {R : Result → Shared → Prop} {hp : Heap} {g : Array GenState} {d : Drawn} {t : Nat} {os : OsState}
end
end MoLE
end PySem
namespace Mok05
variable [Wd]
open PySem PySem.Spec PyProof.Rows L2
section
variable {X : Cx} {pins : List (Addr × Obj)} {σ : L2.St} {H : Hp} {s : Shared} {a C dx : Addr} {f : Str} {y : V} {u : Value} {Q : Unit → Shared → Prop} {E : Value → Shared → Prop} {A : Around}
end
section
variable {X : Cx} {o e : Expr} {es : List Expr} {to te : TE} {ta : TA} {f : Str} {p p' pos : Pos}
end
section
variable {P : Program} {w : World} {K : PySem.W.Frag} {mg : Str → Option Value} {base : Heap} {x qual : Str} {st : Stmt} {ps fs : List Str} {sp : Sp}
end
section
variable {X : Cx} {Z : WX} {k : Nat} {x : Str} {p pos pos' : Pos}
end
section
variable {K : PySem.W.Frag} {mg : Str → Option Value} {x qual : Str} {st : Stmt} {ps fs : List Str}
end
end Mok05
set_option autoImplicit false
namespace Mok05
variable [Wd]
open PySem PySem.Spec PyProof.Rows L2
section
variable {prog : Program} {w : World} {A : Around} {R : Result → Shared → Prop} {I : Addr} {fp wr : List Addr} {G : Array GenState → Array GenState → Prop} {n : Nat} {Pv : Nat → Value → Prop} {St : Nat → Shared → Prop}
def Bas (h0 h : Heap) : Prop := ∀ b o, h0.get? b = some o → h.get? b = some o
theorem set_walk (W : WalksS prog w A.in1 I fp wr G n Pv St) (S : Addr) (off : S ∉ fp) (h0 : Heap) (S0 : h0.get? S = none) (w0 : ∀ b ∈ wr, h0.get? b = none) (Ps : Nat → Heap → Prop) (keep : ∀ i h h', Ps i h → (∀ o, h.get? S = some o → h'.get? S = some o) → Ps i h')
    (add : ∀ i v (s : Shared) (Q : Bool → Shared → Prop) (E : Value → Shared → Prop), Pv i v → Bas h0 s.heap → Ps i s.heap → (∀ b h' tk, s.toks ≤ tk → (∀ b o, b ≠ S → s.heap.get? b = some o → h'.get? b = some o) → Ps (i + 1) h' → Q b { s with heap := h', toks := tk }) → wpAny (model prog w) A.in1 (setAdd S v) Q E s) :
    ∀ (k i : Nat) (s : Shared), n - i = k → i ≤ n → St i s → Bas h0 s.heap → Ps i s.heap → (∀ s', Moved (S :: wr) G s s' → Bas h0 s'.heap → Ps n s'.heap → R (.ok (.ret .none)) s') → codeAny (model prog w) A (.builtin "set.update.loop" ⟨[.ref S, .ref I], []⟩) R s := by
  have apart : S ∉ wr := fun h => off (W.sub _ h)
  have wider : ∀ b ∈ wr, b ∈ S :: wr := fun b hb => List.mem_cons_of_mem _ hb
  have still : ∀ {s s' : Shared}, Moved wr G s s' → Bas h0 s.heap → Bas h0 s'.heap := fun hm hb b o e => hm.heap b o (fun z => by
    rw [w0 b z] at e
    cases e) (hb b o e)
  intro k
  induction k with
  | zero =>
    intro i s hk hi st bs hS end_
    obtain rfl : i = n := by omega
    apply codeAny_builtin PyProof.Rows.F.entry_set_update_loop
    rw [Around.under_plainId PyProof.Rows.F.plain_set_update_loop _]
    show wpAny _ A.in1 (pyNext (.ref I) >>= _) _ _ s
    apply wpAny_bind
    apply W.done s _ _ st
    intro s' hm
    exact wpAny_pure (end_ s' (hm.mono wider) (still hm bs) (keep _ _ _ hS fun o e => hm.heap S _ apart e))
  | succ k ih =>
    intro i s hk hi st bs hS end_
    apply codeAny_builtin PyProof.Rows.F.entry_set_update_loop
    rw [Around.under_plainId PyProof.Rows.F.plain_set_update_loop _]
    show wpAny _ A.in1 (pyNext (.ref I) >>= _) _ _ s
    apply wpAny_bind
    apply W.item i s _ _ (by omega) st
    intro v s' hP st' hm
    show wpAny _ A.in1 (holding [v] (setAdd S v) >>= _) _ _ s'
    refine wpAny_bind (wpAny_holding ?_)
    refine add i v s' _ _ hP (still hm bs) (keep _ _ _ hS fun o e => hm.heap S _ apart e) fun b h' tk htk kp hS2 => ?_
    have bs2 : Bas h0 h' := fun b o e => kp b o (fun z => by rw [z, S0] at e; cases e) (still hm bs b o e)
    refine wpAny_pure ⟨plainId_quiet PyProof.Rows.F.plain_set_update_loop _, ih (i + 1) _ (by omega) (by omega) (W.frame _ s' _ _ st' htk fun b hb o e => kp b o (fun z => off (z ▸ hb)) e) bs2 hS2 fun s2 m2 b2 S2 => ?_⟩
    exact end_ s2 (Moved.trans W.gtrans ((hm.mono wider).then_heap htk fun b o hb e => kp b o (fun z => hb (by rw [z]; exact List.mem_cons_self)) e) m2) b2 S2
end
section
variable {P : Program} {w : World} {A : Around} {E : Value → Shared → Prop} {s : Shared}
abbrev newSetO (w : World) : Obj := { cls := .type "set", dict := none, data := .set #[] 0 (.fresh 0 0 (!w.params.followText "set-order")) }
set_option maxHeartbeats 3200000 in
theorem call_set_list {l : Addr} {items : Array Value} {Q : Value → Shared → Prop} (hh : A.handled = none) (hl : s.heap.IsList l items) (Ps : Nat → Heap → Prop) (h0 : ∀ h, h.get? s.heap.objs.size = some (newSetO w) → Ps 0 h)
    (keep : ∀ i h h', Ps i h → (∀ o, h.get? s.heap.objs.size = some o → h'.get? s.heap.objs.size = some o) → Ps i h')
    (add : ∀ i v (A' : Around) (s' : Shared) (Q : Bool → Shared → Prop) (E : Value → Shared → Prop), A'.units = A.units + 3 → items[i]? = some v → Bas s.heap s'.heap → Ps i s'.heap → (∀ b h' tk, s'.toks ≤ tk → (∀ b o, b ≠ s.heap.objs.size → s'.heap.get? b = some o → h'.get? b = some o) → Ps (i + 1) h' → Q b { s' with heap := h', toks := tk }) →
      wpAny (model P w) A' (setAdd s.heap.objs.size v) Q E s')
    (h : ∀ (h' : Heap) (tk : Nat), Ps items.size h' → Bas s.heap h' → Q (.ref s.heap.objs.size) { s with heap := h', toks := tk }) :
    wpAny (model P w) A (call (.type "set") [.ref l]) Q E s := by
  obtain ⟨c, tl, hmro⟩ := PySem.F.called_set.mro
  have hmade := PySem.F.called_set.made
  have hsub := PySem.F.called_set.sub
  refine wpAny_call (codeAny_of_tree ?_)
  show wpAny _ _ (callAny (.type "set") _) _ _ _
  refine wpAny_pure ⟨Code.quiet_builtin _ (by decide +kernel), codeAny_builtin PySem.F.entry_type_call ?_⟩
  rw [Around.under_plain (weight_type_call_type "set" [.ref l] []) rfl]
  have h1 := PySem.F.called_set.notType
  have h2 := PySem.F.called_set.canCreate
  have hct := PySem.F.typeCall_set_1 (.ref l)
  repeat (any_goals (first | assumption | wp_step))
  refine codeAny_mono (code_set_led1 (.ref l) (E := E) (Q₁ := fun obj s₁ => obj = .ref s.heap.objs.size ∧ s₁ = { s with heap := s.heap.push (newSetO w) }) ⟨rfl, rfl⟩) fun r s₁ hr => ?_
  match r, hr with
  | .error e, hr => exact hr
  | .ok .next, hr => exact hr.elim
  | .ok .brk, hr => exact hr.elim
  | .ok .cont, hr => exact hr.elim
  | .ok (.ret obj), hr =>
    obtain ⟨rfl, rfl⟩ := hr
    have hS : (s.heap.push (newSetO w)).get? s.heap.objs.size = some (newSetO w) := Heap.get?_push_size _ rfl
    have hT : Shared.TypeIs { s with heap := s.heap.push (newSetO w) } (.ref s.heap.objs.size) "set" := ⟨_, hS, rfl⟩
    have hli := PySem.F.called_set.init.lookup
    have hbi := PySem.F.called_set.init.bind (.ref s.heap.objs.size)
    repeat (any_goals (first | assumption | wp_step))
    refine codeAny_mono (codeAny_call_builtin (R := wants (fun r s₂ => r = .none ∧ ∃ h' tk, s₂ = { s with heap := h', toks := tk } ∧ Ps items.size h' ∧ Bas s.heap h') E)
      PySem.F.called_set.init.plain PySem.F.entry_set_init (check_set_init_1 hT ?_)) fun r₂ s₂ hr₂ => ?_
    · obtain ⟨⟨ocls, odict, odata, oslots⟩, hol, hcl, nl, hdl⟩ := hl
      simp only at hcl hdl
      subst hcl hdl
      have hol' : (s.heap.push (newSetO w)).get? l = some { cls := .type "list", dict := odict, data := .seq items nl, slots := oslots } := Heap.get?_push_of_some _ hol
      have hsls := PySem.F.sub_list_set
      have hslf := PySem.F.sub_list_frozenset
      have hne : (Value.type "list" == Value.type "dict") = false := by decide
      have hl1 : (s.heap.push (newSetO w)).IsList l items := ⟨_, hol', rfl, nl, rfl⟩
      unfold Builtin.«set.__init__» noKeywords Builtin.Frozenset.updateFrom
      generalize hPI : pyIter = PI
      wp_walk
      subst hPI
      apply wpAny_pyIter_list hl1
      refine wpAny_bind (wpAny_runValue ?_)
      have hlS : l < s.heap.objs.size := Heap.lt_size hol
      have hh3 : A.in1.in1.in1.handled = none := by simp [hh]
      have hz1 : (s.heap.push (newSetO w)).objs.size = s.heap.objs.size + 1 := Heap.size_push ..
      have hneI : l ≠ (s.heap.push (newSetO w)).objs.size := by rw [hz1]; exact Nat.ne_of_lt (Nat.lt_succ_of_lt hlS)
      have hSf : s.heap.objs.size ∉ [(s.heap.push (newSetO w)).objs.size, l] := by
        rw [hz1]
        simp only [List.mem_cons, List.not_mem_nil, or_false, not_or]
        exact ⟨Nat.ne_of_lt (Nat.lt_succ_self _), Nat.ne_of_gt hlS⟩
      have noneAt : ∀ b, s.heap.objs.size ≤ b → s.heap.get? b = none := fun b hb => by
        cases q : s.heap.get? b with
        | none => rfl
        | some o => exact absurd (Nat.lt_of_lt_of_le (Heap.lt_size q) hb) (Nat.lt_irrefl _)
      refine set_walk ((Walks.list hh3 _ l hneI items).toS) s.heap.objs.size hSf s.heap (noneAt _ (Nat.le_refl _)) (fun b hb => noneAt b ?_) Ps keep (fun i v s' Q E hv hb hp k => add i v _ s' Q E rfl hv hb hp k) (items.size - 0) 0 _ (by omega) (Nat.zero_le _)
        ⟨⟨_, Heap.get?_push_size _ rfl, rfl, rfl⟩, (hl1.push _)⟩ (fun b o e => Heap.get?_push_of_some _ (Heap.get?_push_of_some _ e)) (h0 _ (Heap.get?_push_of_some _ hS)) ?_
      · rw [List.mem_singleton.mp hb, hz1]
        exact Nat.le_succ _
      intro s' hm hB hS'
      obtain ⟨h', g2, d', tk', os'⟩ := s'
      have eg : g2 = s.gens := hm.gens
      have ed : d' = s.drawn := hm.drawn
      have eo : os' = s.os := hm.os
      subst eg
      subst ed
      subst eo
      show wpAny _ _ _ _ _ _
      refine wpAny_pure ?_
      show wpAny _ _ (ret Value.none) _ _ _
      exact wpAny_pure ⟨rfl, h', tk', rfl, hS', hB⟩
    · match r₂, hr₂ with
      | .error e, hr₂ => exact hr₂
      | .ok .next, hr₂ => exact hr₂.elim
      | .ok .brk, hr₂ => exact hr₂.elim
      | .ok .cont, hr₂ => exact hr₂.elim
      | .ok (.ret r), hr₂ =>
        obtain ⟨rfl, h', tk, rfl, hS', hk'⟩ := hr₂
        repeat (any_goals (first | assumption | wp_step))
        exact h _ _ hS' hk'
set_option maxHeartbeats 3200000 in
theorem call_set_tuple {l : Addr} {items : Array Value} {Q : Value → Shared → Prop} (hh : A.handled = none) (hl : s.heap.IsTuple l items) (Ps : Nat → Heap → Prop) (h0 : ∀ h, h.get? s.heap.objs.size = some (newSetO w) → Ps 0 h)
    (keep : ∀ i h h', Ps i h → (∀ o, h.get? s.heap.objs.size = some o → h'.get? s.heap.objs.size = some o) → Ps i h')
    (add : ∀ i v (A' : Around) (s' : Shared) (Q : Bool → Shared → Prop) (E : Value → Shared → Prop), A'.units = A.units + 3 → items[i]? = some v → Bas s.heap s'.heap → Ps i s'.heap → (∀ b h' tk, s'.toks ≤ tk → (∀ b o, b ≠ s.heap.objs.size → s'.heap.get? b = some o → h'.get? b = some o) → Ps (i + 1) h' → Q b { s' with heap := h', toks := tk }) →
      wpAny (model P w) A' (setAdd s.heap.objs.size v) Q E s')
    (h : ∀ (h' : Heap) (tk : Nat), Ps items.size h' → Bas s.heap h' → Q (.ref s.heap.objs.size) { s with heap := h', toks := tk }) :
    wpAny (model P w) A (call (.type "set") [.ref l]) Q E s := by
  obtain ⟨c, tl, hmro⟩ := PySem.F.called_set.mro
  have hmade := PySem.F.called_set.made
  have hsub := PySem.F.called_set.sub
  refine wpAny_call (codeAny_of_tree ?_)
  show wpAny _ _ (callAny (.type "set") _) _ _ _
  refine wpAny_pure ⟨Code.quiet_builtin _ (by decide +kernel), codeAny_builtin PySem.F.entry_type_call ?_⟩
  rw [Around.under_plain (weight_type_call_type "set" [.ref l] []) rfl]
  have h1 := PySem.F.called_set.notType
  have h2 := PySem.F.called_set.canCreate
  have hct := PySem.F.typeCall_set_1 (.ref l)
  repeat (any_goals (first | assumption | wp_step))
  refine codeAny_mono (code_set_led1 (.ref l) (E := E) (Q₁ := fun obj s₁ => obj = .ref s.heap.objs.size ∧ s₁ = { s with heap := s.heap.push (newSetO w) }) ⟨rfl, rfl⟩) fun r s₁ hr => ?_
  match r, hr with
  | .error e, hr => exact hr
  | .ok .next, hr => exact hr.elim
  | .ok .brk, hr => exact hr.elim
  | .ok .cont, hr => exact hr.elim
  | .ok (.ret obj), hr =>
    obtain ⟨rfl, rfl⟩ := hr
    have hS : (s.heap.push (newSetO w)).get? s.heap.objs.size = some (newSetO w) := Heap.get?_push_size _ rfl
    have hT : Shared.TypeIs { s with heap := s.heap.push (newSetO w) } (.ref s.heap.objs.size) "set" := ⟨_, hS, rfl⟩
    have hli := PySem.F.called_set.init.lookup
    have hbi := PySem.F.called_set.init.bind (.ref s.heap.objs.size)
    repeat (any_goals (first | assumption | wp_step))
    refine codeAny_mono (codeAny_call_builtin (R := wants (fun r s₂ => r = .none ∧ ∃ h' tk, s₂ = { s with heap := h', toks := tk } ∧ Ps items.size h' ∧ Bas s.heap h') E)
      PySem.F.called_set.init.plain PySem.F.entry_set_init (check_set_init_1 hT ?_)) fun r₂ s₂ hr₂ => ?_
    · obtain ⟨⟨ocls, odict, odata, oslots⟩, hol, hcl, nl, hdl⟩ := hl
      simp only at hcl hdl
      subst hcl hdl
      have hol' : (s.heap.push (newSetO w)).get? l = some { cls := .type "tuple", dict := odict, data := .seq items nl, slots := oslots } := Heap.get?_push_of_some _ hol
      have hsls := PySem.F.sub_tuple_set
      have hslf := PySem.F.sub_tuple_frozenset
      have hne : (Value.type "tuple" == Value.type "dict") = false := by decide
      have hl1 : (s.heap.push (newSetO w)).IsTuple l items := ⟨_, hol', rfl, nl, rfl⟩
      unfold Builtin.«set.__init__» noKeywords Builtin.Frozenset.updateFrom
      generalize hPI : pyIter = PI
      wp_walk
      subst hPI
      apply wpAny_pyIter_tuple hl1
      refine wpAny_bind (wpAny_runValue ?_)
      have hlS : l < s.heap.objs.size := Heap.lt_size hol
      have hh3 : A.in1.in1.in1.handled = none := by simp [hh]
      have hz1 : (s.heap.push (newSetO w)).objs.size = s.heap.objs.size + 1 := Heap.size_push ..
      have hneI : l ≠ (s.heap.push (newSetO w)).objs.size := by rw [hz1]; exact Nat.ne_of_lt (Nat.lt_succ_of_lt hlS)
      have hSf : s.heap.objs.size ∉ [(s.heap.push (newSetO w)).objs.size, l] := by
        rw [hz1]
        simp only [List.mem_cons, List.not_mem_nil, or_false, not_or]
        exact ⟨Nat.ne_of_lt (Nat.lt_succ_self _), Nat.ne_of_gt hlS⟩
      have noneAt : ∀ b, s.heap.objs.size ≤ b → s.heap.get? b = none := fun b hb => by
        cases q : s.heap.get? b with
        | none => rfl
        | some o => exact absurd (Nat.lt_of_lt_of_le (Heap.lt_size q) hb) (Nat.lt_irrefl _)
      refine set_walk ((Walks.tuple hh3 _ l hneI items).toS) s.heap.objs.size hSf s.heap (noneAt _ (Nat.le_refl _)) (fun b hb => noneAt b ?_) Ps keep (fun i v s' Q E hv hb hp k => add i v _ s' Q E rfl hv hb hp k) (items.size - 0) 0 _ (by omega) (Nat.zero_le _)
        ⟨⟨_, Heap.get?_push_size _ rfl, rfl, rfl⟩, (hl1.push _)⟩ (fun b o e => Heap.get?_push_of_some _ (Heap.get?_push_of_some _ e)) (h0 _ (Heap.get?_push_of_some _ hS)) ?_
      · rw [List.mem_singleton.mp hb, hz1]
        exact Nat.le_succ _
      intro s' hm hB hS'
      obtain ⟨h', g2, d', tk', os'⟩ := s'
      have eg : g2 = s.gens := hm.gens
      have ed : d' = s.drawn := hm.drawn
      have eo : os' = s.os := hm.os
      subst eg
      subst ed
      subst eo
      show wpAny _ _ _ _ _ _
      refine wpAny_pure ?_
      show wpAny _ _ (ret Value.none) _ _ _
      exact wpAny_pure ⟨rfl, h', tk', rfl, hS', hB⟩
    · match r₂, hr₂ with
      | .error e, hr₂ => exact hr₂
      | .ok .next, hr₂ => exact hr₂.elim
      | .ok .brk, hr₂ => exact hr₂.elim
      | .ok .cont, hr₂ => exact hr₂.elim
      | .ok (.ret r), hr₂ =>
        obtain ⟨rfl, h', tk, rfl, hS', hk'⟩ := hr₂
        repeat (any_goals (first | assumption | wp_step))
        exact h _ _ hS' hk'
end
end Mok05
set_option autoImplicit false
namespace Mok05
variable [Wd]
open PySem PySem.Spec PyProof.Rows L2
open PySem.W (dataLt)
theorem fit_sub {α : Type} [DecidableEq α] {l D : List α} (nd : l.Nodup) (h : ∀ x ∈ l, x ∈ D) : l.length ≤ D.length := by
  induction l generalizing D with
  | nil => simp
  | cons x l ih =>
    obtain ⟨h1, h2⟩ := List.nodup_cons.mp nd
    have hx := h x List.mem_cons_self
    have := ih (D := D.erase x) h2 fun y hy => by
      have ne : y ≠ x := by
        rintro rfl
        exact h1 hy
      exact (List.mem_erase_of_ne ne).mpr (h y (List.mem_cons_of_mem _ hy))
    rw [List.length_erase_of_mem hx] at this
    have : 0 < D.length := List.length_pos_of_mem hx
    rw [List.length_cons]
    omega
theorem take_if {α : Type} [DecidableEq α] {xs l : List α} {i : Nat} {k : α} (hk : xs[i]? = some k) (h : ∀ x, x ∈ l ↔ x ∈ xs.take i) : ∀ x, x ∈ (if k ∈ l then l else k :: l) ↔ x ∈ xs.take (i + 1) := by
  intro x
  rw [List.take_add_one, hk, Option.toList_some, List.mem_append, List.mem_singleton, ← h x]
  split
  · rename_i q
    exact ⟨.inl, fun z => z.elim id fun e => by rw [e]; exact q⟩
  · rw [List.mem_cons]
    exact Or.comm
theorem nd_if {α : Type} [DecidableEq α] {l : List α} {k : α} (h : l.Nodup) : (if k ∈ l then l else k :: l).Nodup := by
  split
  · exact h
  · rename_i q
    exact List.nodup_cons.mpr ⟨q, h⟩
section
variable {P : Program} {w : World} {A : Around} {E : Value → Shared → Prop} {s : Shared}
theorem put_text {a : Addr} {l : List Str} {k : Str} {u : Tok} {Q : Bool → Shared → Prop} (R : TxSet P w s.heap a l) (room : l.length + 1 < scanBound)
    (h : ∀ b h' tk, s.toks ≤ tk → (∀ b o, b ≠ a → s.heap.get? b = some o → h'.get? b = some o) → TxSet P w h' a (if k ∈ l then l else k :: l) → Q b { s with heap := h', toks := tk }) : wpAny (model P w) A (setAdd a (.str k u)) Q E s := by
  obtain ⟨D, ho, Fx, hr, hl⟩ := R
  unfold setAdd
  apply wpAny_holding
  refine wpAny_bind ((strKind P w).pyHash (PySem.Froz.is_str k u) ?_)
  by_cases hk : k ∈ l
  · apply add_old (s := { s with toks := s.toks + 1 }) ho Fx hk (by omega)
    exact h false s.heap _ (Nat.le_succ _) (fun b o _ e => e) (by rw [if_pos hk]; exact ⟨D, ho, Fx, hr, hl⟩)
  · apply PySem.Froz.add_x (s := { s with toks := s.toks + 1 }) ho Fx hk room
    refine h true _ _ (Nat.le_succ _) (fun b o hn e => ?_) (by rw [if_neg hk]; exact ⟨_, PySem.Froz.get_upd _ ho rfl, PySem.Froz.add_ok u Fx, addTx_ris hr, by rw [addTx_led]; exact hl⟩)
    rw [Heap.get?_update_ne _ _ _ _ hn]
    exact e
end
def rSetS (K : PySem.W.Frag) (P : Program) (w : World) (vs : List V) (H : Hp) (Q : VK) : Prop := ∃ (a : Addr) (ns D : List Str), vs = [.ref a] ∧ (SqL K H a (ns.map V.str) ∨ SqT K H a (ns.map V.str)) ∧ (∀ n ∈ ns, n ∈ D) ∧ D.length < 63 ∧
  ∀ (p : Addr) (l : List Str), l.Nodup → (∀ x, x ∈ l ↔ x ∈ ns) → H p = none → Q (.ref p) (upd H p (TxO P w p l))
theorem new_text {P : Program} {w : World} {h : Heap} {a : Addr} (e : h.get? a = some (newSetO w)) : TxSet P w h a [] :=
  ⟨(#[], 0, .fresh 0 0 (!w.params.followText "set-order")), e, .nil (by rfl), List.Pairwise.nil, by
    show _ ∨ (!w.params.followText "set-order") = true
    cases w.params.followText "set-order"
    · exact .inr rfl
    · exact .inl rfl⟩
section
variable {X : Cx}
theorem cr_setS (hc : X.calm = true) : CallR X (.type "set") (rSetS X.K X.prog X.w) := by
  intro pins s σ H vs us Q I r h
  obtain ⟨a, ns, D, rfl, hs, hD, hz, q⟩ := h
  rw [Vals.ref1 r]
  have core : ∀ its : List Value, Vals (ns.map V.str) its → (∀ {Ps : Nat → Heap → Prop}, (∀ h, h.get? s.heap.objs.size = some (newSetO X.w) → Ps 0 h) → (∀ i h h', Ps i h → (∀ o, h.get? s.heap.objs.size = some o → h'.get? s.heap.objs.size = some o) → Ps i h') →
      (∀ i v (A' : Around) (s' : Shared) (Q : Bool → Shared → Prop) (E : Value → Shared → Prop), A'.units = X.A.units + 3 → its.toArray[i]? = some v → Bas s.heap s'.heap → Ps i s'.heap → (∀ b h' tk, s'.toks ≤ tk → (∀ b o, b ≠ s.heap.objs.size → s'.heap.get? b = some o → h'.get? b = some o) → Ps (i + 1) h' → Q b { s' with heap := h', toks := tk }) → wpAny (model X.prog X.w) A' (setAdd s.heap.objs.size v) Q E s') →
      (∀ (h' : Heap) (tk : Nat), Ps its.toArray.size h' → Bas s.heap h' → EP X pins σ Q (.ref s.heap.objs.size) { s with heap := h', toks := tk }) → wpAny (model X.prog X.w) X.A (call (.type "set") [.ref a]) (EP X pins σ Q) X.xe s) → wpAny (model X.prog X.w) X.A (call (.type "set") [.ref a]) (EP X pins σ Q) X.xe s := by
    intro its rv go
    have hlen := rv.length
    rw [List.length_map] at hlen
    refine go (Ps := fun i h => ∃ l : List Str, l.Nodup ∧ (∀ x, x ∈ l ↔ x ∈ ns.take i) ∧ TxSet X.prog X.w h s.heap.objs.size l) (fun h e => ⟨[], List.nodup_nil, by simp, new_text e⟩) (fun i h h' ⟨l, h1, h2, h3⟩ k => ⟨l, h1, h2, h3.at k⟩)
      (fun i v A' s' Q E _ hv _ ⟨l, h1, h2, h3⟩ k => ?_) fun h' tk ⟨l, h1, h2, h3⟩ kp => ?_
    · rw [List.getElem?_toArray] at hv
      obtain ⟨u, k1, k2⟩ := vals_at rv hv
      rw [List.getElem?_map] at k1
      obtain ⟨z, k3, rfl⟩ := Option.map_eq_some_iff.mp k1
      obtain ⟨t, rfl⟩ := k2
      have := fit_sub h1 fun y hy => hD y (List.mem_of_mem_take ((h2 y).mp hy))
      exact put_text h3 (by unfold scanBound; omega) fun b h' tk htk kp R => k b h' tk htk kp ⟨_, nd_if h1, take_if k3 h2, R⟩
    · rw [List.size_toArray, ← hlen, List.take_length] at h2
      exact ⟨.ref s.heap.objs.size, _, I.laid (t' := tk) kp (Nat.le_refl _) (txO_new h3 h1), rfl, q _ l h1 h2 (I.hok.fresh (Nat.le_refl _))⟩
  rcases hs with hs | hs
  · obtain ⟨its, rv, hl, _⟩ := I.list hs
    exact core its rv fun {Ps} a1 a2 a3 a4 => call_set_list (I.ok.hd hc) hl.isList Ps a1 a2 a3 a4
  · obtain ⟨its, rv, hl, _⟩ := I.tuple hs
    exact core its rv fun {Ps} a1 a2 a3 a4 => call_set_tuple (I.ok.hd hc) hl Ps a1 a2 a3 a4
end
end Mok05
set_option autoImplicit false
namespace Mok05
variable [Wd]
open PySem PySem.Spec PyProof.Rows L2
open PySem.W (dataLt)
section
variable {X : Cx} {ct : Ct} {Z : WX}
end
end Mok05
set_option autoImplicit false
namespace Mok05
variable [Wd]
open PySem PySem.Spec PyProof.Rows L2
open PySem.W (dataLt)
section
variable {P : Program} {w : World} {A : Around} {E : Value → Shared → Prop} {s : Shared} {a : Addr} {L : List (Addr × List Int)} {es : Array (Int × Value)} {ep : Nat} {t : SetTable}
end
end Mok05
set_option autoImplicit false
namespace Mok05
variable [Wd]
open PySem PySem.Spec PyProof.Rows L2
open PySem.W (dataLt)
def intsD : List PyData → Option (List Int)
  | [] => some []
  | .int i :: r => (intsD r).map (i :: ·)
  | _ => none
section
variable {X : Cx}
def listsV : W → Mem → Option (List PyData)
  | .d (.list xs), _ => some xs
  | .r n, μ => match μ[n]? with
    | some (.l xs) => some xs
    | _ => none
  | _, _ => none
theorem lists_ok {K : PySem.W.Frag} {m : Ms} {H : Hp} {μ : Mem} {w : W} {v : V} {xs : List PyData} (r : RV K m H w v) (hh : RH K m H μ) (e : listsV w μ = some xs) : ∃ a vs, v = .ref a ∧ SqL K H a vs ∧ DvAll K (Live m) H vs xs := by
  cases w with
  | d x =>
    match x, r, e with
    | .list ys, .lst hs ha, rfl => exact ⟨_, _, rfl, hs.sq, ha⟩
  | r n =>
    simp only [listsV] at e
    split at e
    · rename_i ys q
      cases e
      obtain ⟨a, vs, h1, rfl, h2, h3⟩ := lst_at r hh q
      exact ⟨a, vs, rfl, .inl (.inl h2), h3⟩
    · cases e
  | s ns => cases e
  | e _ _ _ _ => cases e
  | o _ => cases e
end
end Mok05
set_option autoImplicit false
namespace Mok05
variable [Wd]
open PySem PySem.Spec PyProof.Rows L2
open PySem.W (dataLt)
section
variable {prog : Program} {w : World} {A : Around} {E : Value → Shared → Prop} {s : Shared}
end
section
variable {X : Cx}
end
end Mok05
set_option autoImplicit false
namespace Mok05
open PySem PySem.Spec PyProof.Rows L2
variable [Wd]
section
variable {K : PySem.W.Frag} {m : Ms} {H : Hp} {μ : Mem}
end
section
variable {X : Cx} {ct : Ct} {Z : WX}
end
end Mok05
set_option autoImplicit false
namespace Mok05
open PySem PySem.Spec PyProof.Rows L2
variable [Wd]
def dPairs : List (DE × DE) → Env → Mem → Res (List (PyData × PyData))
  | [], _, μ => .ok [] μ
  | (k, v) :: r, ρ, μ => bnd (noX (k ρ μ)) fun w μ1 => bnd (noX (v ρ μ1)) fun z μ2 => bnd (dPairs r ρ μ2) fun ps μ3 => match w, z with
    | .d x, .d y => if (keyD x).isSome = true then .ok ((x, y) :: ps) μ3 else .bad
    | _, _ => .bad
section
variable {X : Cx} {ct : Ct} {Z : WX}
def opAbs : Op
  | [.d (.int i)], μ => some (.d (.int (if i < 0 then -i else i)), μ)
  | _, _ => none
end
end Mok05
set_option autoImplicit false
namespace Mok05
open PySem PySem.Spec PyProof.Rows L2
variable [Wd]
def LikeOk (xs : List PyData) : Prop := PySem.W.AlikeAll xs ∧ PyData.canLayAll0 xs = true ∧ PyData.depthAll xs ≤ 8
theorem lay_mem {xs : List PyData} (h : PyData.canLayAll0 xs = true) {x : PyData} (hx : x ∈ xs) : x.canLay0 = true := by
  induction xs with
  | nil => cases hx
  | cons y ys ih =>
    simp only [PyData.canLayAll0, Bool.and_eq_true] at h
    rcases List.mem_cons.mp hx with rfl | hx
    · exact h.1
    · exact ih h.2 hx
section
variable {X : Cx}
theorem pick_of {m : Ms} {H : Hp} {pins : List (Addr × Obj)} {σ : L2.St} {s : Shared} {vs : List V} {ds : List PyData} {its : List Value} {i : Nat} {v : Value} {h' : Heap} {tk : Nat} {d : PyData} {bs : List Addr} (I : Inv X pins σ H { s with heap := h', toks := tk })
    (rv : Vals vs its) (hd : DvAll X.K (Live m) H vs ds) (hl : PyData.canLayAll0 ds = true) (hi : its.toArray[i]? = some v) (hr : Reads h' v d bs) : ∃ u, RelV u v ∧ RV X.K m H (.d d) u := by
  rw [List.getElem?_toArray] at hi
  obtain ⟨u, h1, h2⟩ := vals_at rv hi
  obtain ⟨e, h3, h4⟩ := hd.get' h1
  have le := lay_mem hl (List.mem_of_getElem? h3)
  obtain ⟨as, r⟩ := Dp.reads I _ _ _ (h4.dp le) h2
  obtain rfl := reads_uniq _ _ _ _ _ le r hr
  exact ⟨u, h2, h4⟩
end
end Mok05
set_option autoImplicit false
namespace Mok05
open PySem PySem.Spec PyProof.Rows L2
theorem walkU {l : PySem.W.OpenLaw} {q : Program} {loose : List Str} {XP : (Str → Option Value) → Heap → Prop} {YP : World → Heap → Prop} {d : DefRec} {K : Params → PySem.W.Frag} {k : Nat} {F : Fn} {nm p : Str} {names : List Str} (hn : l.most = some 63) (hdf : d.params.defaults = [])
    (hY : ∀ (w : World) (h : Heap), YP w h → (K w.params).In h) (hk : k ≤ 230) (hnm : d.name = nm) (hrec : (names.all fun x => ((recsOf q).find? fun e => e.name == x).isSome) = true)
    (htab : ∀ (w : World), ∀ x ∈ names, ∃ c T, PySem.W.tabIn (K w.params) x = some (c, T) ∧ (K w.params).lookup T = none)
    (hdis : ∀ (w : World), ∀ x ∈ names, ∀ y ∈ names, ∀ c c' T, PySem.W.tabIn (K w.params) x = some (c, T) → PySem.W.tabIn (K w.params) y = some (c', T) → x = y)
    (C : ∀ [Wd] (w : World) (mg : Str → Option Value) (h base : Heap), Wd.P = l.prog → Wd.w = w → (K w.params).In h → h.Ns mainGlobals mg → (∀ x ∈ names, LamAt (K w.params) mg base x) → CalP l.prog w (K w.params) mg base (ctK (K w.params)) k nm [p] F)
    (hF : ∀ [Wd] (ns : List Int), ns.length ≤ 63 → (∀ k ∈ ns, Builtin.Int.intBits k ≤ 1048576) → ∃ μ, F [.s ns] [] = .ok (.d (.bool true)) μ) :
    PySem.W.WalkO q loose XP YP l.row.toRowW d [] (fun f vs => PySem.call f vs) := by
  refine walkT (names := names) (p := p) hn hdf hY hk hnm hrec (fun w h X x hx c P e => ?_) (fun w mg h base X G tb => ?_) hF
  · obtain ⟨c', T, e1, e2⟩ := htab w x hx
    rw [e] at e1
    cases e1
    exact e2
  · letI WI : Wd := ⟨l.prog, w, tabsOf (K w.params) names⟩
    refine C w mg h base rfl rfl X G fun x hx => ?_
    obtain ⟨c, T, e1, e2⟩ := htab w x hx
    refine lamAt_mk X G e1 (tb x hx c T e1) (List.mem_filterMap.mpr ⟨x, hx, by rw [e1]; rfl⟩) fun r hr hq => ?_
    obtain ⟨y, hy, ey⟩ := List.mem_filterMap.mp (show r ∈ tabsOf (K w.params) names from hr)
    obtain ⟨cp, hc, rfl⟩ := Option.map_eq_some_iff.mp ey
    obtain ⟨c', T'⟩ := cp
    change T' = T at hq
    subst hq
    have := hdis w x hx y hy _ _ _ e1 hc
    subst this
    rfl
end Mok05
set_option autoImplicit false
namespace Mok05
open PySem PySem.Spec PyProof.Rows L2
variable [Wd]
end Mok05
set_option autoImplicit false
namespace Mok05
open PySem PySem.Spec PyProof.Rows L2
variable [Wd]
@[simp] theorem okO_abs {i : Int} {μ : Mem} {P : W → Mem → Prop} : OkO (opAbs [.d (.int i)] μ) P = P (.d (.int (if i < 0 then -i else i))) μ := rfl
section
variable {ns : List Int} {a : Int} {r : Mem} {N B C : Env → Mem → Prop} {R : W → Mem → Prop}
end
end Mok05
set_option autoImplicit false
namespace Mok05
open PySem PySem.Spec PyProof.Rows L2
variable [Wd]
end Mok05
set_option autoImplicit false
namespace Mok05
open PySem PySem.Spec PyProof.Rows L2
variable [Wd]
section
variable {ρ : Env} {μ : Mem} {P : W → Mem → Prop} {Pp : List (PyData × PyData) → Mem → Prop}
@[simp] theorem ok_dPairs0 : Ok (dPairs [] ρ μ) Pp = Pp [] μ := rfl
end
end Mok05
set_option autoImplicit false
namespace Mok05
open PySem PySem.Spec PyProof.Rows L2
variable [Wd]
section
variable (w : Web) (a : Nat)
theorem take_snoc {α : Type} {l l1 l2 : List α} {x : α} {n : Nat} (e : l = l1 ++ x :: l2) (h : n = l1.length) : l.take (n + 1) = l.take n ++ [x] := by
  subst h e
  simp [List.take_append, List.take_of_length_le]
end
end Mok05
set_option autoImplicit false
namespace Mok05
open PySem PySem.Spec PyProof.Rows L2
variable [Wd]
end Mok05
set_option autoImplicit false
namespace Mok05
open PySem PySem.Spec PyProof.Rows L2
open PySem.W (dataLt)
variable [Wd]
@[simp] theorem natsD_nil : natsD [] = [] := rfl
theorem str_eqv (a b : Str) : PyData.eqv (.str a) (.str b) = decide (a = b) := by
  by_cases h : a = b <;> simp [PyData.eqv, h]
end Mok05
set_option autoImplicit false
namespace Mok05
open PySem PySem.Spec PyProof.Rows L2
open PySem.W (dataLt)
variable [Wd]
end Mok05
set_option autoImplicit false
namespace Mok05
open PySem PySem.Spec PyProof.Rows L2
variable [Wd]
section
variable {ρ : Env} {μ : Mem} {Pa : List PyData → Mem → Prop}
theorem lc_of {α : Type} {d : α → PyData} {xs : List α} {g : PyData → Env → Option Env} {tt : DT} {te : DE} (s : α → Env) (p : α → Bool) (f : α → PyData) (hz : xs.length ≤ 1000000) (hg : ∀ q ∈ xs, g (d q) ρ = some (s q))
    (h : ∀ q ∈ xs, Ok (tt (s q) μ) fun b μ' => b = p q ∧ μ' = μ ∧ (b = true → Ok (te (s q) μ) fun w μ' => w = .d (f q) ∧ μ' = μ)) (q : Pa ((xs.filter p).map f) μ) :
    Ok (lcL (xs.map d, none) g (lcOne tt te) ρ (xs.map d) [] μ) Pa := by
  refine lc_invG (s := (xs.map d, none)) (xs := xs.map d) (fun done acc μ' => acc = ((xs.take done.length).filter p).map f ∧ μ' = μ) rfl (fun _ _ _ _ _ => trivial) ⟨by simp, rfl⟩ ?_ ?_
  · rintro done x r acc μ' e ⟨rfl, rfl⟩
    obtain ⟨l1, y, l2, el, hd, rfl, -⟩ := map_split e
    have hln : done.length = l1.length := by rw [hd]; simp
    have hy : y ∈ xs := by rw [el]; simp
    refine ⟨_, hg y hy, ?_⟩
    rw [ok_lcOne]
    refine (h y hy).mono fun b μ' ⟨h2, h3, h4⟩ => ?_
    subst h2 h3
    rw [List.length_append, List.length_singleton, take_snoc el hln, List.filter_append, List.map_append]
    split
    · rename_i hp
      refine (h4 hp).mono fun w μ' h5 => ?_
      obtain ⟨rfl, rfl⟩ := h5
      have hf := List.length_filter_le p (xs.take done.length)
      rw [List.length_take] at hf
      have hl : done.length < xs.length := by rw [el, hln]; simp
      have hb : (((xs.take done.length).filter p).map f).length ≤ 999999 := by rw [List.length_map]; omega
      refine ⟨?_, by simp [hp], rfl⟩
      exact Nat.lt_of_lt_of_le (by omega) (le_million (Nat.le_refl 1000000))
    · rename_i hp
      refine ⟨by simp [hp], rfl⟩
  · rintro acc μ' ⟨rfl, rfl⟩
    rw [List.length_map, List.take_length]
    exact q
end
end Mok05
set_option autoImplicit false
namespace Mok05
open PySem PySem.Spec PyProof.Rows L2
variable [Wd]
section
variable {X : Cx} {ct : Ct} {Z : WX}
end
end Mok05
set_option autoImplicit false
namespace Mok05
open PySem PySem.Spec PyProof.Rows L2
variable [Wd]
end Mok05
set_option autoImplicit false
namespace Mok05
open PySem PySem.Spec PyProof.Rows L2
variable [Wd]
end Mok05
set_option autoImplicit false
namespace Mok05
open PySem PySem.Spec PyProof.Rows L2
open PySem.W (dataLt)
variable [Wd]
end Mok05
set_option autoImplicit false
namespace Mok05
open PySem PySem.Spec PyProof.Rows L2
open PySem.W (dataLt)
variable [Wd]
end Mok05
set_option autoImplicit false
namespace Mok05
open PySem PySem.Spec PyProof.Rows L2
open PySem.W (dataLt)
variable [Wd]
end Mok05
set_option autoImplicit false
namespace Mok05
open PySem PySem.Spec PyProof.Rows L2
open PySem.W (dataLt)
variable [Wd]
end Mok05
set_option autoImplicit false
namespace Mok05
open PySem PySem.Spec PyProof.Rows L2
variable [Wd]
section
variable {x : MO} {r t : Mem} {i : Nat} {o : MO}
end
end Mok05
set_option autoImplicit false
namespace Mok05
open PySem PySem.Spec PyProof.Rows L2
variable [Wd]
end Mok05
set_option autoImplicit false
namespace Mok05
open PySem PySem.Spec PyProof.Rows L2
variable [Wd]
def PA (m S : Nat) (A : List (Str × List (Nat × Nat))) : Prop := ∀ p ∈ A, (∀ z ∈ p.2, z.1 < m ∧ z.2 < m) ∧ p.2.length ≤ S
end Mok05
set_option autoImplicit false
namespace Mok05
open PySem PySem.Spec PyProof.Rows L2
variable [Wd]
section
variable {m : Nat} {P0 R0 : PyData}
end
end Mok05
set_option autoImplicit false
namespace Mok05
open PySem PySem.Spec PyProof.Rows L2
variable [Wd]
section
variable {m : Nat} {P0 : PyData}
end
end Mok05
set_option autoImplicit false
namespace Mok05
open PySem PySem.Spec PyProof.Rows L2
variable [Wd]
def LetR (l : List Str) : Prop := (("ends" : Str) ∈ l → l = (["ends", "on"] : List Str)) ∧ (("round" : Str) ∈ l → ("on" : Str) ∈ l)
instance (l : List Str) : Decidable (LetR l) := by unfold LetR; infer_instance
end Mok05
set_option autoImplicit false
namespace Mok05
open PySem PySem.Spec PyProof.Rows L2
variable [Wd]
end Mok05
set_option autoImplicit false
namespace Mok05
open PySem PySem.Spec PyProof.Rows L2
variable [Wd]
end Mok05
set_option autoImplicit false
namespace Mok05
open PySem PySem.Spec PyProof.Rows L2
variable [Wd]
end Mok05
set_option autoImplicit false
namespace Mok05
open PySem PySem.Spec PyProof.Rows L2
variable [Wd]
end Mok05
set_option autoImplicit false
namespace Mok05
open PySem PySem.Spec PyProof.Rows L2
variable [Wd]
end Mok05
set_option autoImplicit false
namespace Mok05
open PySem PySem.Spec PyProof.Rows L2
variable [Wd]
end Mok05
set_option autoImplicit false
namespace Mok05
open PySem PySem.Spec PyProof.Rows L2
end Mok05
set_option autoImplicit false
namespace Mok05
open PySem PySem.Spec PyProof.Rows L2
variable [Wd]
end Mok05
set_option autoImplicit false
namespace Mok05
open PySem PySem.Spec PyProof.Rows L2
mutual
def Sg.ok2 (hs : List Str) (p : Bool) : Sg → Prop
  | .lt x => x = "a" ∨ x = "b" ∨ x = "zz"
  | .no s => s.ok2 hs p
  | .many _ l => Sg.ok2s hs p l ∧ l.length ≤ 2
  | .so a b => a.ok2 hs p ∧ b.ok2 hs p
  | .tl a b => p = false ∧ a.ok2 hs p ∧ b.ok2 hs p
  | .mod _ h s => h ∈ hs ∧ s.ok2 hs p
def Sg.ok2s (hs : List Str) (p : Bool) : List Sg → Prop
  | [] => True
  | s :: r => s.ok2 hs p ∧ Sg.ok2s hs p r
end
variable [Wd]
end Mok05
set_option autoImplicit false
namespace Mok05
open PySem PySem.Spec PyProof.Rows L2
variable [Wd]
end Mok05
set_option autoImplicit false
namespace Mok05
open PySem PySem.Spec PyProof.Rows L2
end Mok05
set_option autoImplicit false
namespace Mok05
open PySem PySem.Spec PyProof.Rows L2
variable [Wd]
end Mok05
set_option autoImplicit false
namespace Mok05
open PySem PySem.Spec PyProof.Rows L2
variable [Wd]
end Mok05
set_option autoImplicit false
namespace Mok05
open PySem PySem.Spec PyProof.Rows L2
variable [Wd]
end Mok05
set_option autoImplicit false
namespace Mok05
open PySem PySem.Spec PyProof.Rows L2
variable [Wd]
end Mok05
set_option autoImplicit false
set_option maxHeartbeats 4000000
namespace Mok05
open PySem PySem.Spec PyProof.Rows L2
variable [Wd]
end Mok05
set_option autoImplicit false
set_option maxHeartbeats 4000000
namespace Mok05
open PySem PySem.Spec PyProof.Rows L2
variable [Wd]
end Mok05
set_option autoImplicit false
set_option maxHeartbeats 4000000
namespace Mok05
open PySem PySem.Spec PyProof.Rows L2
variable [Wd]
section
variable {ρ ρ1 : Env} {μ μ1 : Mem}
end
end Mok05
set_option autoImplicit false
set_option maxHeartbeats 4000000
namespace Mok05
open PySem PySem.Spec PyProof.Rows L2
open PySem.W (dataLt)
variable [Wd]
end Mok05
set_option autoImplicit false
set_option maxHeartbeats 4000000
namespace Mok05
open PySem PySem.Spec PyProof.Rows L2
open PySem.W (dataLt)
variable [Wd]
end Mok05
set_option autoImplicit false
set_option maxHeartbeats 4000000
namespace Mok05
open PySem PySem.Spec PyProof.Rows L2
variable [Wd]
end Mok05
set_option autoImplicit false
set_option maxHeartbeats 4000000
namespace Mok05
open PySem PySem.Spec PyProof.Rows L2
variable [Wd]
end Mok05
set_option autoImplicit false
set_option maxHeartbeats 4000000
namespace Mok05
open PySem PySem.Spec PyProof.Rows L2
variable [Wd]
end Mok05
set_option autoImplicit false
set_option maxHeartbeats 4000000
namespace Mok05
open PySem PySem.Spec PyProof.Rows L2
variable [Wd]
section
variable {X : Cx}
end
end Mok05
set_option autoImplicit false
set_option maxHeartbeats 4000000
namespace Mok05
open PySem PySem.Spec PyProof.Rows L2
variable [Wd]
end Mok05
set_option autoImplicit false
set_option maxHeartbeats 4000000
namespace Mok05
open PySem PySem.Spec PyProof.Rows L2
variable [Wd]
end Mok05
set_option autoImplicit false
set_option maxHeartbeats 4000000
namespace Mok05
open PySem PySem.Spec PyProof.Rows L2
variable [Wd]
end Mok05
set_option autoImplicit false
set_option maxHeartbeats 4000000
namespace Mok05
open PySem PySem.Spec PyProof.Rows L2
variable [Wd]
end Mok05
set_option autoImplicit false
set_option maxHeartbeats 4000000
namespace Mok05
open PySem PySem.Spec PyProof.Rows L2
end Mok05
set_option autoImplicit false
set_option maxHeartbeats 4000000
namespace Mok05
open PySem PySem.Spec PyProof.Rows L2
variable [Wd]
end Mok05
set_option autoImplicit false
set_option maxHeartbeats 4000000
namespace Mok05
open PySem PySem.Spec PyProof.Rows L2
variable [Wd]
def opSetd : Op
  | [.r n, .d x, .d y], μ => match μ[n]? with
    | some (.k kvs) => if ((keyD x).isSome && sz (kvs.length + 1)) = true then (match getD kvs x with
      | some v => some (.d v, μ)
      | none => some (.d y, μ.set n (.k (putD kvs x y)))) else none
    | _ => none
  | _, _ => none
section
variable {X : Cx}
end
section
variable {μ : Mem} {P : W → Mem → Prop}
end
end Mok05
set_option autoImplicit false
set_option maxHeartbeats 4000000
namespace Mok05
open PySem PySem.Spec PyProof.Rows L2
variable [Wd]
end Mok05
set_option autoImplicit false
set_option maxHeartbeats 4000000
namespace Mok05
open PySem PySem.Spec PyProof.Rows L2
variable [Wd]
end Mok05
set_option autoImplicit false
set_option maxHeartbeats 4000000
namespace Mok05
open PySem PySem.Spec PyProof.Rows L2
variable [Wd]
end Mok05
set_option autoImplicit false
set_option maxHeartbeats 4000000
namespace Mok05
open PySem PySem.Spec PyProof.Rows L2
variable [Wd]
mutual
theorem body_core : ∀ (s : Sg), s.pl → ∀ {w : Bool} {o : Str} {b : Sg}, Sg.mod w o b ∈ allP (core s) → ∃ t : Sg, t.pl ∧ b = core t
  | .lt x, _, w, o, b, h => by simp [core, allP] at h
  | .no s, p, w, o, b, h => by
    simp only [core, allP, List.mem_cons] at h
    rcases h with h | h
    · cases h
    · exact body_core s p h
  | .many v l, p, w, o, b, h => by
    simp only [core, allP, List.mem_cons] at h
    rcases h with h | h
    · cases h
    · exact bodys_core l p h
  | .so a c, p, w, o, b, h => by
    simp only [core, allP, List.mem_cons, List.mem_append] at h
    rcases h with h | h | h
    · cases h
    · exact body_core a p.1 h
    · exact body_core c p.2 h
  | .tl a c, p, w, o, b, h => p.elim
  | .mod true x s, p, w, o, b, h => by
    simp only [core, if_true, allP, List.mem_cons] at h
    rcases h with h | h | h | h
    · cases h
    · cases h; exact ⟨.no s, p, by simp [core]⟩
    · cases h
    · exact body_core s p h
  | .mod false x s, p, w, o, b, h => by
    simp only [core, Bool.false_eq_true, if_false, allP, List.mem_cons] at h
    rcases h with h | h
    · cases h; exact ⟨s, p, rfl⟩
    · exact body_core s p h
theorem bodys_core : ∀ (l : List Sg), Sg.pls l → ∀ {w : Bool} {o : Str} {b : Sg}, Sg.mod w o b ∈ allPs (cores l) → ∃ t : Sg, t.pl ∧ b = core t
  | [], _, w, o, b, h => by simp [cores, allPs] at h
  | s :: r, p, w, o, b, h => by
    simp only [cores, allPs, List.mem_append] at h
    rcases h with h | h
    · exact body_core s p.1 h
    · exact bodys_core r p.2 h
end
mutual
theorem atoms_cnt : ∀ s : Sg, (allP (core s)).countP Sg.atom ≤ s.sz
  | .lt x => by simp [core, allP, Sg.sz, atom_lt]
  | .no s => by
    have := atoms_cnt s
    simp only [core, allP, List.countP_cons, atom_no, Sg.sz]
    simp; omega
  | .many v l => by
    have := atoms_cnts l
    simp only [core, allP, List.countP_cons, atom_many, Sg.sz]
    simp; omega
  | .so a c => by
    have := atoms_cnt a
    have := atoms_cnt c
    simp only [core, allP, List.countP_cons, List.countP_append, atom_so, Sg.sz]
    simp; omega
  | .tl a c => by
    have := atoms_cnt a
    have := atoms_cnt c
    simp only [core, allP, List.countP_cons, List.countP_append, Sg.sz]
    have e : (Sg.tl (core a) (core c)).atom = false := rfl
    simp [e]; omega
  | .mod true x s => by
    have := atoms_cnt s
    simp only [core, if_true, allP, List.countP_cons, atom_no, atom_must, Sg.sz]
    simp; omega
  | .mod false x s => by
    have := atoms_cnt s
    simp only [core, Bool.false_eq_true, if_false, allP, List.countP_cons, atom_must, Sg.sz]
    simp; omega
theorem atoms_cnts : ∀ l : List Sg, (allPs (cores l)).countP Sg.atom ≤ Sg.szs l
  | [] => by simp [cores, allPs]
  | s :: r => by
    have := atoms_cnt s
    have := atoms_cnts r
    simp only [cores, allPs, List.countP_append, Sg.szs]
    omega
end
def isM : Sg → Bool
  | .mod _ _ _ => true
  | _ => false
def mBd : Sg → Sg
  | .mod _ _ s => s
  | a => a
structure AtB (A : List Sg) : Prop extends AtA A where
  cg : ∀ a ∈ A, isM a = true → Cg A (mBd a)
theorem at_of2 {n : Nat} {s : Sg} (h : Cs n s) (p : s.pl) : ∃ A : List Sg, atomsD s = Sg.ds A ∧ AtB A ∧ A.length ≤ s.sz ∧ Co A (core s) ∧ ∀ a ∈ A, a ∈ allP (core s) := by
  have hc := core_sz s
  have o : Ord (Sg.ds ((allP (core s)).filter Sg.atom)) := h.ord.sub fun x hx => by
    obtain ⟨t, h1, rfl⟩ := mem_ds.mp hx
    exact mem_ds.mpr ⟨t, (List.mem_filter.mp h1).1, rfl⟩
  obtain ⟨A, e, hm, hl⟩ := rise_ds o
  have hm' : ∀ a, a ∈ A ↔ a ∈ allP (core s) ∧ a.atom = true := fun a => by rw [hm, List.mem_filter]
  have hlen : A.length ≤ s.sz := by
    have := atoms_cnt s
    rw [List.countP_eq_length_filter] at this
    omega
  have nd : A.Nodup := by
    have hp := (rise_spec o).1
    rw [e, ds_map, List.pairwise_map] at hp
    refine List.Pairwise.imp (fun {a b} hab => ?_) hp
    intro z
    subst z
    have := lt_asym _ _ hab
    rw [hab] at this
    cases this
  have sk : ∀ a ∈ A, a.sok := fun a ha => (allP_sub ((hm' a).mp ha).1).1 (hc.2.2 h.sok)
  refine ⟨A, e, ⟨⟨nd, sk, fun a ha => ((hm' a).mp ha).2, by have := h.sz; omega⟩, fun a ha hi => ?_⟩, hlen, co_core s p fun x hx ha => (hm' x).mpr ⟨hx, ha⟩, fun a ha => ((hm' a).mp ha).1⟩
  obtain ⟨ha1, ha2⟩ := (hm' a).mp ha
  cases a with
  | mod w o b =>
    obtain ⟨t, tp, rfl⟩ := body_core s p ha1
    have hb : core t ∈ allP (core s) := (allP_sub ha1).2.2.2 _ (by simp only [allP]; exact List.mem_cons_of_mem _ (by cases hh : core t <;> simp [allP]))
    obtain ⟨b1, b2, b3, b4⟩ := allP_sub hb
    have hd := allP_dep _ (Nat.le_refl _) hb
    exact ⟨show (core t).ht < 60 by have := h.cht; omega, b1 (hc.2.2 h.sok), Nat.le_trans hd (Nat.le_trans h.dep (by decide)), co_core t tp fun x hx ha => (hm' x).mpr ⟨b4 x hx, ha⟩⟩
  | lt x => cases hi
  | no s => cases hi
  | so s t => cases hi
  | many w l => cases hi
  | tl s t => cases hi
end Mok05
set_option autoImplicit false
set_option maxHeartbeats 4000000
namespace Mok05
open PySem PySem.Spec PyProof.Rows L2
variable [Wd]
end Mok05
set_option autoImplicit false
set_option maxHeartbeats 4000000
namespace Mok05
open PySem PySem.Spec PyProof.Rows L2
variable [Wd]
end Mok05
set_option autoImplicit false
set_option maxHeartbeats 4000000
namespace Mok05
open PySem PySem.Spec PyProof.Rows L2
variable [Wd]
def v2 (r0 r1 : Sg → Bool) (i : Nat) : Sg → Bool := if i = 0 then r0 else r1
end Mok05
set_option autoImplicit false
set_option maxHeartbeats 4000000
namespace Mok05
open PySem PySem.Spec PyProof.Rows L2
variable [Wd]
end Mok05
set_option autoImplicit false
set_option maxHeartbeats 4000000
namespace Mok05
open PySem PySem.Spec PyProof.Rows L2
variable [Wd]
end Mok05
set_option autoImplicit false
set_option maxHeartbeats 4000000
namespace Mok05
open PySem PySem.Spec PyProof.Rows L2
variable [Wd]
end Mok05
set_option autoImplicit false
set_option maxHeartbeats 4000000
namespace Mok05
open PySem PySem.Spec PyProof.Rows L2
variable [Wd]
end Mok05
set_option autoImplicit false
set_option maxHeartbeats 4000000
namespace Mok05
open PySem PySem.Spec PyProof.Rows L2
variable [Wd]
end Mok05
set_option autoImplicit false
set_option maxHeartbeats 4000000
namespace Mok05
open PySem PySem.Spec PyProof.Rows L2
variable [Wd]
end Mok05
set_option autoImplicit false
set_option maxHeartbeats 4000000
namespace Mok05
open PySem PySem.Spec PyProof.Rows L2
variable [Wd]
mutual
def Sg.ok3 (hs : List Str) : Sg → Prop
  | .lt x => x = "p" ∨ x = "q" ∨ x = "r"
  | .no s => s.ok3 hs
  | .many _ l => Sg.ok3s hs l ∧ l.length ≤ 4
  | .so a b => a.ok3 hs ∧ b.ok3 hs
  | .tl _ _ => False
  | .mod _ h s => h ∈ hs ∧ s.ok3 hs
def Sg.ok3s (hs : List Str) : List Sg → Prop
  | [] => True
  | s :: r => s.ok3 hs ∧ Sg.ok3s hs r
end
end Mok05
set_option autoImplicit false
set_option maxHeartbeats 4000000
namespace Mok05
open PySem PySem.Spec PyProof.Rows L2
variable [Wd]
end Mok05
set_option autoImplicit false
namespace Mok05
variable [Wd]
open PySem PySem.Spec PyProof.Rows L2
open PySem.W (dataLt)
section
variable {prog : Program} {w : World} {A : Around} {E : Value → Shared → Prop} {s : Shared}
end
section
variable {X : Cx}
end
end Mok05
set_option autoImplicit false
set_option maxHeartbeats 4000000
namespace Mok05
open PySem PySem.Spec PyProof.Rows L2
open PySem.W (dataLt keyToksAll)
variable [Wd]
end Mok05
set_option autoImplicit false
set_option maxHeartbeats 4000000
namespace Mok05
open PySem PySem.Spec PyProof.Rows L2
open PySem.W (dataLt)
variable [Wd]
theorem okO_tup2 {x y : PyData} {μ : Mem} {Pw : W → Mem → Prop} : OkO (opTup [.d x, .d y] μ) Pw = Pw (.d (.tuple [x, y])) μ := by
  have e : datas [W.d x, W.d y] = some [x, y] := rfl
  rw [okO_tup, e]
  exact propext ⟨fun h => h.2, fun h => ⟨le_size (by decide : 2 ≤ 1000), h⟩⟩
def M3 (xs : List PyData) (r : Mem) (F Q B : MO) : Mem := .l xs :: (r ++ [F, Q, B])
section
variable {xs : List PyData} {r : Mem} {F Q B F' Q' B' : MO}
end
end Mok05
set_option autoImplicit false
set_option maxHeartbeats 400000
namespace Mok05
open PySem PySem.Spec PyProof.Rows L2
open PySem.W (dataLt)
variable [Wd]
end Mok05
set_option autoImplicit false
set_option maxHeartbeats 4000000
namespace Mok05
open PySem PySem.Spec PyProof.Rows L2
open PySem.W (dataLt)
variable [Wd]
mutual
def Sg.cr : Sg → Prop
  | .lt _ => True
  | .no s => s.cr
  | .many _ l => Sg.crs l
  | .so a b => a.cr ∧ b.cr
  | .tl _ _ => False
  | .mod w _ s => w = false ∧ s.cr
def Sg.crs : List Sg → Prop
  | [] => True
  | s :: r => s.cr ∧ Sg.crs r
end
end Mok05
set_option autoImplicit false
set_option maxHeartbeats 4000000
namespace Mok05
open PySem PySem.Spec PyProof.Rows L2
open PySem.W (dataLt)
variable [Wd]
end Mok05
set_option autoImplicit false
set_option maxHeartbeats 4000000
namespace Mok05
open PySem PySem.Spec PyProof.Rows L2
variable [Wd]
end Mok05
set_option autoImplicit false
set_option maxHeartbeats 4000000
namespace Mok05
open PySem PySem.Spec PyProof.Rows L2
variable [Wd]
end Mok05
set_option autoImplicit false
set_option maxHeartbeats 4000000
namespace Mok05
open PySem PySem.Spec PyProof.Rows L2
variable [Wd]
end Mok05
set_option autoImplicit false
set_option maxHeartbeats 400000
namespace Mok05
open PySem PySem.Spec PyProof.Rows L2
variable [Wd]
end Mok05
set_option autoImplicit false
set_option maxHeartbeats 400000
namespace Mok05
open PySem PySem.Spec PyProof.Rows L2
open PySem.W (dataLt)
variable [Wd]
section
variable {H : List (Str × List Str)} {bs : List (Str × Str)}
end
end Mok05
set_option autoImplicit false
namespace Mok05
variable [Wd]
open PySem PySem.Spec PyProof.Rows L2
section
variable {K : PySem.W.Frag} {m : Ms} {H : Hp} {μ : Mem}
def Ms.mv (m : Ms) (k p : Nat) (l : List Addr) : Ms := { m with v := (m.v.set k (some l)).set p none }
theorem mv_none {k p i : Nat} {l : List Addr} (hk : m.v[k]? = some (some [])) (hp : m.v[p]? = some (some l)) (h : m.v[i]? = some none) : (m.mv k p l).v[i]? = some none := by
  have h1 : k ≠ i := fun z => by rw [z, h] at hk; cases hk
  have h2 : p ≠ i := fun z => by rw [z, h] at hp; cases hp
  unfold Ms.mv
  rw [List.getElem?_set_ne h2, List.getElem?_set_ne h1]
  exact h
theorem mv_gone {k p : Nat} {l : List Addr} (hp : m.v[p]? = some (some l)) : (m.mv k p l).v[p]? = some none := by
  have := (List.getElem?_eq_some_iff.mp hp).1
  unfold Ms.mv
  rw [List.getElem?_set_self (by rw [List.length_set]; exact this)]
theorem mv_here {k p : Nat} {l : List Addr} (hk : m.v[k]? = some (some [])) (ne : k ≠ p) : (m.mv k p l).v[k]? = some (some l) := by
  have := (List.getElem?_eq_some_iff.mp hk).1
  unfold Ms.mv
  rw [List.getElem?_set_ne (Ne.symm ne), List.getElem?_set_self this]
theorem mv_else {k p i : Nat} {l : List Addr} (h1 : i ≠ k) (h2 : i ≠ p) : (m.mv k p l).v[i]? = m.v[i]? := by
  unfold Ms.mv
  rw [List.getElem?_set_ne (Ne.symm h2), List.getElem?_set_ne (Ne.symm h1)]
theorem mv_inv {k p i : Nat} {l l' : List Addr} (hk : m.v[k]? = some (some [])) (hp : m.v[p]? = some (some l)) (ne : k ≠ p) (h : (m.mv k p l).v[i]? = some (some l')) : (i = k ∧ l' = l) ∨ (i ≠ k ∧ i ≠ p ∧ m.v[i]? = some (some l')) := by
  by_cases h1 : i = k
  · subst h1
    rw [mv_here hk ne] at h
    cases h
    exact .inl ⟨rfl, rfl⟩
  · by_cases h2 : i = p
    · subst h2
      rw [mv_gone hp] at h
      cases h
    · rw [mv_else h1 h2] at h
      exact .inr ⟨h1, h2, h⟩
theorem mv_vl {k p : Nat} {l : List Addr} (hk : m.v[k]? = some (some [])) (hp : m.v[p]? = some (some l)) (ne : k ≠ p) {b : Addr} (h : b ∈ fps (m.mv k p l).v) : b ∈ fps m.v := by
  obtain ⟨l', hl, hb⟩ := fps_iff.mp h
  obtain ⟨i, hi⟩ := List.mem_iff_getElem?.mp hl
  rcases mv_inv hk hp ne hi with ⟨_, rfl⟩ | ⟨_, _, h⟩
  · exact fps_iff.mpr ⟨_, List.mem_of_getElem? hp, hb⟩
  · exact fps_iff.mpr ⟨_, List.mem_of_getElem? h, hb⟩
theorem Ext.mv {k p : Nat} {l : List Addr} (hk : m.v[k]? = some (some [])) (hp : m.v[p]? = some (some l)) (ne : k ≠ p) : Ext m H (m.mv k p l) H where
  pre := fun i l' nl h => by
    by_cases h2 : i = p
    · subst h2
      exact .inl (mv_gone hp)
    · have h1 : i ≠ k := fun z => by
        subst z
        rw [hk] at h
        cases h
        exact nl rfl
      exact .inr ⟨l', by rw [mv_else h1 h2]; exact h, rfl⟩
  pre0 := fun i h => mv_none hk hp h
  hid := rfl
  keep := fun _ _ h _ _ => h
  new := fun b h n => (n (mv_vl hk hp ne h)).elim
  tbk := fun _ ps h => ⟨ps, h⟩
theorem RH.mv (h : RH K m H μ) {k p : Nat} {l : List Addr} {o : MO} (hk : m.v[k]? = some (some [])) (hp : m.v[p]? = some (some l)) (ho : μ[p]? = some o) (ne : k ≠ p) (hq : ∀ x gs, o = .q x gs → ∀ j, FRef gs j → j < k) : RH K (m.mv k p l) H ((μ.set k o).set p .dead) := by
  have E : Ext m H (m.mv k p l) H := Ext.mv hk hp ne
  refine ⟨fun q hq => (h.tb q hq).go E.ks fun _ z => z, ?_, by simp [Ms.mv, h.len], fun b hb => ⟨(h.hid b hb).1, fun z => (h.hid b hb).2 (mv_vl hk hp ne z)⟩, fun j q o' h1 h2 => ?_, fun _ _ _ e => rf_set (fun _ _ _ e => rf_set h.rf hq e) (fun _ _ z => by cases z) e⟩
  · refine fps_nodup_of (fun i l' hi => ?_) fun i j l' k' a hi hj al ak => ?_
    · rcases mv_inv hk hp ne hi with ⟨_, rfl⟩ | ⟨_, _, h'⟩
      · exact fp_nodup h.nd hp
      · exact fp_nodup h.nd h'
    · rcases mv_inv hk hp ne hi with ⟨rfl, rfl⟩ | ⟨i1, i2, hi'⟩ <;> rcases mv_inv hk hp ne hj with ⟨rfl, rfl⟩ | ⟨j1, j2, hj'⟩
      · rfl
      · exact (j2 (nodup_apart h.nd hj' hp ak al)).elim
      · exact (i2 (nodup_apart h.nd hi' hp al ak)).elim
      · exact nodup_apart h.nd hi' hj' al ak
  · by_cases e2 : j = p
    · subst e2
      rw [mv_gone hp] at h1
      have hl := (List.getElem?_eq_some_iff.mp h2).1
      simp only [List.length_set] at hl
      rw [List.getElem?_set_self (by rw [List.length_set]; exact hl)] at h2
      cases h1
      cases h2
      exact rfl
    · rw [List.getElem?_set_ne (Ne.symm e2)] at h2
      by_cases e1 : j = k
      · subst e1
        rw [mv_here hk ne] at h1
        have hl := (List.getElem?_eq_some_iff.mp h2).1
        simp only [List.length_set] at hl
        rw [List.getElem?_set_self hl] at h2
        cases h1
        cases h2
        exact (h.at_ p _ _ hp ho).keepsw E.w fun _ _ _ _ _ q => q
      · rw [List.getElem?_set_ne (Ne.symm e1)] at h2
        rw [mv_else e1 e2] at h1
        exact (h.at_ j q o' h1 h2).keepsw E.w fun _ _ _ _ _ q => q
theorem emp_at (h : RH K m H μ) {k : Nat} (e : μ[k]? = some .emp) : m.v[k]? = some (some []) := by
  obtain ⟨p, h1, h2⟩ := h.get e
  rw [h1, show p = some [] from h2]
end
def atG (x f : Str) : W → Mem → Res W
  | .r n, μ => match μ[n]? with
    | some (.q y gs) => if y = x then (match gs.lookup f with
      | some (.d z) => .ok (.d z) μ
      | some (.r k) => .ok (.r k) μ
      | none => .bad) else .bad
    | _ => .bad
  | _, _ => .bad
def dAtG (x f : Str) (d : DE) : DE := fun ρ μ => bnd (d ρ μ) (atG x f)
def mvO (k : Nat) : MO → Bool
  | .dead => false
  | .emp => false
  | .q _ gs => gs.all fun p => match p.2 with
    | .d _ => true
    | .r j => decide (j < k)
  | _ => true
theorem mvO_ref {k : Nat} {o : MO} (h : mvO k o = true) : (o ≠ .dead ∧ o ≠ .emp) ∧ ∀ x gs, o = .q x gs → ∀ j, FRef gs j → j < k := by
  refine ⟨⟨fun z => (by rw [z] at h; cases h), fun z => (by rw [z] at h; cases h)⟩, fun x gs e j ⟨f, hf⟩ => ?_⟩
  subst e
  have := List.all_eq_true.mp h _ hf
  simpa using this
def stG (x f : Str) (j : Nat) (w : W) : W → Mem → Res Unit
  | .r n, μ => match μ[n]? with
    | some (.q y gs) => if y = x ∧ gs.length < 900 then (match w with
      | .d z => .ok () (μ.set n (.q y (setG f (.d z) gs)))
      | .r p => if p < n then .ok () (μ.set n (.q y (setG f (.r p) gs))) else (match μ[n - j]?, μ[p]? with
        | some .emp, some o => if (1 ≤ j ∧ j ≤ n ∧ n < p) ∧ mvO (n - j) o = true then .ok () (((μ.set (n - j) o).set p .dead).set n (.q y (setG f (.r (n - j)) gs))) else .bad
        | _, _ => .bad)
      | _ => .bad) else .bad
    | _ => .bad
  | _, _ => .bad
def sAtG (x f : Str) (j : Nat) (dv d : DE) : DS := fun ρ μ => nxt ρ (fun _ => ρ) (bnd (dv ρ μ) fun w μ1 => bnd (d ρ μ1) fun u μ2 => stG x f j w u μ2)
def sAugG (x f : Str) (g : Op) (d dv : DE) : DS := fun ρ μ => nxt ρ (fun _ => ρ) (bnd (d ρ μ) fun u μ1 => bnd (atG x f u μ1) fun w μ2 => bnd (dv ρ μ2) fun y μ3 => bnd (ofO (g [w, y] μ3)) fun z μ4 => match z with
  | .d _ => stG x f 0 z u μ4
  | _ => .bad)
section
variable {X : Cx} {ct : Ct} {Z : WX}
theorem at_gd {x f : Str} {names : List Str} {w : W} {v : V} {m : Ms} {H : Hp} {μ : Mem} {σ : L2.St} {P : W → Mem → Ms → Hp → Prop} (c : ClassAt X.K X.mg x names) (hf : f ∈ names) (r : RV X.K m H w v) (hh : RH X.K m H μ) (g : Gd X.K ct Z m σ H (atG x f w μ) P) :
    ∃ C a dx us u, X.mg x = some (.ref C) ∧ PySem.W.nsIn X.K mainGlobals x = some (some (.ref C)) ∧ v = .ref a ∧ H a = some (.ins C dx us) ∧ Cls X.K C ∧ NoAttr X.K C f ∧ us.lookup f = some u ∧ ∃ w2, atG x f w μ = .ok w2 μ ∧ RV X.K m H w2 u ∧ P w2 μ m H := by
  obtain ⟨C, c1, c2, c3, c4⟩ := c
  cases w with
  | d _ => exact g.elim
  | s _ => exact g.elim
  | e _ _ _ _ => exact g.elim
  | o _ => exact g.elim
  | r n =>
    unfold atG at g ⊢
    dsimp only at g ⊢
    split at g
    · rename_i y gs hq
      split at g
      · rename_i hy
        subst hy
        obtain ⟨a, C', dx, us, k1, rfl, k3, k4, k5⟩ := obj_atQ r hh hq
        rw [c1] at k3
        cases k3
        rw [if_pos rfl]
        split at g
        · rename_i z hz
          obtain ⟨u, l1, l2⟩ := gs_look k5 hz
          exact ⟨C, a, dx, us, u, c2, c1, rfl, k4, c3, c4 f hf, l1, _, rfl, l2, g m H (.refl _ _) hh⟩
        · rename_i z hz
          obtain ⟨u, l1, l2⟩ := gs_look k5 hz
          exact ⟨C, a, dx, us, u, c2, c1, rfl, k4, c3, c4 f hf, l1, _, rfl, l2, g m H (.refl _ _) hh⟩
        · exact g.elim
      · exact g.elim
    · exact g.elim
theorem mAtG {x f : Str} {names : List Str} {e : Expr} {pos : Pos} {d : DE} (c : ClassAt X.K X.mg x names) (he : ME X ct Z e d) (hf : f ∈ names := by decide) (hb : attributeBase e f X.env (eval e X.env) = eval e X.env := by rfl) : ME X ct Z (.Attribute e f pos) (dAtG x f d) := by
  refine ⟨pe_imp (pe_fld he.pe hb) fun σ H Q h => ?_⟩
  obtain ⟨m, ρ, μ, hr, hh, g⟩ := h
  refine ⟨m, ρ, μ, hr, hh, (Gd.bnd g).mono fun w μ1 m1 H1 e1 h1 g1 v r1 => ?_⟩
  obtain ⟨C, a, dx, us, u, _, _, rfl, k4, c3, c4, l1, w2, _, l2, q⟩ := at_gd c hf r1 h1 g1
  exact ⟨a, C, dx, us, u, rfl, k4, c3, c4, l1, q u l2⟩
theorem st_gd {x f : Str} {j : Nat} {names : List Str} {w u : W} {y ov : V} {m : Ms} {H : Hp} {μ : Mem} {σ : L2.St} {P : Unit → Mem → Ms → Hp → Prop} (c : ClassAt X.K X.mg x names) (hf : f ∈ names) (r1 : RV X.K m H w y) (r2 : RV X.K m H u ov) (hh : RH X.K m H μ) (g : Gd X.K ct Z m σ H (stG x f j w u μ) P) :
    ∃ a C dx us, ov = .ref a ∧ PySem.W.nsIn X.K mainGlobals x = some (some (.ref C)) ∧ H a = some (.ins C dx us) ∧ Cls X.K C ∧ NoAttr X.K C f ∧ us.length < 1000 ∧ ∃ μ1 m1, stG x f j w u μ = .ok () μ1 ∧ Ext m H m1 (upd H a (.ins C dx (putF f y us))) ∧ RH X.K m1 (upd H a (.ins C dx (putF f y us))) μ1 ∧ P () μ1 m1 (upd H a (.ins C dx (putF f y us))) := by
  obtain ⟨C, c1, c2, c3, c4⟩ := c
  cases u with
  | d _ => exact g.elim
  | s _ => exact g.elim
  | e _ _ _ _ => exact g.elim
  | o _ => exact g.elim
  | r n =>
    unfold stG at g ⊢
    dsimp only at g ⊢
    split at g
    rotate_left
    · exact g.elim
    rename_i z gs hq
    split at g
    rotate_left
    · exact g.elim
    rename_i hc
    obtain ⟨rfl, hl⟩ := hc
    obtain ⟨a, C', dx, us, k1, rfl, k3, k4, k5⟩ := obj_atQ r2 hh hq
    have k3' := k3
    rw [c1] at k3'
    cases k3'
    have ul : us.length < 1000 := by rw [gs_len k5]; omega
    rw [if_pos ⟨rfl, hl⟩]
    have put : ∀ {m : Ms} {μ : Mem} {fv : FV}, RH X.K m H μ → m.v[n]? = some (some [a]) → GsR X.K m H us gs → FvR X.K m H y fv → (∀ k, FRef gs k → k < n) → (∀ k, fv = .r k → k < n) →
        Ext m H m (upd H a (.ins C dx (putF f y us))) ∧ RH X.K m (upd H a (.ins C dx (putF f y us))) (μ.set n (.q z (setG f fv gs))) := by
      intro m μ fv hh k1 k5 hv hr hk
      have e : Ext m H m (upd H a (.ins C dx (putF f y us))) := .put (vl_at k1 (by simp)) k4 trivial
      refine ⟨e, hh.put k1 k4 trivial ⟨a, C, dx, _, rfl, k3, upd_same, (gs_put hv k5).keeps e.ks fun k _ v r => r.extw e.w⟩ fun x' gs' e' k hk' => ?_⟩
      cases e'
      rcases setG_ref hk' with h | h
      · exact hr k h
      · exact hk k h
    have rf0 := hh.rf n z gs hq
    cases w with
    | s _ => exact g.elim
    | e _ _ _ _ => exact g.elim
    | o _ => exact g.elim
    | d y' =>
      obtain ⟨e1, h1⟩ := put (fv := .d y') hh k1 k5 r1 rf0 (fun k z => by cases z)
      exact ⟨a, C, dx, us, rfl, c1, k4, c3, c4 f hf, ul, _, m, rfl, e1, h1, g _ _ e1 h1⟩
    | r p =>
      dsimp only at g ⊢
      by_cases hp : p < n
      · rw [if_pos hp] at g ⊢
        obtain ⟨e1, h1⟩ := put (fv := .r p) hh k1 k5 r1 rf0 (fun k z => by cases z; exact hp)
        exact ⟨a, C, dx, us, rfl, c1, k4, c3, c4 f hf, ul, _, m, rfl, e1, h1, g _ _ e1 h1⟩
      · rw [if_neg hp] at g ⊢
        split at g
        rotate_left
        · exact g.elim
        rename_i o hk ho
        split at g
        rotate_left
        · exact g.elim
        rename_i hc
        rw [if_pos hc]
        obtain ⟨⟨j1, j2, j3⟩, hm⟩ := hc
        obtain ⟨nd, hrf⟩ := mvO_ref hm
        have hk' := emp_at hh hk
        obtain ⟨l, a', p1, p2, rfl, p4⟩ := ref_at r1 hh ho nd.1
        have ne : n - j ≠ p := by omega
        have E : Ext m H (m.mv (n - j) p l) H := Ext.mv hk' p1 ne
        have h1 := hh.mv hk' p1 ho ne hrf
        have kn : (m.mv (n - j) p l).v[n]? = some (some [a]) := by rw [mv_else (by omega) (by omega)]; exact k1
        have rr : RefR (m.mv (n - j) p l) (n - j) (.ref a') := .inr ⟨l, a', mv_here hk' ne, p2, rfl⟩
        obtain ⟨e1, h2⟩ := put (fv := .r (n - j)) h1 kn (k5.keeps E.ks fun k _ v r => r.extw E.w) rr rf0 (fun k z => by cases z; omega)
        exact ⟨a, C, dx, us, rfl, c1, k4, c3, c4 f hf, ul, _, _, rfl, E.trans e1, h2, g _ _ (E.trans e1) h2⟩
theorem msAtG {x f : Str} {j : Nat} {names : List Str} {o value : Expr} {pos pos' : Pos} {dv d : DE} (c : ClassAt X.K X.mg x names) (hv : ME X ct Z value dv) (ho : ME X ct Z o d) (hf : f ∈ names := by decide)
    (hs : swapsWith value (some (.Attribute o f pos')) pos.line X.env = pure false := by rfl) : MS X ct Z (.Assign [.Attribute o f pos'] value pos) (sAtG x f j dv d) := by
  refine ⟨ps_imp (ps_fld ho.pe hv.pe hs) fun D σ H h => ?_⟩
  obtain ⟨m, ρ, μ, he, hh, g⟩ := h
  refine ⟨m, ρ, μ, he, hh, ?_⟩
  unfold sAtG at g
  have g1 := gs_gd (σ := σ) (f := fun _ => ρ) (P := fun _ μ1 m1 H1 => D.nx σ H1) he g fun a μ1 m1 H1 e1 h1 g1 => g1 m1 σ H1 (.refl _ _) h1 (he.ext e1)
  refine (Gd.bnd g1).mono fun w μ1 m1 H1 e1 h1 g2 v r1 => ⟨m1, ρ, μ1, he.ext e1, h1, (Gd.bnd g2).mono fun u μ2 m2 H2 e2 h2 g3 ov r2 => ?_⟩
  obtain ⟨a, C, dx, us, rfl, _, k4, c3, c4, ul, μ3, m3, _, e3, h3, q⟩ := st_gd c hf (r1.ext e2) r2 h2 g3
  exact ⟨a, C, dx, us, rfl, k4, c3, c4, ul, q⟩
theorem msAugG {x f : Str} {names : List Str} {o value : Expr} {op : Operator} {pos tpos : Pos} {g : Op} {dv d : DE} (c : ClassAt X.K X.mg x names) (ho : ME X ct Z o d) (hv : ME X ct Z value dv) (hop : Op2I X op g) (hf : f ∈ names := by decide) : MS X ct Z (.AugAssign (.Attribute o f tpos) op value pos) (sAugG x f g d dv) := by
  refine ⟨ps_imp (ps_fldaug (rd := fun v u H Q => rN X.K g [v, u] H Q) ho.pe hv.pe hop) fun D σ H h => ?_⟩
  obtain ⟨m, ρ, μ, he, hh, gg⟩ := h
  refine ⟨m, ρ, μ, he, hh, ?_⟩
  unfold sAugG at gg
  have g1 := gs_gd (σ := σ) (f := fun _ => ρ) (P := fun _ μ1 m1 H1 => D.nx σ H1) he gg fun a μ1 m1 H1 e1 h1 g1 => g1 m1 σ H1 (.refl _ _) h1 (he.ext e1)
  refine (Gd.bnd g1).mono fun u μ1 m1 H1 e1 h1 g2 ov r1 => ?_
  obtain ⟨C, a, dx, us, v, c2, c1, rfl, k4, c3, c4, l1, w2, ew, l2, g3⟩ := at_gd c hf r1 h1 (Gd.bnd g2)
  refine ⟨a, C, dx, us, v, rfl, k4, c3, c4, l1, m1, ρ, μ1, he.ext e1, h1, (Gd.bnd g3).mono fun y μ3 m3 H3 e3 h3 g4 yv r3 => ?_⟩
  refine rN_of ((Gd.bnd g4).mono fun z μ4 m4 H4 e4 h4 g5 zv r4 => ?_) (.cons (l2.ext e3) (.cons r3 .nil)) h3
  cases z with
  | r _ => exact g5.elim
  | s _ => exact g5.elim
  | e _ _ _ _ => exact g5.elim
  | o _ => exact g5.elim
  | d y' =>
    obtain ⟨a', C', dx', us', q1, c1', k4', c3', c4', ul, μ5, m5, _, e5, h5, q⟩ := st_gd c hf r4 ((r1.ext e3).ext e4) h4 g5
    cases q1
    rw [c1] at c1'
    cases c1'
    exact ⟨dx', us', k4', ul, q⟩
end
def mthG (x m : Str) : W → Mem → Bool
  | .r n, μ => match μ[n]? with
    | some (.q y gs) => decide (y = x) && (gs.lookup m).isNone
    | _ => false
  | _, _ => false
def dMethG (x m : Str) (F : Fn) (d : DE) (da : DA) : DE := fun ρ μ => bnd (d ρ μ) fun w μ1 => if mthG x m w μ1 = true then bnd (da ρ μ1) fun ws μ2 => callF F (w :: ws) μ2 else .bad
section
variable {X : Cx} {ct : Ct} {Z : WX}
theorem mth_gd {x mt : Str} {C : Addr} (c1 : PySem.W.nsIn X.K mainGlobals x = some (some (.ref C))) {w : W} {v : V} {m : Ms} {H : Hp} {μ : Mem} (r : RV X.K m H w v) (hh : RH X.K m H μ) (hm : mthG x mt w μ = true) : ∃ a dx us, v = .ref a ∧ H a = some (.ins C dx us) ∧ us.lookup mt = none := by
  cases w with
  | d _ => cases hm
  | s _ => cases hm
  | e _ _ _ _ => cases hm
  | o _ => cases hm
  | r n =>
    unfold mthG at hm
    dsimp only at hm
    split at hm
    · rename_i y fs hq
      rw [Bool.and_eq_true, decide_eq_true_eq] at hm
      obtain ⟨rfl, hn⟩ := hm
      obtain ⟨a, C', dx, us, k1, rfl, k3, k4, k5⟩ := obj_atQ r hh hq
      rw [c1] at k3
      cases k3
      exact ⟨a, dx, us, rfl, k4, gs_miss k5 (Option.isNone_iff_eq_none.mp hn)⟩
    · cases hm
theorem mMethG {x mt : Str} {k : Nat} {F : Fn} {o e : Expr} {es : List Expr} {pos apos : Pos} {d : DE} {da : DA} {pl : Sem Bool} (c : CalM X.prog X.w X.K X.mg X.base ct k x mt F) (hr : Room k X.A) (hgd : X.A.guards = some []) (tk : Takes X Z) (ho : ME X ct Z o d) (ha : MA X ct Z (e :: es) da)
    (hst : starEach (e :: es) X.env = (false, eval e X.env) :: starEach es X.env := by rfl) (hpl : (backTo pos (starEach es X.env)).any (·.1) = false := by rfl)
    (ht : eval (.Call (.Attribute o mt apos) (e :: es) [] pos) X.env = (do
      let ov ← eval o X.env
      standAt apos.atName
      let (f, first) ← holding [ov] (getMethod ov mt pl)
      callWith pos f first (backTo pos (starEach (e :: es) X.env)) (backToKw pos (keywordEach [] X.env))) := by rfl) : ME X ct Z (.Call (.Attribute o mt apos) (e :: es) [] pos) (dMethG x mt F d da) := by
  obtain ⟨C, f, fd, ps, c1, c3, cm, G, hb⟩ := c
  refine ⟨⟨fun pins s σ H Q I h => ?_⟩⟩
  obtain ⟨m, ρ, μ, hρ, hh, g⟩ := h
  refine PySem.W.methodCall_KW (pl := pl) (thn (ho.pe.run pins s σ H (fun v H1 => ∃ (a dx : Addr) (us : List (Str × V)) (m1 : Ms) (μ1 : Mem) (w : W), v = .ref a ∧ H1 a = some (.ins C dx us) ∧ us.lookup mt = none ∧ RV X.K m1 H1 w v ∧ EnvR X.K m1 H1 ρ σ ∧ RH X.K m1 H1 μ1 ∧ Gd X.K ct Z m1 σ H1 (bnd (da ρ μ1) fun ws μ2 => callF F (w :: ws) μ2) (PV X.K Q)) I
    ⟨m, ρ, μ, hρ, hh, (Gd.bnd g).mono fun w μ1 m1 H1 e1 h1 g1 v r1 => ?_⟩) fun u s1 ⟨v, H1, I1, rv, q⟩ => ?_) ht
  · split at g1
    · rename_i hm
      obtain ⟨a, dx, us, rfl, k4, kn⟩ := mth_gd c1 r1 h1 hm
      exact ⟨a, dx, us, m1, μ1, w, rfl, k4, kn, r1, hρ.ext e1, h1, g1⟩
    · exact g1.elim
  · obtain ⟨a, dx, us, m1, μ1, w, rfl, k4, kn, r1, hρ1, h1, g1⟩ := q
    obtain rfl : u = Value.ref a := rv
    refine getmeth_ok I1 k4 c3 cm kn ?_
    refine PySem.W.callWith_K (first := [.ref a]) (h₀ := X.base) I1.ok.mod.kin cm.kp (thn (ha.pa.run pos pins s1 σ H1 (fun vs H2 => ∃ m μ ws, RVs X.K m H2 ws (V.ref a :: vs) ∧ RH X.K m H2 μ ∧ Gd X.K ct Z m σ H2 (callF F ws μ) (PV X.K Q)) I1
      ⟨m1, ρ, μ1, hρ1, h1, (Gd.bnd g1).mono fun ws μ2 m2 H2 e2 h2 g2 vs r2 => ⟨m2, μ2, w :: ws, .cons (r1.ext e2) r2, h2, g2⟩⟩) fun zs s2 ⟨vs, H2, I2, r, m2, μ2, ws, r2, h2, g2⟩ => ⟨I2.kIn, ?_⟩) hst hpl
    exact fn_run (us := .ref a :: zs) (vs := .ref a :: vs) (dws := []) G hb .nil (fun _ _ => .nil) hr hgd tk I2 (.cons rfl r) r2 h2 (by simpa using g2)
theorem mMethG0 {x mt : Str} {k : Nat} {F : Fn} {o : Expr} {pos apos : Pos} {d : DE} {pl : Sem Bool} (c : CalM X.prog X.w X.K X.mg X.base ct k x mt F) (hr : Room k X.A) (hgd : X.A.guards = some []) (tk : Takes X Z) (ho : ME X ct Z o d)
    (ht : eval (.Call (.Attribute o mt apos) [] [] pos) X.env = (do
      let ov ← eval o X.env
      standAt apos.atName
      let (f, first) ← holding [ov] (getMethod ov mt pl)
      callWith pos f first (backTo pos (starEach [] X.env)) (backToKw pos (keywordEach [] X.env))) := by rfl) : ME X ct Z (.Call (.Attribute o mt apos) [] [] pos) (dMethG x mt F d dNil) := by
  obtain ⟨C, f, fd, ps, c1, c3, cm, G, hb⟩ := c
  refine ⟨⟨fun pins s σ H Q I h => ?_⟩⟩
  obtain ⟨m, ρ, μ, hρ, hh, g⟩ := h
  refine PySem.W.methodCall_KW (pl := pl) (thn (ho.pe.run pins s σ H (fun v H1 => ∃ (a dx : Addr) (us : List (Str × V)) (m1 : Ms) (μ1 : Mem) (w : W), v = .ref a ∧ H1 a = some (.ins C dx us) ∧ us.lookup mt = none ∧ RV X.K m1 H1 w v ∧ EnvR X.K m1 H1 ρ σ ∧ RH X.K m1 H1 μ1 ∧ Gd X.K ct Z m1 σ H1 (callF F [w] μ1) (PV X.K Q)) I
    ⟨m, ρ, μ, hρ, hh, (Gd.bnd g).mono fun w μ1 m1 H1 e1 h1 g1 v r1 => ?_⟩) fun u s1 ⟨v, H1, I1, rv, q⟩ => ?_) ht
  · split at g1
    · rename_i hm
      obtain ⟨a, dx, us, rfl, k4, kn⟩ := mth_gd c1 r1 h1 hm
      exact ⟨a, dx, us, m1, μ1, w, rfl, k4, kn, r1, hρ.ext e1, h1, g1⟩
    · exact g1.elim
  · obtain ⟨a, dx, us, m1, μ1, w, rfl, k4, kn, r1, hρ1, h1, g1⟩ := q
    obtain rfl : u = Value.ref a := rv
    refine getmeth_ok I1 k4 c3 cm kn ?_
    refine PySem.W.callWith_K0 (first := [.ref a]) I1.kIn cm.kp ?_
    exact fn_run (us := [.ref a]) (vs := [.ref a]) (dws := []) G hb .nil (fun _ _ => .nil) hr hgd tk I1 (.cons rfl .nil) (.cons r1 .nil) h1 (by simpa using g1)
end
def mkQ (x : Str) (kk : Nat) (F : Fn) (ws : List W) (μ1 : Mem) : Res W := match F (.r (μ1.length + kk) :: ws) ((μ1 ++ List.replicate kk .emp) ++ [.q x []]) with
  | .ok (.d .none) μ2 => .ok (.r (μ1.length + kk)) (μ2.take (μ1.length + kk + 1))
  | .exc e μ2 => .exc e (μ2.take μ1.length)
  | _ => .bad
def dMakeQ (x : Str) (kk : Nat) (F : Fn) (da : DA) : DE := fun ρ μ => bnd (da ρ μ) fun ws μ1 => mkQ x kk F ws μ1
section
variable {K : PySem.W.Frag} {m : Ms} {H : Hp} {μ : Mem}
def Ms.emp (m : Ms) (k : Nat) : Ms := { m with v := m.v ++ List.replicate k (some []) }
theorem fps_emp (v : List Fp) (k : Nat) : fps (v ++ List.replicate k (some [])) = fps v := by
  rw [fps_append]
  have : fps (List.replicate k (some [])) = [] := by
    unfold fps
    induction k with
    | zero => rfl
    | succ k ih => simp [List.replicate_succ, ih]
  rw [this, List.append_nil]
theorem Ext.emp (k : Nat) : Ext m H (m.emp k) H :=
  ⟨fun n l _ h => .inr ⟨l, mem_get _ h, rfl⟩, fun n h => mem_get _ h, rfl, fun _ _ h _ _ => h, fun b h n => (n (by
    unfold VL Ms.emp at h
    rw [fps_emp] at h
    exact h)).elim, fun _ ps h => ⟨ps, h⟩⟩
theorem rep_at {α : Type} {x y : α} {k n : Nat} (h : (List.replicate k x)[n]? = some y) : y = x := by
  have := List.mem_of_getElem? h
  exact (List.mem_replicate.mp this).2
theorem RH.emp (h : RH K m H μ) (k : Nat) : RH K (m.emp k) H (μ ++ List.replicate k .emp) := by
  have E : Ext m H (m.emp k) H := Ext.emp k
  refine ⟨fun q hq => (h.tb q hq).go E.ks fun _ z => z, ?_, by simp [Ms.emp, h.len], fun b hb => ⟨(h.hid b hb).1, ?_⟩, fun j q o' h1 h2 => ?_, fun n x gs e => ?_⟩
  · unfold Ms.emp
    rw [fps_emp]
    exact h.nd
  · unfold Ms.emp
    rw [fps_emp]
    exact (h.hid b hb).2
  · unfold Ms.emp at h1
    by_cases hn : j < m.v.length
    · rw [List.getElem?_append_left hn] at h1
      rw [List.getElem?_append_left (by rw [← h.len]; exact hn)] at h2
      exact (h.at_ j q o' h1 h2).keepsw E.w fun _ _ _ _ _ q => q
    · rw [List.getElem?_append_right (by omega)] at h1
      rw [List.getElem?_append_right (by rw [← h.len]; omega)] at h2
      rw [rep_at h1, rep_at h2]
      exact rfl
  · by_cases hn : n < μ.length
    · rw [List.getElem?_append_left hn] at e
      exact h.rf n x gs e
    · rw [List.getElem?_append_right (by omega)] at e
      cases rep_at e
end
section
variable {X : Cx} {ct : Ct} {Z : WX}
theorem run_newQ {x : Str} {k kk : Nat} {F : Fn} {C f : Addr} {fd : FuncData} {ps : List Str} (c1 : PySem.W.nsIn X.K mainGlobals x = some (some (.ref C))) (M : Mk X.K C f) (G : FnG X.prog X.w X.K X.mg X.base ct k f fd ps F) (hb : Binds X.K fd ps []) (hr : Room (k + 1) X.A) (hgd : X.A.guards = some []) (tk : Takes X Z)
    {pins : List (Addr × Obj)} {σ : L2.St} {H : Hp} {s : Shared} {Q : VK} {us : List Value} {vs : List V} {m : Ms} {μ : Mem} {ws : List W} (I : Inv X pins σ H s) (r : Vals vs us) (rv : RVs X.K m H ws vs) (hh : RH X.K m H μ)
    (g : Gd X.K ct Z m σ H (mkQ x kk F ws μ) (PV X.K Q)) : wpAny (model X.prog X.w) X.A (call (.ref C) us) (EP X pins σ Q) X.xe s := by
  obtain ⟨dx, hdx⟩ : ∃ dx, dx = s.heap.objs.size := ⟨_, rfl⟩
  have I2 := Inv.made (C := C) I
  have n1 : H s.heap.objs.size = none := I.hok.fresh (Nat.le_refl _)
  have n2 : H (s.heap.objs.size + 1) = none := I.hok.fresh (Nat.le_succ _)
  have n3 : (upd H s.heap.objs.size (.own (s.heap.objs.size + 1))) (s.heap.objs.size + 1) = none := by
    rw [upd_ne (Nat.succ_ne_self _)]
    exact n2
  rw [← hdx] at n1 n2 n3 I2
  have e0 : Ext m H (m.emp kk) H := Ext.emp kk
  have h0 := hh.emp kk
  have e1 : Ext (m.emp kk) H (m.emp kk) (upd H dx (.own (dx + 1))) := .laid n1 _
  have h1 := h0.laid n1 (.own (dx + 1))
  have e2 : Ext (m.emp kk) (upd H dx (.own (dx + 1))) ((m.emp kk).add (dx + 1)) (upd (upd H dx (.own (dx + 1))) (dx + 1) (.ins C dx [])) := .made n3 _
  have h2 : RH X.K ((m.emp kk).add (dx + 1)) (upd (upd H dx (.own (dx + 1))) (dx + 1) (.ins C dx [])) ((μ ++ List.replicate kk .emp) ++ [.q x []]) := h1.made n3 ⟨_, C, dx, [], rfl, c1, upd_same, .nil⟩ fun x' gs e j ⟨f', hf'⟩ => by
    cases e
    cases hf'
  have ln0 : (μ ++ List.replicate kk MO.emp).length = μ.length + kk := by simp
  have rx : RV X.K ((m.emp kk).add (dx + 1)) (upd (upd H dx (.own (dx + 1))) (dx + 1) (.ins C dx [])) (.r (μ.length + kk)) (.ref (dx + 1)) := by
    rw [← ln0]
    exact rv_last h0.len
  have e12 := (e0.trans e1).trans e2
  have rall : RVs X.K ((m.emp kk).add (dx + 1)) (upd (upd H dx (.own (dx + 1))) (dx + 1) (.ins C dx [])) (.r (μ.length + kk) :: ws) (.ref (dx + 1) :: vs) := .cons rx (rv.ext e12)
  have rvals : Vals (V.ref (dx + 1) :: vs) (Value.ref (dx + 1) :: us) := .cons rfl r
  have ln : μ.length + kk + 1 = ((m.emp kk).add (dx + 1)).v.length := by simp [Ms.add, Ms.emp, hh.len]; omega
  unfold mkQ at g
  have hlen : F (.r (μ.length + kk) :: ws) ((μ ++ List.replicate kk .emp) ++ [.q x []]) ≠ .bad → (Value.ref (dx + 1) :: us ++ []).length = ps.length := fun nb => by
    rw [List.append_nil, ← rvals.length, ← Paired.length rall]
    exact G.len _ _ nb
  cases hF : F (.r (μ.length + kk) :: ws) ((μ ++ List.replicate kk .emp) ++ [.q x []]) with
  | bad => rw [hF] at g; exact g.elim
  | exc x' μ2 =>
    rw [hF] at g
    dsimp only at g
    have hb' := hb _ (Value.ref (dx + 1) :: us) I2.kIn (hlen (by rw [hF]; intro z; cases z))
    rw [List.append_nil] at hb'
    have gd : Gd X.K ct (fun c d _ H' => WE Z σ c d H') ((m.emp kk).add (dx + 1)) [] (upd (upd H dx (.own (dx + 1))) (dx + 1) (.ins C dx [])) (F (.r (μ.length + kk) :: ws) ((μ ++ List.replicate kk .emp) ++ [.q x []])) (PV X.K fun _ _ => False) := by
      rw [hF]
      intro m3 H3 cls d e3 h3 xr
      rw [← hh.len] at g
      exact g _ H3 cls d (e12.trans e3).drop (h3.drop _) (xr.less fun b => cut_live)
    subst hdx
    refine wpAny_call (make_map (f := f) I.kIn M.makes M.init (beq_iff_eq.mp M.fn) (codeAny_mono (G.run _ X.stack _ _ ⟨Value.ref (s.heap.objs.size + 1) :: us, []⟩ _ _ _ (WE Z σ) _ _ _ (hr.make C us []) hgd (I2.env0.make C us []) hb' rvals rall h2 gd) fun res s' hq => ?_))
    cases res with
    | error e => exact passAt tk σ pins _ _ e s' I2 hq
    | ok fl =>
      cases fl with
      | next => exact hq.elim
      | brk => exact hq.elim
      | cont => exact hq.elim
      | ret u =>
        obtain ⟨v, H', I3, q1, q2⟩ := I2.after hq
        exact q2.elim
  | ok w2 μ2 =>
    rw [hF] at g
    have hw : w2 = .d .none := by
      cases w2 with
      | d y => cases y <;> first | rfl | exact g.elim
      | r _ => exact g.elim
      | s _ => exact g.elim
      | e _ _ _ _ => exact g.elim
      | o _ => exact g.elim
    subst hw
    dsimp only at g
    have hb' := hb _ (Value.ref (dx + 1) :: us) I2.kIn (hlen (by rw [hF]; intro z; cases z))
    rw [List.append_nil] at hb'
    have gd : Gd X.K ct (fun c d _ H' => (fun (_ : Value) (_ : Option Addr) (_ : Hp) => False) c d H') ((m.emp kk).add (dx + 1)) [] (upd (upd H dx (.own (dx + 1))) (dx + 1) (.ins C dx [])) (F (.r (μ.length + kk) :: ws) ((μ ++ List.replicate kk .emp) ++ [.q x []])) (PV X.K fun v H2 => v = .non ∧ Q (.ref (dx + 1)) H2) := by
      rw [hF]
      intro m3 H3 e3 h3 v r3
      cases r3
      refine ⟨rfl, ?_⟩
      have rx3 := rx.ext e3
      rw [ln] at g
      refine g (m3.cut ((m.emp kk).add (dx + 1)).v.length) H3 (e12.trans e3.drop) (h3.drop _) _ ?_
      have e : (m3.cut ((m.emp kk).add (dx + 1)).v.length).v[μ.length + kk]? = m3.v[μ.length + kk]? := List.getElem?_take_of_lt (by omega)
      show (m3.cut ((m.emp kk).add (dx + 1)).v.length).v[μ.length + kk]? = some none ∨ _
      rw [e]
      exact rx3
    subst hdx
    refine wpAny_call (make_map (f := f) I.kIn M.makes M.init (beq_iff_eq.mp M.fn) (codeAny_mono (G.run _ X.stack _ _ ⟨Value.ref (s.heap.objs.size + 1) :: us, []⟩ _ _ _ (fun _ _ _ => False) _ _ _ (hr.make C us []) hgd (I2.env0.make C us []) hb' rvals rall h2 gd) fun res s' hq => ?_))
    cases res with
    | error e =>
      obtain ⟨_, _, _, _, _, _, _, _, _, _, _, _, z⟩ := hq
      exact z.elim
    | ok fl =>
      cases fl with
      | next => exact hq.elim
      | brk => exact hq.elim
      | cont => exact hq.elim
      | ret u =>
        obtain ⟨v, H', I3, q1, q2, q3⟩ := I2.after hq
        subst q2
        exact ⟨q1, V.ref (s.heap.objs.size + 1), H', I3, rfl, q3⟩
theorem mMakeQ {x : Str} {k kk : Nat} {F : Fn} {p pos : Pos} {e : Expr} {es : List Expr} {da : DA} (c : CalI X.prog X.w X.K X.mg X.base ct k x F) (hr : Room (k + 1) X.A) (hgd : X.A.guards = some []) (tk : Takes X Z) (ha : MA X ct Z (e :: es) da) (hg : Gl X x := by rfl)
    (hdb : (x == ("__debug__" : Str)) = false := by decide) (he : starEach (e :: es) X.env = (false, eval e X.env) :: starEach es X.env := by rfl) (hpl : (backTo pos (starEach es X.env)).any (·.1) = false := by rfl) : ME X ct Z (.Call (.Name x p) (e :: es) [] pos) (dMakeQ x kk F da) := by
  obtain ⟨C, f, fd, ps, c1, c2, M, G, hb⟩ := c
  refine ⟨⟨fun pins s σ H Q I h => ?_⟩⟩
  obtain ⟨m, ρ, μ, hρ, hh, g⟩ := h
  refine wpAny_Call_Name_kw (ld_glob I hg c2 ?_ hdb)
  refine PySem.W.callWith_K (h₀ := X.base) I.ok.mod.kin M.kp (thn (ha.pa.run pos pins s σ H (fun vs H1 => ∃ m1 μ1 ws, RVs X.K m1 H1 ws vs ∧ RH X.K m1 H1 μ1 ∧ Gd X.K ct Z m1 σ H1 (mkQ x kk F ws μ1) (PV X.K Q)) I
    ⟨m, ρ, μ, hρ, hh, (Gd.bnd g).mono fun ws μ1 m1 H1 e1 h1 g1 vs r1 => ⟨m1, μ1, ws, r1, h1, g1⟩⟩) fun us s1 ⟨vs, H1, I1, r, m1, μ1, ws, r1, h1, g1⟩ => ⟨I1.kIn, ?_⟩) he hpl
  exact run_newQ c1 M G hb hr hgd tk I1 r r1 h1 g1
end
section
variable {ρ : Env} {μ : Mem} {P : W → Mem → Prop} {x f : Str}
@[simp] theorem ok_dAtG {d : DE} : Ok (dAtG x f d ρ μ) P = Ok (d ρ μ) fun w μ1 => Ok (atG x f w μ1) P := by simp [dAtG]
theorem ok_atGd {n : Nat} {gs : List (Str × FV)} {y : PyData} (h : μ[n]? = some (.q x gs)) (e : gs.lookup f = some (.d y)) : Ok (atG x f (.r n) μ) P = P (.d y) μ := by
  simp [atG, h, e]
theorem ok_atGr {n k : Nat} {gs : List (Str × FV)} (h : μ[n]? = some (.q x gs)) (e : gs.lookup f = some (.r k)) : Ok (atG x f (.r n) μ) P = P (.r k) μ := by
  simp [atG, h, e]
@[simp] theorem oks_sAtG {j : Nat} {dv d : DE} {N B C : Env → Mem → Prop} {R : W → Mem → Prop} : Oks (sAtG x f j dv d ρ μ) N R B C = Ok (dv ρ μ) fun w μ1 => Ok (d ρ μ1) fun u μ2 => Ok (stG x f j w u μ2) fun _ μ3 => N ρ μ3 := by
  unfold sAtG
  rw [show ∀ r : Res Unit, Oks (nxt ρ (fun _ => ρ) r) N R B C = Ok r fun _ μ => N ρ μ from fun r => by cases r <;> rfl]
  simp only [ok_bnd]
theorem ok_stGd {n j : Nat} {gs : List (Str × FV)} {y : PyData} {Pu : Unit → Mem → Prop} (h : μ[n]? = some (.q x gs)) (e : gs.length < 900) : Ok (stG x f j (.d y) (.r n) μ) Pu = Pu () (μ.set n (.q x (setG f (.d y) gs))) := by
  simp [stG, h, e]
theorem ok_stGr {n j p : Nat} {gs : List (Str × FV)} {o : MO} {Pu : Unit → Mem → Prop} (h : μ[n]? = some (.q x gs)) (e : gs.length < 900) (h1 : μ[n - j]? = some .emp) (h2 : μ[p]? = some o) (j1 : 1 ≤ j) (j2 : j ≤ n) (j3 : n < p) (hm : mvO (n - j) o = true) : Ok (stG x f j (.r p) (.r n) μ) Pu = Pu () (((μ.set (n - j) o).set p .dead).set n (.q x (setG f (.r (n - j)) gs))) := by
  have np : ¬ p < n := by omega
  simp [stG, h, e, h1, h2, j1, j2, j3, hm, np]
@[simp] theorem oks_sAugG {g : Op} {dv d : DE} {N B C : Env → Mem → Prop} {R : W → Mem → Prop} : Oks (sAugG x f g d dv ρ μ) N R B C = Ok (d ρ μ) fun u μ1 => Ok (atG x f u μ1) fun w μ2 => Ok (dv ρ μ2) fun y μ3 => OkO (g [w, y] μ3) fun z μ4 => match z with
  | .d y => Ok (stG x f 0 (.d y) u μ4) fun _ μ5 => N ρ μ5
  | _ => False := by
  unfold sAugG
  rw [show ∀ r : Res Unit, Oks (nxt ρ (fun _ => ρ) r) N R B C = Ok r fun _ μ => N ρ μ from fun r => by cases r <;> rfl]
  simp only [ok_bnd, ok_ofO]
  congr 1
  funext u μ1
  congr 1
  funext w μ2
  congr 1
  funext y μ3
  congr 1
  funext z μ4
  cases z <;> rfl
@[simp] theorem ok_dMethG {m : Str} {F : Fn} {d : DE} {da : DA} : Ok (dMethG x m F d da ρ μ) P = Ok (d ρ μ) fun w μ1 => mthG x m w μ1 = true ∧ Ok (da ρ μ1) fun ws μ2 => Ok (callF F (w :: ws) μ2) P := by
  simp only [dMethG, ok_bnd]
  congr 1
  funext w μ1
  split <;> simp [*]
@[simp] theorem ok_dMakeQ {kk : Nat} {F : Fn} {da : DA} : Ok (dMakeQ x kk F da ρ μ) P = Ok (da ρ μ) fun ws μ1 => Ok (mkQ x kk F ws μ1) P := by simp [dMakeQ]
theorem ok_mkQ {kk : Nat} {F : Fn} {ws : List W} : Ok (mkQ x kk F ws μ) P = Ok (F (.r (μ.length + kk) :: ws) ((μ ++ List.replicate kk .emp) ++ [.q x []])) fun w μ2 => w = .d .none ∧ P (.r (μ.length + kk)) (μ2.take (μ.length + kk + 1)) := by
  unfold mkQ
  cases F (.r (μ.length + kk) :: ws) ((μ ++ List.replicate kk .emp) ++ [.q x []]) with
  | ok w μ2 =>
    cases w with
    | d y => cases y <;> simp
    | r _ => simp
    | s _ => simp
    | e _ _ _ _ => simp
    | o _ => simp
  | exc _ _ => rfl
  | bad => rfl
end
end Mok05
set_option autoImplicit false
namespace Mok05
variable [Wd]
open PySem PySem.Spec PyProof.Rows L2
section
variable {X : Cx} {pins : List (Addr × Obj)} {σ : L2.St} {H : Hp} {s : Shared} {a o : Addr} {A : Around} {E : Value → Shared → Prop}
end
section
variable {X : Cx}
end
section
variable {μ : Mem} {P : W → Mem → Prop}
end
end Mok05
set_option autoImplicit false
namespace Mok05
variable [Wd]
open PySem PySem.Spec PyProof.Rows L2
section
variable {X : Cx}
end
section
variable {μ : Mem} {P : W → Mem → Prop}
end
end Mok05
set_option autoImplicit false
set_option maxHeartbeats 4000000
namespace Mok05
open PySem PySem.Spec PyProof.Rows L2
variable [Wd]
end Mok05
set_option autoImplicit false
set_option maxHeartbeats 400000
namespace Mok05
open PySem PySem.Spec PyProof.Rows L2
variable [Wd]
end Mok05
set_option autoImplicit false
set_option maxHeartbeats 400000
namespace Mok05
open PySem PySem.Spec PyProof.Rows L2
variable [Wd]
abbrev W4 := PyData × Str × (Nat → Bool) × (Nat → Bool)
end Mok05
set_option autoImplicit false
set_option maxHeartbeats 400000
namespace Mok05
open PySem PySem.Spec PyProof.Rows L2
variable [Wd]
end Mok05
set_option autoImplicit false
set_option maxHeartbeats 400000
namespace Mok05
open PySem PySem.Spec PyProof.Rows L2
variable [Wd]
section
variable {μ r : Mem} {X Y Z Q : MO}
end
section
variable {n : Nat} {F : Str → Nat → Nat → Bool} {ws : List W4} {bad : Nat → Bool}
end
end Mok05
set_option autoImplicit false
set_option maxHeartbeats 400000
namespace Mok05
open PySem PySem.Spec PyProof.Rows L2
variable [Wd]
section
variable {μ r : Mem} {X Y o : MO} {x f : Str} {gs : List (Str × FV)} {Pu : Unit → Mem → Prop} {P : W → Mem → Prop}
end
section
variable {H : List (Str × List Str)} {bs : List (Str × Str)} {s : Sg} {A : List Sg} {vs : Nat → Sg → Bool} {n : Nat} {μ : Mem}
end
end Mok05
set_option autoImplicit false
set_option maxHeartbeats 400000
namespace Mok05
open PySem PySem.Spec PyProof.Rows L2
variable [Wd]
end Mok05
set_option autoImplicit false
set_option maxHeartbeats 400000
namespace Mok05
open PySem PySem.Spec PyProof.Rows L2
variable [Wd]
section
variable {H : List (Str × List Str)} {bs : List (Str × Str)} {A : List Sg}
end
end Mok05
set_option autoImplicit false
set_option maxHeartbeats 400000
namespace Mok05
open PySem PySem.Spec PyProof.Rows L2
variable [Wd]
section
variable {H : List (Str × List Str)} {vs : Nat → Sg → Bool} {A l l2 : List Sg} {n i : Nat} {F : Str → Nat → Nat → Bool} {left : Nat → Bool} {a : Sg} {p : Str × List Str} {h h2 : List (Str × List Str)}
end
section
variable {H : List (Str × List Str)} {bs : List (Str × Str)} {A : List Sg} {F : Str → Nat → Nat → Bool} {left : Nat → Bool} {i g : Nat} {kvs : List (PyData × PyData)} {μ : Mem}
end
end Mok05
set_option autoImplicit false
set_option maxHeartbeats 400000
namespace Mok05
open PySem PySem.Spec PyProof.Rows L2
variable [Wd]
end Mok05
set_option autoImplicit false
set_option maxHeartbeats 400000
namespace Mok05
open PySem PySem.Spec PyProof.Rows L2
variable [Wd]
section
variable {H : List (Str × List Str)} {bs : List (Str × Str)} {A : List Sg} {F : Str → Nat → Nat → Bool} {N B C : Env → Mem → Prop} {R : W → Mem → Prop} {L : List PyData} {r : Mem} {e6 e7 e8 e9 e10 e11 : Option W}
end
end Mok05
set_option autoImplicit false
set_option maxHeartbeats 400000
namespace Mok05
open PySem PySem.Spec PyProof.Rows L2
variable [Wd]
section
variable {H : List (Str × List Str)} {vs : Nat → Sg → Bool} {A : List Sg} {n : Nat} {F : Str → Nat → Nat → Bool}
end
section
variable {H : List (Str × List Str)} {bs : List (Str × Str)} {A : List Sg} {F : Str → Nat → Nat → Bool} {N B C : Env → Mem → Prop} {R : W → Mem → Prop}
end
end Mok05
set_option autoImplicit false
set_option maxHeartbeats 400000
namespace Mok05
open PySem PySem.Spec PyProof.Rows L2
variable [Wd]
section
variable {H : List (Str × List Str)} {bs : List (Str × Str)} {A : List Sg} {F : Str → Nat → Nat → Bool} {N B C : Env → Mem → Prop}
end
end Mok05
set_option autoImplicit false
set_option maxHeartbeats 400000
namespace Mok05
open PySem PySem.Spec PyProof.Rows L2
variable [Wd]
section
variable {H : List (Str × List Str)} {bs : List (Str × Str)} {A : List Sg} {T : Nat}
end
end Mok05
set_option autoImplicit false
set_option maxHeartbeats 400000
namespace Mok05
open PySem PySem.Spec PyProof.Rows L2
variable [Wd]
section
variable {H : List (Str × List Str)} {bs : List (Str × Str)}
end
end Mok05
set_option autoImplicit false
set_option maxHeartbeats 400000
namespace Mok05
open PySem PySem.Spec PyProof.Rows L2
variable [Wd]
section
variable {H : List (Str × List Str)} {vs : Nat → Sg → Bool} {A : List Sg} {n : Nat} {F : Str → Nat → Nat → Bool}
end
section
variable {H : List (Str × List Str)} {bs : List (Str × Str)} {A : List Sg}
end
end Mok05
set_option autoImplicit false
set_option maxHeartbeats 4000000
namespace Mok05
open PySem PySem.Spec PyProof.Rows L2
variable [Wd]
end Mok05
set_option autoImplicit false
set_option maxHeartbeats 400000
namespace Mok05
open PySem PySem.Spec PyProof.Rows L2
variable [Wd]
section
variable {H : List (Str × List Str)} {A : List Sg} {vs : Nat → Sg → Bool} {n : Nat} {F : Str → Nat → Nat → Bool}
end
end Mok05
set_option autoImplicit false
set_option maxHeartbeats 400000
namespace Mok05
open PySem PySem.Spec PyProof.Rows L2
variable [Wd]
section
variable {ρ : Env} {μ : Mem} {Pw : W → Mem → Prop} {Pa : List PyData → Mem → Prop}
end
end Mok05
set_option autoImplicit false
set_option maxHeartbeats 400000
namespace Mok05
open PySem PySem.Spec PyProof.Rows L2
variable [Wd]
section
variable {H : List (Str × List Str)} {A : List Sg} {vs : Nat → Sg → Bool} {n : Nat} {F : Str → Nat → Nat → Bool} {left : Nat → Bool}
end
end Mok05
set_option autoImplicit false
set_option maxHeartbeats 400000
namespace Mok05
open PySem PySem.Spec PyProof.Rows L2
variable [Wd]
section
variable {H : List (Str × List Str)} {bs : List (Str × Str)} {s : Sg} {A : List Sg} {T : Nat}
end
end Mok05
set_option autoImplicit false
set_option maxHeartbeats 400000
namespace Mok05
open PySem PySem.Spec PyProof.Rows L2
variable [Wd]
section
variable {H : List (Str × List Str)} {bs : List (Str × Str)} {A : List Sg} {F : Str → Nat → Nat → Bool} {vs : Nat → Sg → Bool} {left : Nat → Bool} {n : Nat}
end
section
variable {H : List (Str × List Str)} {bs : List (Str × Str)} {A : List Sg} {left : Nat → Bool} {N B C : Env → Mem → Prop} {R : W → Mem → Prop}
end
end Mok05
set_option autoImplicit false
set_option maxHeartbeats 400000
namespace Mok05
open PySem PySem.Spec PyProof.Rows L2
variable [Wd]
section
variable {H : List (Str × List Str)} {bs : List (Str × Str)} {A : List Sg} {left : Nat → Bool} {N B C : Env → Mem → Prop} {R : W → Mem → Prop}
end
end Mok05
set_option autoImplicit false
set_option maxHeartbeats 400000
namespace Mok05
open PySem PySem.Spec PyProof.Rows L2
variable [Wd]
section
variable {H : List (Str × List Str)} {bs : List (Str × Str)} {A : List Sg} {left : Nat → Bool}
end
end Mok05
set_option autoImplicit false
set_option maxHeartbeats 400000
namespace Mok05
open PySem PySem.Spec PyProof.Rows L2
variable [Wd]
section
variable {H : List (Str × List Str)} {bs : List (Str × Str)} {A : List Sg}
end
section
variable {H : List (Str × List Str)} {bs : List (Str × Str)}
end
end Mok05
set_option autoImplicit false
set_option maxHeartbeats 400000
namespace Mok05
open PySem PySem.Spec PyProof.Rows L2
variable [Wd]
section
variable {H : List (Str × List Str)} {bs : List (Str × Str)} {s : Sg} {A : List Sg}
end
end Mok05
set_option autoImplicit false
set_option maxHeartbeats 4000000
namespace Mok05
variable [Wd]
open PySem PySem.Spec PyProof.Rows L2
noncomputable def opLr1 (own : Bool) : Op
  | [.d (.int n)], μ => if inR n = true then mkL own (intsOf 0 n.toNat) μ else none
  | _, _ => none
section
variable {X : Cx} {ct : Ct} {Z : WX}
end
section
variable {μ : Mem} {Pw : W → Mem → Prop}
end
def isBo (b : Bool) : PyData → Bool
  | .bool a => a == b
  | _ => false
def opIsB (neg : Bool) : Op
  | [.d x, .d (.bool b)], μ => pB (if neg = true then !isBo b x else isBo b x) μ
  | _, _ => none
section
variable {X : Cx}
theorem isB_go {K : PySem.W.Frag} {L : Addr → Prop} {H : Hp} {v : V} {x : PyData} {b : Bool} {r u : Value} (hv : Dv K L H v x) (hr : RelV v r) (hu : u = .bool b) : plainIs r u = true ∧ (isBo b x = true ↔ r = u) := by
  subst hu
  cases hv with
  | non => cases hr; exact ⟨rfl, by simp [isBo]⟩
  | bl a => cases hr; exact ⟨rfl, by simp [isBo]⟩
  | int i => obtain ⟨t, rfl⟩ := hr; exact ⟨rfl, by simp [isBo]⟩
  | str x => obtain ⟨t, rfl⟩ := hr; exact ⟨rfl, by simp [isBo]⟩
  | lst _ _ => cases hr; exact ⟨rfl, by simp [isBo]⟩
  | tup _ _ => cases hr; exact ⟨rfl, by simp [isBo]⟩
  | dK _ _ _ => cases hr; exact ⟨rfl, by simp [isBo]⟩
theorem op2_isnotB : Op2R X (compareOp .IsNot) (opIsB true) := by
  intro pins s σ H x y v u Q I rx ry h
  obtain ⟨m, μ, ws, r, hh, g⟩ := h
  obtain ⟨a, b, rfl, r1, r2⟩ := two r
  unfold opIsB at g
  split at g
  · rename_i p q e
    simp only [List.cons.injEq, and_true] at e
    obtain ⟨rfl, rfl⟩ := e
    cases r2
    obtain ⟨k1, k2⟩ := isB_go r1 rx ry
    rw [if_pos rfl] at g
    by_cases c : isBo q p = true
    · rw [c] at g
      obtain rfl := k2.mp c
      exact wpAny_isNot_self k1 ⟨.bl false, H, I, rfl, g.now hh (.bl _)⟩
    · have c2 : isBo q p = false := by simpa using c
      rw [c2] at g
      exact wpAny_isNot_other k1 (fun z => c (k2.mpr z)) ⟨.bl true, H, I, rfl, g.now hh (.bl _)⟩
  · exact g.elim
end
theorem okO_isB {neg b : Bool} {x : PyData} {μ : Mem} {P : W → Mem → Prop} : OkO (opIsB neg [.d x, .d (.bool b)] μ) P = P (.d (.bool (if neg = true then !isBo b x else isBo b x))) μ := rfl
end Mok05
set_option autoImplicit false
set_option maxHeartbeats 4000000
namespace Mok05
variable [Wd]
open PySem PySem.Spec PyProof.Rows L2
section
variable {X : Cx} {ct : Ct} {Z : WX} {tg : Expr} {x : Str} {p : Pos}
variable {scope : Scope} {own : List (Str × Nat)} {elt : Expr} {ifs : List Expr} {pos : Pos} {g : PyData → Env → Option Env} {us : List Nat} {dt : DT} {de : DE}
end
end Mok05
set_option autoImplicit false
set_option maxHeartbeats 4000000
namespace Mok05
open PySem PySem.Spec PyProof.Rows L2
variable [Wd]
end Mok05
set_option autoImplicit false
set_option maxHeartbeats 400000
namespace Mok05
open PySem PySem.Spec PyProof.Rows L2
variable [Wd]
section
variable {l : List Str} {n : Nat} {E : List (Nat × Nat)} {N B C : Env → Mem → Prop} {R : W → Mem → Prop}
end
end Mok05
set_option autoImplicit false
set_option maxHeartbeats 400000
namespace Mok05
open PySem PySem.Spec PyProof.Rows L2
variable [Wd]
def dF (hs : List Str) (f : Str → List (Nat × Nat)) : List (PyData × PyData) := hs.map fun h => (.str h, .list ((f h).map pairD))
section
variable {μ : Mem} {g : Nat} {hs : List Str} {f : Str → List (Nat × Nat)}
end
section
variable {H : List (Str × List Str)} {bs : List (Str × Str)} {n g : Nat} {μ : Mem} {N B C : Env → Mem → Prop} {R : W → Mem → Prop} {e3 e4 e5 e6 e7 : Option W}
end
end Mok05
set_option autoImplicit false
set_option maxHeartbeats 400000
namespace Mok05
open PySem PySem.Spec PyProof.Rows L2
variable [Wd]
section
variable {H : List (Str × List Str)} {bs : List (Str × Str)} {z n : Nat} {N B C : Env → Mem → Prop} {R : W → Mem → Prop} {e4 e5 e8 e9 e10 e11 e12 e13 : Option W} {l : List Str} {r t : Mem}
end
end Mok05
set_option autoImplicit false
set_option maxHeartbeats 400000
namespace Mok05
open PySem PySem.Spec PyProof.Rows L2
open PySem.W (dataLt)
variable [Wd]
section
variable {H : List (Str × List Str)} {bs : List (Str × Str)} {z n : Nat} {N B C : Env → Mem → Prop} {R : W → Mem → Prop} {e5 e6 e7 e8 e9 e10 e11 e12 e13 : Option W} {r : Mem}
end
end Mok05
set_option autoImplicit false
set_option maxHeartbeats 400000
namespace Mok05
open PySem PySem.Spec PyProof.Rows L2
open PySem.W (dataLt)
variable [Wd]
section
variable {H : List (Str × List Str)} {bs : List (Str × Str)} {z n : Nat} {N B C : Env → Mem → Prop} {R : W → Mem → Prop} {e5 e6 e7 e8 e9 e11 e12 e13 : Option W} {r : Mem} {D : PyData}
end
end Mok05
set_option autoImplicit false
set_option maxHeartbeats 400000
namespace Mok05
open PySem PySem.Spec PyProof.Rows L2
open PySem.W (dataLt)
variable [Wd]
section
variable {H : List (Str × List Str)} {bs : List (Str × Str)} {z n : Nat} {N B C : Env → Mem → Prop} {R : W → Mem → Prop} {e5 e6 e7 e8 e9 e10 e11 e12 e13 : Option W} {r : Mem}
end
end Mok05
set_option autoImplicit false
set_option maxHeartbeats 1000000
namespace Mok05
open PySem PySem.Spec PyProof.Rows L2
open PySem.W (dataLt)
variable [Wd]
section
variable {μ : Mem} {P : W → Mem → Prop}
end
section
variable {w : Web} {self : Fn} {P : W → Mem → Prop} {N B C : Env → Mem → Prop} {R : W → Mem → Prop} {e4 e5 e6 e7 e8 e9 e10 e11 e12 e13 e14 e15 : Option W}
end
end Mok05
set_option autoImplicit false
set_option maxHeartbeats 1000000
namespace Mok05
open PySem PySem.Spec PyProof.Rows L2
open PySem.W (dataLt)
variable [Wd]
end Mok05
set_option autoImplicit false
set_option maxHeartbeats 1000000
namespace Mok05
open PySem PySem.Spec PyProof.Rows L2
open PySem.W (dataLt)
variable [Wd]
section
variable {M : List PyData} {r : Mem} {n : Nat} {P : W → Mem → Prop}
end
end Mok05
set_option autoImplicit false
set_option maxHeartbeats 4000000
namespace Mok05
open PySem PySem.Spec PyProof.Rows L2
variable [Wd]
def getT (kvs : List (List Int × PyData)) (k : List Int) : Option PyData := (kvs.find? fun p => decide (p.1 = k)).map (·.2)
section
variable {K : PySem.W.Frag} {m : Ms} {H : Hp}
end
section
variable {X : Cx} {pins : List (Addr × Obj)} {σ : L2.St} {H : Hp} {s : Shared} {a : Addr} {L : List (List Int × Addr × Value)}
end
def dNewT : DE := fun _ μ => .ok (.r μ.length) (μ ++ [.kt []])
section
variable {X : Cx} {ct : Ct} {Z : WX}
def opLenT : Op
  | [.r n], μ => match μ[n]? with
    | some (.kt kvs) => if kvs.length ≤ 1000000 then pI kvs.length μ else none
    | _ => none
  | _, _ => none
def opIxT : Op
  | [.r n, .d (.tuple ds)], μ => match μ[n]?, intsD ds with
    | some (.kt kvs), some k => (match getT kvs k with
      | some y => some (.d y, μ)
      | none => none)
    | _, _ => none
  | _, _ => none
def opSetdT : Op
  | [.r n, .d (.tuple ds), .d y], μ => match μ[n]?, intsD ds with
    | some (.kt kvs), some k => if kvs.length < 1000000 then (match getT kvs k with
      | some v => some (.d v, μ)
      | none => some (.d y, μ.set n (.kt (kvs ++ [(k, y)])))) else none
    | _, _ => none
  | _, _ => none
def isKt : W → Mem → Bool
  | .r n, μ => match μ[n]? with
    | some (.kt _) => true
    | _ => false
  | _, _ => false
def dSetdT (da db dc : DE) : DE := fun ρ μ => bnd (da ρ μ) fun x μ1 => if isKt x μ1 = true then bnd (db ρ μ1) fun y μ2 => bnd (dc ρ μ2) fun z μ3 => ofO (opSetdT [x, y, z] μ3) else .bad
end
section
variable {μ : Mem} {P : W → Mem → Prop}
end
end Mok05
set_option autoImplicit false
set_option maxHeartbeats 4000000
namespace Mok05
open PySem PySem.Spec PyProof.Rows L2
variable [Wd]
def opGetL : Op
  | [.r n, .d (.int k)], μ => match μ[n]? with
    | some (.l xs) => if 0 ≤ k ∧ xs.length ≤ 1000000 then (match xs[k.toNat]? with
      | some x => some (.d x, μ)
      | none => none) else none
    | _ => none
  | _, _ => none
def sAugS (f : Op) (do_ di dv : DE) : DS := fun ρ μ => nxt ρ (fun _ => ρ) (bnd (do_ ρ μ) fun o μ1 => bnd (di ρ μ1) fun i μ2 => bnd (ofO (opGetL [o, i] μ2)) fun old μ3 => bnd (dv ρ μ3) fun v μ4 => bnd (ofO (f [old, v] μ4)) fun new μ5 => okM (stW o i new μ5))
section
variable {X : Cx} {ct : Ct} {Z : WX}
end
section
variable {μ : Mem} {ρ : Env} {N B C : Env → Mem → Prop} {R : W → Mem → Prop} {P : W → Mem → Prop}
end
end Mok05
set_option autoImplicit false
set_option maxHeartbeats 4000000
namespace Mok05
open PySem PySem.Spec PyProof.Rows L2
variable [Wd]
def unL : PyData → List PyData
  | .list xs => xs
  | _ => []
def llOne (te : DE) (ρ : Env) (acc : List PyData) (μ : Mem) : Res (List PyData) := bnd (noX (te ρ μ)) fun w μ2 => match w with
  | .d y => if acc.length < sizeLine then .ok (acc ++ [.list [y]]) μ2 else .bad
  | _ => .bad
noncomputable def dLl (di : DI) (g : PyData → Env → Option Env) (te : DE) (vs : List Nat) : DE := fun ρ μ => bnd (di ρ μ) fun s μ1 => bnd (lcL s g (llOne te) (wipeE ρ vs) s.1 [] μ1) fun acc μ2 => .ok (.r μ2.length) (μ2 ++ [.ll (acc.map unL)])
section
variable {K : PySem.W.Frag} {m0 m m' : Ms} {H0 H H' : Hp} {D : Addr} {acc : List PyData} {μ : Mem}
end
section
variable {X : Cx} {ct : Ct} {Z : WX}
section
variable {scope : Scope} {own : List (Str × Nat)} {tg iter elt : Expr} {pos lpos : Pos} {di : DI} {g : PyData → Env → Option Env} {us : List Nat} {de : DE}
end
end
end Mok05
set_option autoImplicit false
set_option maxHeartbeats 4000000
namespace Mok05
open PySem PySem.Spec PyProof.Rows L2
variable [Wd]
def llApp (n : Nat) (k : Int) (y : PyData) (μ : Mem) : Option Mem := match μ[n]? with
  | some (.ll xss) => if 0 ≤ k then (match xss[k.toNat]? with
    | some xs => if sz (xs.length + 1) = true then some (μ.set n (.ll (xss.set k.toNat (xs ++ [y])))) else none
    | none => none) else none
  | _ => none
def dLlApp (i j l : Nat) : DE := fun ρ μ => match ρ[i]?, ρ[j]?, ρ[l]? with
  | some (some (.r n)), some (some (.d (.int k))), some (some (.d y)) => (match llApp n k y μ with
    | some μ' => .ok (.d .none) μ'
    | none => .bad)
  | _, _, _ => .bad
section
variable {X : Cx} {ct : Ct} {Z : WX}
end
section
variable {μ : Mem} {ρ : Env} {P : W → Mem → Prop}
end
end Mok05
set_option autoImplicit false
set_option maxHeartbeats 4000000
namespace Mok05
open PySem PySem.Spec PyProof.Rows L2
variable [Wd]
section
variable {P : Program} {w : World} {K : PySem.W.Frag} {mg : Str → Option Value} {base : Heap} {ct : Ct} {k : Nat} {x : Str} {st : Stmt} {N ps : List Str} {body : DS}
end
section
variable {X : Cx} {ct : Ct} {Z : WX} {k : Nat} {x : Str} {F : Fn} {p pos : Pos}
end
section
variable {μ : Mem} {ρ : Env} {P : W → Mem → Prop}
end
end Mok05
set_option autoImplicit false
set_option maxHeartbeats 4000000
namespace Mok05
open PySem PySem.Spec PyProof.Rows L2
open PySem.W (dataLt)
variable [Wd]
section
variable {X : Cx} {N0 : Addr → HO} {Ad : Hp → Addr → V → (Hp → Prop) → Prop}
end
section
variable {P : Program} {w : World} {K : PySem.W.Frag} {D : Addr} {h0 : List Addr} {m m' : Ms} {H H' : Hp} {acc : List PyData} {μ : Mem}
end
section
variable {X : Cx} {ct : Ct} {Z : WX}
section
variable {scope : Scope} {own : List (Str × Nat)} {tg iter elt : Expr} {ifs : List Expr} {spos p pos : Pos} {di : DI} {g : PyData → Env → Option Env} {us : List Nat} {dt : DT} {de : DE}
end
end
end Mok05
set_option autoImplicit false
namespace Mok05
open PySem PySem.Spec PyProof.Rows L2
variable [Wd]
section
variable {X : Cx}
end
end Mok05
set_option autoImplicit false
namespace Mok05
open PySem PySem.Spec PyProof.Rows L2
variable [Wd]
noncomputable def B_numbered : DS := (sSeq (sSet 1 (dNewD true))
  (sSeq (sFor (dI iV (dV 0)) (gN 2)
  (sExpr (dMt "dict" opSetd (dV 1) (dCons (dV 2) (dCons (dPn (orO opLen opLenD) (dCons (dV 1) dNil)) dNil)))))
  (sSeq (sLet 1) (sRet (dPn opTu (dCons (dLc false (dI iV (dV 0)) (gN 2) dYes (dP2 opIxA (dV 1) (dV 2)) [2]) dNil))))))
noncomputable def F_numbered : Fn := fnF 1 3 B_numbered
noncomputable def B_numbered_t : DS := (sSeq (sSet 1 dNewT)
  (sSeq (sFor (dI iV (dV 0)) (gN 2)
  (sExpr (dSetdT (dV 1) (dV 2) (dPn opLenT (dCons (dV 1) dNil)))))
  (sRet (dPn opTu (dCons (dLc false (dI iV (dV 0)) (gN 2) dYes (dP2 opIxT (dV 1) (dV 2)) [2]) dNil)))))
noncomputable def F_numbered_t : Fn := fnF 1 3 B_numbered_t
noncomputable def B_finer_classes : DS := (sSeq (sSet 2 (dLl (dI iV (dV 1)) (gN 10) (dV 10) [10]))
  (sSeq (sFor (dI iV (dP2 opIxA (dV 0) (dC (.int 1)))) (gT 2 (gCons' (gN 3) (gCons' (gN 4) gNil')))
  (sSeq (sSet 5 (dP2 (opMul true) (dPn (opLst false) (dCons (dC (.int 0)) dNil)) (dP2 opIxA (dV 0) (dC (.int 0)))))
  (sSeq (sFor (dI iV (dV 4)) (gT 2 (gCons' (gN 6) (gCons' (gN 7) gNil')))
  (sAugS opOr (dV 5) (dV 6) (dP2 opShl (dC (.int 1)) (dP2 opIxA (dV 1) (dV 7)))))
  (sSeq (sLet 5) (sFor (dIs iEn (dCons (dV 5) dNil)) (gT 2 (gCons' (gN 8) (gCons' (gN 9) gNil')))
  (sExpr (dLlApp 2 8 9)))))))
  (sSeq (sLet 2) (sRet (dCall F_numbered_t [] (dCons (dLc false (dI iV (dV 2)) (gN 11) dYes (dPn opTu (dCons (dV 11) dNil)) [11]) dNil))))))
noncomputable def F_finer_classes : Fn := fnF 2 12 B_finer_classes
noncomputable def B_letters_at : DS := (sSeq (sSet 1 (dP2 (opMul true) (dPn (opLst false) (dCons (dC (.int 0)) dNil)) (dP2 opIxA (dV 0) (dC (.int 0)))))
  (sSeq (sFor (dIs iEnA (dCons (dP2 opIxA (dV 0) (dC (.int 2))) dNil)) (gT 2 (gCons' (gN 2) (gCons' (gN 3) gNil')))
  (sFor (dI iV (dP2 opIxA (dV 3) (dC (.int 1)))) (gN 4)
  (sAugS opOr (dV 1) (dV 4) (dP2 opShl (dC (.int 1)) (dV 2)))))
  (sSeq (sLet 1) (sRet (dV 1)))))
noncomputable def F_letters_at : Fn := fnF 1 5 B_letters_at
noncomputable def B_class_rounds : DS := (sSeq (sSet 1 (dCall F_numbered [] (dCons (dCall F_letters_at [] (dCons (dV 0) dNil)) dNil)))
  (sSeq (sSet 2 (dPn (opLst true) (dCons (dV 1) dNil)))
  (sSeq (sSet 3 (dCall F_finer_classes [] (dCons (dV 0) (dCons (dV 1) dNil))))
  (sSeq (whl (dTb (dP2 (opEq true) (dV 3) (dV 1)))
  (sSeq (sSet 1 (dV 3))
  (sSeq (sExpr (dMt "list" opAppend (dV 2) (dCons (dV 1) dNil)))
  (sSet 3 (dCall F_finer_classes [] (dCons (dV 0) (dCons (dV 1) dNil)))))) 100000)
  (sSeq (sLet 2) (sRet (dPn opTu (dCons (dV 2) dNil))))))))
noncomputable def F_class_rounds : Fn := fnF 1 4 B_class_rounds
end Mok05
set_option autoImplicit false
set_option maxHeartbeats 1000000
namespace Mok05
open PySem PySem.Spec PyProof.Rows L2
variable [Wd]
section
variable {α β : Type} [DecidableEq α] [DecidableEq β]
def fstAdd (acc : List α) (a : α) : List α := if a ∈ acc then acc else acc ++ [a]
def firsts (l : List α) : List α := l.foldl fstAdd []
def ixF (l : List α) (a : α) : Nat := l.idxOf a
def numB (l : List α) : List Nat := l.map fun a => ixF (firsts l) a
end
end Mok05
set_option autoImplicit false
set_option maxHeartbeats 1000000
namespace Mok05
open PySem PySem.Spec PyProof.Rows L2
variable [Wd]
def mskI (n M : Nat) (F : Nat → Nat → Bool) : List Int := (List.range n).map fun x => ((mk M (F x) : Nat) : Int)
def msk (n M : Nat) (F : Nat → Nat → Bool) : List PyData := (mskI n M F).map .int
section
variable {μ : Mem} {ρ : Env} {N B C : Env → Mem → Prop} {R : W → Mem → Prop}
end
def hasL (w : Web) (x i : Nat) : Bool := match w.le[i]? with
  | some p => decide (x ∈ p.2)
  | none => false
end Mok05
set_option autoImplicit false
set_option maxHeartbeats 1000000
namespace Mok05
open PySem PySem.Spec PyProof.Rows L2
variable [Wd]
def gb (cs : List Nat) (ps : List (Nat × Nat)) (x c : Nat) : Bool := ps.any fun q => decide (q.1 = x) && decide (cs.getD q.2 0 = c)
def gm (n : Nat) (cs : List Nat) (ps : List (Nat × Nat)) (x : Nat) : Nat := mk n (gb cs ps x)
def mrkK (w : Web) (cs : List Nat) (k x : Nat) : List Int := ((cs.getD x 0 : Nat) : Int) :: (w.st.take k).map fun p => ((gm w.n cs p.2 x : Nat) : Int)
def mrkF (w : Web) (cs : List Nat) (x : Nat) : List Int := mrkK w cs w.st.length x
section
variable {w : Web} {cs : List Nat} {N B C : Env → Mem → Prop} {R : W → Mem → Prop}
end
end Mok05
set_option autoImplicit false
set_option maxHeartbeats 1000000
namespace Mok05
open PySem PySem.Spec PyProof.Rows L2
variable [Wd]
section
variable {α β γ : Type} [DecidableEq α] [DecidableEq β]
end
def cls0 (w : Web) : List Nat := numB (mskI w.n w.le.length (hasL w))
def stpC (w : Web) (cs : List Nat) : List Nat := numB ((List.range w.n).map (mrkF w cs))
def clsN (w : Web) : Nat → List Nat
  | 0 => cls0 w
  | t + 1 => stpC w (clsN w t)
section
variable {α : Type} [DecidableEq α]
end
def cl (w : Web) (t x : Nat) : Nat := (clsN w t).getD x 0
noncomputable def crC : DT := dTb (dP2 (opEq true) (dV 3) (dV 1))
noncomputable def crB : DS := sSeq (sSet 1 (dV 3)) (sSeq (sExpr (dMt "list" opAppend (dV 2) (dCons (dV 1) dNil))) (sSet 3 (dCall F_finer_classes [] (dCons (dV 0) (dCons (dV 1) dNil)))))
noncomputable def crN : Nat := 100000
noncomputable def crRun : DS := whl crC crB crN
noncomputable def crHeadG (b : DS) : DS := (sSeq (sSet 1 (dCall F_numbered [] (dCons (dCall F_letters_at [] (dCons (dV 0) dNil)) dNil)))
  (sSeq (sSet 2 (dPn (opLst true) (dCons (dV 1) dNil)))
  (sSeq (sSet 3 (dCall F_finer_classes [] (dCons (dV 0) (dCons (dV 1) dNil)))) b)))
noncomputable def crTail : DS := (sSeq crRun (sSeq (sLet 2) (sRet (dPn opTu (dCons (dV 2) dNil)))))
theorem cr_all : F_class_rounds = fnF 1 4 (crHeadG crTail) := rfl
end Mok05
set_option autoImplicit false
set_option maxHeartbeats 1000000
namespace Mok05
open PySem PySem.Spec PyProof.Rows L2
open PySem.W (dataLt)
variable [Wd]
end Mok05
set_option autoImplicit false
set_option maxHeartbeats 1000000
namespace Mok05
open PySem PySem.Spec PyProof.Rows L2
open PySem.W (dataLt)
variable [Wd]
section
variable {w : Web} {cs : List Nat} {m : Nat} {x : PyData}
end
end Mok05
set_option autoImplicit false
set_option maxHeartbeats 1000000
namespace Mok05
open PySem PySem.Spec PyProof.Rows L2
open PySem.W (dataLt)
variable [Wd]
section
variable {n : Nat} {C cs : List Nat} {x y z v : PyData} {L : List PyData}
end
end Mok05
set_option autoImplicit false
set_option maxHeartbeats 1000000
namespace Mok05
open PySem PySem.Spec PyProof.Rows L2
variable [Wd]
end Mok05
set_option autoImplicit false
set_option maxHeartbeats 1000000
namespace Mok05
open PySem PySem.Spec PyProof.Rows L2
variable [Wd]
end Mok05
set_option autoImplicit false
set_option maxHeartbeats 1000000
namespace Mok05
open PySem PySem.Spec PyProof.Rows L2
variable [Wd]
section
variable {H : List (Str × List Str)} {bs : List (Str × Str)} {m : Nat} {w : Web}
end
mutual
theorem allP_pl : ∀ s : Sg, s.pl → ∀ p ∈ allP s, p.pl
  | .lt x, h, p, hp => by
    rw [allP_inn] at hp
    simp [Sg.inn, allPs] at hp
    rw [hp]; trivial
  | .no s, h, p, hp => by
    rw [allP_inn] at hp
    simp only [Sg.inn, allPs, List.append_nil, List.mem_cons] at hp
    rcases hp with rfl | hp
    · exact h
    · exact allP_pl s h p hp
  | .many c l, h, p, hp => by
    rw [allP_inn] at hp
    simp only [Sg.inn, List.mem_cons] at hp
    rcases hp with rfl | hp
    · exact h
    · exact allPs_pl l h p hp
  | .so a b, h, p, hp => by
    rw [allP_inn] at hp
    simp only [Sg.inn, allPs, List.append_nil, List.mem_cons, List.mem_append] at hp
    rcases hp with rfl | hp | hp
    · exact h
    · exact allP_pl a h.1 p hp
    · exact allP_pl b h.2 p hp
  | .tl a b, h, p, hp => h.elim
  | .mod c k s, h, p, hp => by
    rw [allP_inn] at hp
    simp only [Sg.inn, allPs, List.append_nil, List.mem_cons] at hp
    rcases hp with rfl | hp
    · exact h
    · exact allP_pl s h p hp
theorem allPs_pl : ∀ (l : List Sg), Sg.pls l → ∀ p ∈ allPs l, p.pl
  | [], h, p, hp => by cases hp
  | s :: r, h, p, hp => by
    rw [allPs, List.mem_append] at hp
    rcases hp with hp | hp
    · exact allP_pl s h.1 p hp
    · exact allPs_pl r h.2 p hp
end
section
variable {H : List (Str × List Str)} {bs : List (Str × Str)} {s : Sg} {A : List Sg} {N B C : Env → Mem → Prop} {R : W → Mem → Prop}
end
end Mok05
set_option autoImplicit false
set_option maxHeartbeats 1000000
namespace Mok05
open PySem PySem.Spec PyProof.Rows L2
variable [Wd]
end Mok05
set_option autoImplicit false
set_option maxHeartbeats 4000000
namespace Mok05
open PySem PySem.Spec PyProof.Rows L2
variable [Wd]
end Mok05
set_option autoImplicit false
set_option maxHeartbeats 1000000
namespace Mok05
open PySem PySem.Spec PyProof.Rows L2
variable [Wd]
section
variable {H : List (Str × List Str)} {bs : List (Str × Str)} {m : Nat} {w : Web}
end
end Mok05
set_option autoImplicit false
set_option maxHeartbeats 1000000
namespace Mok05
open PySem PySem.Spec PyProof.Rows L2
variable [Wd]
section
variable {H : List (Str × List Str)} {bs : List (Str × Str)} {s : Sg} {A : List Sg} {w : Web}
end
end Mok05
set_option autoImplicit false
set_option maxHeartbeats 1000000
namespace Mok05
open PySem PySem.Spec PyProof.Rows L2
variable [Wd]
section
variable {H : List (Str × List Str)} {bs : List (Str × Str)} {s : Sg} {A : List Sg} {w : Web} {m : Nat}
theorem pushin_eq {s : Sg} (ht : s.ht < 30) (hs : s.sok) (hp : s.pl) (μ : Mem) : callF F_pushed_in [.d s.d] μ = .ok (.d (pu true s).d) μ := by
  refine call_pure rfl ?_
  have e : ∀ μ, callF (F_pushed 30) [.d s.d, .d (.bool true)] μ = .ok (.d (pu true s).d) μ := fun μ => call_pure (xs := [s.d, .bool true]) rfl (pu_ok 30 s true ht hs hp)
  simp [F_pushed_in, B_pushed_in, e]
end
end Mok05
set_option autoImplicit false
set_option maxHeartbeats 1000000
namespace Mok05
open PySem PySem.Spec PyProof.Rows L2
variable [Wd]
end Mok05
set_option autoImplicit false
set_option maxHeartbeats 1000000
namespace Mok05
open PySem PySem.Spec PyProof.Rows L2
variable [Wd]
end Mok05
set_option autoImplicit false
namespace Mok05
variable [Wd]
open PySem PySem.Spec PyProof.Rows L2
def findAt (x y : Str) (i : Int) : Int := match Builtin.Str.occurrences x y (fromIndex x.length i) x.length 1 with
  | k :: _ => (k : Int)
  | [] => -1
def opFind : Op
  | [.d (.str x), .d (.str y), .d (.int i)], μ => pI (findAt x y i) μ
  | _, _ => none
theorem find_op {X : Cx} : MtO X "str.find" opFind := by
  intro pins s σ H x xs v us Q I rx rs h
  obtain ⟨m, μ, ws, r, hh, g⟩ := h
  unfold opFind at g
  split at g
  rotate_left
  · exact g.elim
  cases r with
  | cons r1 t =>
    cases t with
    | cons r2 t =>
      cases t with
      | cons r3 t =>
        cases t
        cases r1
        cases r2
        cases r3
        obtain ⟨t, rfl⟩ := rx
        cases rs with
        | cons a rs =>
          cases rs with
          | cons b rs =>
            cases rs
            obtain ⟨u, rfl⟩ := a
            obtain ⟨w, rfl⟩ := b
            exact call_gives F.slot_str_find (typeIs_str _ _ _) F.entry_str_find (F.args_str_find_3 _ _ _) (gives_str_find_from _ _ _ t u w) ⟨.int _, H, I.tok _, ⟨_, rfl⟩, g.now hh (.int _)⟩
theorem sub_one {x : Str} {c j : Nat} : Builtin.Str.subAt x ⟨#[c]⟩ j = true ↔ x.cps.toList[j]? = some c := by
  rw [PySem.StrLaws.subAt_eq]
  show ((x.cps.toList.drop j).take 1 == [c]) = true ↔ _
  rw [beq_iff_eq, ← List.head?_drop]
  cases x.cps.toList.drop j with
  | nil => simp
  | cons a l => simp
theorem from_nat {n i : Nat} : fromIndex n (i : Nat) = i := by
  unfold fromIndex
  rw [if_neg (by omega)]
  omega
theorem occ_from (x : Str) (c i : Nat) : (Builtin.Str.occurrences x ⟨#[c]⟩ i x.length 1 = [] ∧ ∀ j, i ≤ j → j < x.length → x.cps.toList[j]? ≠ some c) ∨
    ∃ a r, Builtin.Str.occurrences x ⟨#[c]⟩ i x.length 1 = a :: r ∧ i ≤ a ∧ x.cps.toList[a]? = some c ∧ ∀ j, i ≤ j → j < a → x.cps.toList[j]? ≠ some c := by
  have at1 : ∀ j, PySem.StrLaws.At x ⟨#[c]⟩ x.length j ↔ j < x.length ∧ x.cps.toList[j]? = some c := fun j => by
    unfold PySem.StrLaws.At
    rw [sub_one]
    exact Iff.rfl
  rw [PySem.StrLaws.occ_eq]
  rcases PySem.StrLaws.occ_first x ⟨#[c]⟩ x.length 1 (Nat.le_refl _) (List.range' i (x.length + 1 - i)) i (fun k hk => (List.mem_range'_1.mp hk).1) with ⟨e, no⟩ | ⟨pre, a, post, e, h0, ha, no⟩
  · refine .inl ⟨by rw [e], fun j h1 h2 z => no j (List.mem_range'_1.mpr ⟨h1, by omega⟩) ((at1 j).mpr ⟨h2, z⟩)⟩
  · have at2 : ∀ k, k < pre.length + 1 → (pre ++ a :: post)[k]? = some (i + k) := fun k hk => by
      rw [← e, List.getElem?_range' (by have := congrArg List.length e; simp at this; omega)]
      simp
    have ea : a = i + pre.length := by
      have := at2 pre.length (by omega)
      simpa using this
    have inpre : ∀ j, i ≤ j → j < a → j ∈ pre := fun j h1 h2 => by
      have := at2 (j - i) (by omega)
      rw [List.getElem?_append_left (by omega), Nat.add_sub_cancel' h1] at this
      exact List.mem_of_getElem? this
    refine .inr ⟨a, ((forIn (List.range' i (x.length + 1 - i)) ((#[] : Array Nat), i) (PySem.StrLaws.occBody x ⟨#[c]⟩ x.length 1)).run.fst.toList).tail, ?_, by omega, ((at1 a).mp ha).2, fun j h1 h2 z => no j (inpre j h1 h2) ((at1 j).mpr ⟨by have := ((at1 a).mp ha).1; omega, z⟩)⟩
    generalize (forIn (List.range' i (x.length + 1 - i)) ((#[] : Array Nat), i) (PySem.StrLaws.occBody x ⟨#[c]⟩ x.length 1)).run.fst = arr at h0
    rw [← Array.getElem?_toList] at h0
    cases hL : arr.toList with
    | nil => rw [hL] at h0; cases h0
    | cons b t => rw [hL] at h0; cases h0; rfl
theorem find_yes {x : Str} {c : Nat} {p u v : List Nat} (h : x.cps.toList = p ++ (u ++ c :: v)) (no : c ∉ u) : findAt x ⟨#[c]⟩ (p.length : Nat) = ((p.length + u.length : Nat) : Int) := by
  have len : x.length = p.length + (u.length + (v.length + 1)) := by
    have := congrArg List.length h
    simpa [Str.length] using this
  have here : x.cps.toList[p.length + u.length]? = some c := by rw [h, List.getElem?_append_right (by omega), Nat.add_sub_cancel_left]; simp
  unfold findAt
  rw [from_nat]
  rcases occ_from x c p.length with ⟨e, nn⟩ | ⟨a, r, e, h1, h2, h3⟩
  · exact (nn _ (Nat.le_add_right _ _) (by omega) here).elim
  · rw [e]
    have : a = p.length + u.length := by
      rcases Nat.lt_trichotomy a (p.length + u.length) with l | l | l
      · exfalso
        rw [h, List.getElem?_append_right h1, List.getElem?_append_left (by omega)] at h2
        exact no (List.mem_of_getElem? h2)
      · exact l
      · exact (h3 _ (Nat.le_add_right _ _) l here).elim
    rw [this]
def signsW (z : Str) : Option PyData := if z = "&" then some (.str "and") else if z = "|" then some (.str "or") else none
end Mok05
set_option autoImplicit false
set_option maxHeartbeats 4000000
namespace Mok05
open PySem PySem.Spec PyProof.Rows L2
variable [Wd]
noncomputable def B_rd_init : DS := (sSeq (sAtG "TextReader" "text" 0 (dV 1) (dV 0))
  (sSeq (sAtG "TextReader" "at" 0 (dC (.int 0)) (dV 0))
  (sSeq (sAtG "TextReader" "begun" 1 (dPn (opLst true) dNil) (dV 0))
  (sAtG "TextReader" "failed" 0 (dC (.bool false)) (dV 0)))))
noncomputable def F_rd_init : Fn := fnF 2 2 B_rd_init
noncomputable def B_rd_next : DS := (sRet (dSl false (dAtG "TextReader" "text" (dV 0)) (dPart (dAtG "TextReader" "at" (dV 0))) (dPart (dP2 (opAdd false) (dAtG "TextReader" "at" (dV 0)) (dC (.int 1))))))
noncomputable def F_rd_next : Fn := fnF 1 1 B_rd_next
noncomputable def B_rd_take : DS := (sSeq (sSet 1 (dMethG "TextReader" "next_sign" F_rd_next (dV 0) dNil))
  (sSeq (sAugG "TextReader" "at" opIAdd (dV 0) (dC (.int 1)))
  (sRet (dV 1))))
noncomputable def F_rd_take : Fn := fnF 1 2 B_rd_take
noncomputable def B_rd_letter : DS := (sSeq (whl (dTb (dChain opLeT opLeT (dC (.str "a")) (dMethG "TextReader" "next_sign" F_rd_next (dV 0) dNil) (dC (.str "z"))))
  (sAugG "TextReader" "at" opIAdd (dV 0) (dC (.int 1))) 100000)
  (sSeq (sSet 2 (dSl false (dAtG "TextReader" "text" (dV 0)) (dPart (dV 1)) (dPart (dAtG "TextReader" "at" (dV 0)))))
  (sSeq (sIf (dNot (dTv (dCall F_is_word [] (dCons (dV 2) dNil))))
  (sAtG "TextReader" "failed" 0 (dC (.bool true)) (dV 0)) sNext)
  (sRet (dPn opTup (dCons (dC (.str "letter")) (dCons (dV 2) dNil)))))))
noncomputable def F_rd_letter : Fn := fnF 2 3 B_rd_letter
noncomputable def B_rd_brackets : DS := (sSeq (sSet 1 (dMethG "TextReader" "next_sign" F_rd_next (dV 0) dNil))
  (sIf (dTb (dP2 (opInA false) (dV 1) (dPn opTup (dCons (dC (.str "&")) (dCons (dC (.str "|")) dNil)))))
  (sSeq (sAugG "TextReader" "at" opIAdd (dV 0) (dC (.int 1)))
  (sExpr (dMt "list" opAppend (dAtG "TextReader" "begun" (dV 0)) (dCons (dPn opTup (dCons (dV 1) dNil)) dNil)))) (sExpr (dMt "list" opAppend (dAtG "TextReader" "begun" (dV 0)) (dCons (dPn opTup (dCons (dC (.str "(")) (dCons (dC (.str "")) dNil))) dNil)))))
noncomputable def F_rd_brackets : Fn := fnF 1 2 B_rd_brackets
noncomputable def B_rd_hand : DS := (sSeq (sSet 3 (dMt "str" opFind (dAtG "TextReader" "text" (dV 0)) (dCons (dV 2) (dCons (dAtG "TextReader" "at" (dV 0)) dNil))))
  (sSeq (sSet 4 (dSl false (dAtG "TextReader" "text" (dV 0)) (dPart (dAtG "TextReader" "at" (dV 0))) (dPart (dPn opMax (dCons (dV 3) (dCons (dAtG "TextReader" "at" (dV 0)) dNil))))))
  (sSeq (sIf (dNot (dTv (dCall F_is_word [] (dCons (dV 4) dNil))))
  (sAtG "TextReader" "failed" 0 (dC (.bool true)) (dV 0)) sNext)
  (sSeq (sExpr (dMt "list" opAppend (dAtG "TextReader" "begun" (dV 0)) (dCons (dPn opTup (dCons (dV 1) (dCons (dV 4) dNil))) dNil)))
  (sAtG "TextReader" "at" 0 (dP2 (opAdd false) (dV 3) (dC (.int 1))) (dV 0))))))
noncomputable def F_rd_hand : Fn := fnF 3 5 B_rd_hand
noncomputable def B_rd_begin : DS := (sSeq (sSet 1 (dMethG "TextReader" "take_sign" F_rd_take (dV 0) dNil))
  (sSeq (sIf (dTb (dP2 (opEq false) (dV 1) (dC (.str "T"))))
  (sRet (dPn opTup (dCons (dC (.str "and")) (dCons (dPn opTup dNil) dNil)))) sNext)
  (sSeq (sIf (dTb (dP2 (opEq false) (dV 1) (dC (.str "F"))))
  (sRet (dPn opTup (dCons (dC (.str "or")) (dCons (dPn opTup dNil) dNil)))) sNext)
  (sSeq (sIf (dTb (dChain opLeT opLeT (dC (.str "a")) (dV 1) (dC (.str "z"))))
  (sRet (dMethG "TextReader" "letter_from" F_rd_letter (dV 0) (dCons (dP2 opSub (dAtG "TextReader" "at" (dV 0)) (dC (.int 1))) dNil))) sNext)
  (sSeq (sIf (dTb (dP2 (opEq false) (dV 1) (dC (.str "~"))))
  (sExpr (dMt "list" opAppend (dAtG "TextReader" "begun" (dV 0)) (dCons (dPn opTup (dCons (dC (.str "not")) dNil)) dNil))) (sIf (dTb (dP2 (opEq false) (dV 1) (dC (.str "{"))))
  (sExpr (dMt "list" opAppend (dAtG "TextReader" "begun" (dV 0)) (dCons (dPn opTup (dCons (dC (.str "told")) dNil)) dNil))) (sIf (dTb (dP2 (opEq false) (dV 1) (dC (.str "("))))
  (sExpr (dMethG "TextReader" "begin_brackets" F_rd_brackets (dV 0) dNil)) (sIf (dTb (dP2 (opEq false) (dV 1) (dC (.str "["))))
  (sExpr (dMethG "TextReader" "begin_hand" F_rd_hand (dV 0) (dCons (dC (.str "must")) (dCons (dC (.str "]")) dNil)))) (sIf (dTb (dP2 (opEq false) (dV 1) (dC (.str "<"))))
  (sExpr (dMethG "TextReader" "begin_hand" F_rd_hand (dV 0) (dCons (dC (.str "may")) (dCons (dC (.str ">")) dNil)))) (sAtG "TextReader" "failed" 0 (dC (.bool true)) (dV 0)))))))
  (sRet (dC .none)))))))
noncomputable def F_rd_begin : Fn := fnF 1 2 B_rd_begin
noncomputable def B_rd_pass : DS := (sIf (dTb (dP2 (opEq true) (dMethG "TextReader" "take_sign" F_rd_take (dV 0) dNil) (dV 1)))
  (sAtG "TextReader" "failed" 0 (dC (.bool true)) (dV 0)) sNext)
noncomputable def F_rd_pass : Fn := fnF 2 2 B_rd_pass
noncomputable def B_rd_endb : DS := (sSeq (sSet 3 (dMethG "TextReader" "take_sign" F_rd_take (dV 0) dNil))
  (sSeq (sIf (dAnd (dTb (dP2 (opEq false) (dV 3) (dC (.str ")")))) (dTb (dP2 (opInA false) (dV 1) (dPn opTup (dCons (dC (.str "&")) (dCons (dC (.str "|")) dNil))))))
  (sRet (dPn opTup (dCons (dKD signsW (dV 1)) (dCons (dV 2) dNil)))) sNext)
  (sSeq (sIf (dAnd (dTb (dP2 (opEq false) (dV 3) (dC (.str ")")))) (dTb (dP2 (opEq false) (dV 1) (dC (.str ">")))))
  (sRet (dPn opTup (dCons (dC (.str "so")) (dStar (dV 2) dNil)))) sNext)
  (sSeq (sIf (dAnd (dTb (dP2 (opInA false) (dV 3) (dPn opTup (dCons (dC (.str "&")) (dCons (dC (.str "|")) (dCons (dC (.str ">")) dNil)))))) (dOr (dTb (dP2 (opEq false) (dV 1) (dC (.str "")))) (dAnd (dTb (dP2 (opEq false) (dV 3) (dV 1))) (dTb (dP2 (opEq true) (dV 3) (dC (.str ">")))))))
  (sExpr (dMt "list" opAppend (dAtG "TextReader" "begun" (dV 0)) (dCons (dPn opTup (dCons (dC (.str "(")) (dCons (dV 3) (dStar (dV 2) dNil)))) dNil))) (sAtG "TextReader" "failed" 0 (dC (.bool true)) (dV 0)))
  (sRet (dC .none))))))
noncomputable def F_rd_endb : Fn := fnF 3 4 B_rd_endb
noncomputable def B_rd_end : DS := (sSeq (sSet 2 (dMt "list" opPop (dAtG "TextReader" "begun" (dV 0)) dNil))
  (sSeq (sSet 3 (dP2 opIxA (dV 2) (dC (.int 0))))
  (sSeq (sIf (dOr (dTb (dP2 (opInA false) (dV 3) (dPn opTup (dCons (dC (.str "not")) (dCons (dC (.str "must")) (dCons (dC (.str "may")) dNil)))))) (dAnd (dTb (dP2 (opEq false) (dV 3) (dC (.str "told")))) (dTb (dP2 (opEq false) (dPn (orO opLen opLenD) (dCons (dV 2) dNil)) (dC (.int 2))))))
  (sRet (dPn opTup (dStar (dV 2) (dCons (dV 1) dNil)))) sNext)
  (sSeq (sIf (dTb (dP2 (opEq false) (dV 3) (dC (.str "told"))))
  (sSeq (sExpr (dMethG "TextReader" "pass_sign" F_rd_pass (dV 0) (dCons (dC (.str "}")) dNil)))
  (sSeq (sExpr (dMt "list" opAppend (dAtG "TextReader" "begun" (dV 0)) (dCons (dPn opTup (dCons (dV 3) (dCons (dV 1) dNil))) dNil)))
  (sRet (dC .none)))) sNext)
  (sSeq (sIf (dTb (dP2 (opEq false) (dV 3) (dC (.str "("))))
  (sRet (dMethG "TextReader" "end_brackets" F_rd_endb (dV 0) (dCons (dP2 opIxA (dV 2) (dC (.int 1))) (dCons (dPn opTup (dStar (dSl false (dV 2) (dPart (dC (.int 2))) dNo) (dCons (dV 1) dNil))) dNil)))) sNext)
  (sSeq (sExpr (dMethG "TextReader" "pass_sign" F_rd_pass (dV 0) (dCons (dC (.str ")")) dNil)))
  (sRet (dPn opTup (dCons (dKD signsW (dV 3)) (dCons (dPn opTup (dCons (dV 1) dNil)) dNil))))))))))
noncomputable def F_rd_end : Fn := fnF 2 4 B_rd_end
noncomputable def B_rd_on : DS := (sSeq (sSet 1 (dMethG "TextReader" "begin" F_rd_begin (dV 0) dNil))
  (sSeq (whl (dAnd (dTb (dP2 (opIs true) (dV 1) (dC .none))) (dTv (dAtG "TextReader" "begun" (dV 0))))
  (sSet 1 (dMethG "TextReader" "end_with" F_rd_end (dV 0) (dCons (dV 1) dNil))) 100000)
  (sRet (dV 1))))
noncomputable def F_rd_on : Fn := fnF 1 2 B_rd_on
noncomputable def B_saying_in : DS := (sSeq (sSet 1 (dMakeQ "TextReader" 1 F_rd_init (dCons (dV 0) dNil)))
  (sSeq (sSet 2 (dC .none))
  (sSeq (whl (dAnd (dTb (dP2 (opIs false) (dV 2) (dC .none))) (dNot (dTv (dAtG "TextReader" "failed" (dV 1)))))
  (sSet 2 (dMethG "TextReader" "read_on" F_rd_on (dV 1) dNil)) 100000)
  (sSeq (sIf (dOr (dTv (dAtG "TextReader" "failed" (dV 1))) (dTb (dP2 opLt (dAtG "TextReader" "at" (dV 1)) (dPn (orO opLen opLenD) (dCons (dV 0) dNil)))))
  (sRet (dC .none)) sNext)
  (sRet (dV 2))))))
noncomputable def F_saying_in : Fn := fnF 1 3 B_saying_in
noncomputable def B_saying_readX : DS := (sSeq (sSet 1 (dCall F_saying_in [] (dCons (dV 0) dNil)))
  (sSeq (sIf (dTb (dP2 (opIs false) (dV 1) (dC .none)))
  (sRaise "NoText" ["line", "word"] (dCons (dC (.int 0)) (dCons (dC (.int 0)) dNil))) sNext)
  (sRet (dV 1))))
noncomputable def F_saying_readX : Fn := fnF 1 2 B_saying_readX
noncomputable def B_joined_things : DS := (sSeq (sIf (dNot (dTv (dV 0)))
  (sRet (dPn (opLst false) (dCons (dV 1) dNil))) sNext)
  (sSeq (sIf (dTb (dP2 (opEq false) (dPn (orO opLen opLenD) (dCons (dV 0) dNil)) (dC (.int 1))))
  (sRet (dPn (opLst false) (dCons (dC (.str "(")) (dCons (dV 2) (dCons (dP2 opIxA (dV 0) (dC (.int 0))) (dCons (dC (.str ")")) dNil)))))) sNext)
  (sSeq (sSet 3 (dPn (opLst true) (dCons (dC (.str "(")) (dCons (dP2 opIxA (dV 0) (dC (.int 0))) dNil))))
  (sSeq (sFor (dI iV (dSl false (dV 0) (dPart (dC (.int 1))) dNo)) (gN 4)
  (sExpr (dMt "list" opExtend (dV 3) (dCons (dPn (opLst false) (dCons (dV 2) (dCons (dV 4) dNil))) dNil))))
  (sSeq (sExpr (dMt "list" opAppend (dV 3) (dCons (dC (.str ")")) dNil)))
  (sSeq (sLet 3) (sRet (dV 3))))))))
noncomputable def F_joined_things : Fn := fnF 3 5 B_joined_things
noncomputable def B_written_things : DS := (sSeq (sSet 1 (dP2 opIxA (dV 0) (dC (.int 0))))
  (sSeq (sIf (dTb (dP2 (opEq false) (dV 1) (dC (.str "letter"))))
  (sRet (dPn (opLst false) (dCons (dP2 opIxA (dV 0) (dC (.int 1))) dNil))) sNext)
  (sSeq (sIf (dTb (dP2 (opEq false) (dV 1) (dC (.str "not"))))
  (sRet (dPn (opLst false) (dCons (dC (.str "~")) (dCons (dP2 opIxA (dV 0) (dC (.int 1))) dNil)))) sNext)
  (sSeq (sIf (dTb (dP2 (opEq false) (dV 1) (dC (.str "and"))))
  (sRet (dCall F_joined_things [] (dCons (dP2 opIxA (dV 0) (dC (.int 1))) (dCons (dC (.str "T")) (dCons (dC (.str "&")) dNil))))) sNext)
  (sSeq (sIf (dTb (dP2 (opEq false) (dV 1) (dC (.str "or"))))
  (sRet (dCall F_joined_things [] (dCons (dP2 opIxA (dV 0) (dC (.int 1))) (dCons (dC (.str "F")) (dCons (dC (.str "|")) dNil))))) sNext)
  (sSeq (sIf (dTb (dP2 (opEq false) (dV 1) (dC (.str "so"))))
  (sRet (dPn (opLst false) (dCons (dC (.str "(")) (dCons (dP2 opIxA (dV 0) (dC (.int 1))) (dCons (dC (.str ">")) (dCons (dP2 opIxA (dV 0) (dC (.int 2))) (dCons (dC (.str ")")) dNil))))))) sNext)
  (sSeq (sIf (dTb (dP2 (opEq false) (dV 1) (dC (.str "must"))))
  (sRet (dPn (opLst false) (dCons (dC (.str "[")) (dCons (dP2 opIxA (dV 0) (dC (.int 1))) (dCons (dC (.str "]")) (dCons (dP2 opIxA (dV 0) (dC (.int 2))) dNil)))))) sNext)
  (sSeq (sIf (dTb (dP2 (opEq false) (dV 1) (dC (.str "may"))))
  (sRet (dPn (opLst false) (dCons (dC (.str "<")) (dCons (dP2 opIxA (dV 0) (dC (.int 1))) (dCons (dC (.str ">")) (dCons (dP2 opIxA (dV 0) (dC (.int 2))) dNil)))))) sNext)
  (sRet (dPn (opLst false) (dCons (dC (.str "{")) (dCons (dP2 opIxA (dV 0) (dC (.int 1))) (dCons (dC (.str "}")) (dCons (dP2 opIxA (dV 0) (dC (.int 2))) dNil))))))))))))))
noncomputable def F_written_things : Fn := fnF 1 2 B_written_things
noncomputable def B_saying_text : DS := (sSeq (sSet 1 (dPn (opLst true) dNil))
  (sSeq (sSet 2 (dPn (opLst true) (dCons (dV 0) dNil)))
  (sSeq (whl (dTv (dV 2))
  (sSeq (sSet 3 (dMt "list" opPop (dV 2) dNil))
  (sIf (dTv (dP1 (opIsi "str") (dV 3)))
  (sExpr (dMt "list" opAppend (dV 1) (dCons (dV 3) dNil))) (sExpr (dMt "list" opExtend (dV 2) (dCons (dP1 opRevL (dCall F_written_things [] (dCons (dV 3) dNil))) dNil))))) 100000)
  (sSeq (sLet 1) (sRet (dMt "str" opJoin (dC (.str "")) (dCons (dV 1) dNil)))))))
noncomputable def F_saying_text : Fn := fnF 1 4 B_saying_text
end Mok05
set_option autoImplicit false
set_option maxHeartbeats 1000000
namespace Mok05
open PySem PySem.Spec PyProof.Rows L2
variable [Wd]
def sgC (w : Bool) : Nat := if w = true then 124 else 38
def manyT (w : Bool) : List (List Nat) → List Nat
  | [] => [if w = true then 70 else 84]
  | [s] => 40 :: sgC w :: (s ++ [41])
  | s :: t :: r => 40 :: (s ++ ((t :: r).flatMap (fun u => sgC w :: u) ++ [41]))
mutual
def txt : Sg → List Nat
  | .lt x => cp x
  | .no s => 126 :: txt s
  | .many w l => manyT w (txtL l)
  | .so a b => 40 :: (txt a ++ 62 :: (txt b ++ [41]))
  | .tl a b => 123 :: (txt a ++ 125 :: txt b)
  | .mod w h s => (if w = true then 60 else 91) :: (cp h ++ (if w = true then 62 else 93) :: txt s)
def txtL : List Sg → List (List Nat)
  | [] => []
  | s :: r => txt s :: txtL r
end
theorem txtL_map : ∀ l : List Sg, txtL l = l.map txt
  | [] => rfl
  | s :: r => by rw [txtL, txtL_map r]; rfl
abbrev Wg := Str ⊕ Sg
def thD : Wg → PyData
  | .inl x => .str x
  | .inr s => s.d
def thT : Wg → List Nat
  | .inl x => cp x
  | .inr s => txt s
def thC : Wg → Nat
  | .inl _ => 1
  | .inr s => 4 * s.sz - 1
def sgS (w : Bool) : Str := if w = true then "|" else "&"
def joinW (n y : Str) : List Sg → List Wg
  | [] => [.inl n]
  | [s] => [.inl "(", .inl y, .inr s, .inl ")"]
  | s :: t :: r => .inl "(" :: .inr s :: ((t :: r).flatMap (fun u => [.inl y, .inr u]) ++ [.inl ")"])
def wrt : Sg → List Wg
  | .lt x => [.inl x]
  | .no s => [.inl "~", .inr s]
  | .many w l => joinW (if w = true then "F" else "T") (sgS w) l
  | .so a b => [.inl "(", .inr a, .inl ">", .inr b, .inl ")"]
  | .tl a b => [.inl "{", .inr a, .inl "}", .inr b]
  | .mod w h s => [.inl (if w = true then "<" else "["), .inl h, .inl (if w = true then ">" else "]"), .inr s]
theorem cpF (w : Bool) : cp (if w = true then ("F" : Str) else "T") = [if w = true then 70 else 84] := by cases w <;> rfl
theorem cpS (w : Bool) : cp (sgS w) = [sgC w] := by cases w <;> rfl
theorem joinW_txt (w : Bool) (l : List Sg) : (joinW (if w = true then "F" else "T") (sgS w) l).flatMap thT = manyT w (l.map txt) := by
  have o : cp ("(" : Str) = [40] := rfl
  have c : cp (")" : Str) = [41] := rfl
  match l with
  | [] => simp [joinW, manyT, thT, cpF]
  | [s] => simp [joinW, manyT, thT, cpS, o, c]
  | s :: t :: r =>
    have e : ∀ l : List Sg, (l.flatMap fun u => [Sum.inl (sgS w), Sum.inr u]).flatMap thT = (l.map txt).flatMap fun u => sgC w :: u := fun l => by
      induction l with
      | nil => rfl
      | cons a l ih => simp [thT, cpS, List.flatMap_append, ih]
    have j : joinW (if w = true then "F" else "T") (sgS w) (s :: t :: r) = .inl "(" :: .inr s :: ((t :: r).flatMap (fun u => [Sum.inl (sgS w), Sum.inr u]) ++ [.inl ")"]) := rfl
    have m : manyT w ((s :: t :: r).map txt) = 40 :: (txt s ++ (((t :: r).map txt).flatMap (fun u => sgC w :: u) ++ [41])) := rfl
    rw [j, m, ← e (t :: r)]
    generalize t :: r = l
    simp [thT, o, c, List.flatMap_append]
theorem wrt_txt : ∀ s : Sg, (wrt s).flatMap thT = txt s
  | .lt x => by simp [wrt, thT, txt]
  | .no s => by simp [wrt, thT, txt, show cp ("~" : Str) = [126] from rfl]
  | .many w l => by rw [wrt, joinW_txt, txt, txtL_map]
  | .so a b => by simp [wrt, thT, txt, show cp ("(" : Str) = [40] from rfl, show cp (">" : Str) = [62] from rfl, show cp (")" : Str) = [41] from rfl]
  | .tl a b => by simp [wrt, thT, txt, show cp ("{" : Str) = [123] from rfl, show cp ("}" : Str) = [125] from rfl]
  | .mod w h s => by cases w <;> simp [wrt, thT, txt, show cp ("[" : Str) = [91] from rfl, show cp ("]" : Str) = [93] from rfl, show cp ("<" : Str) = [60] from rfl, show cp (">" : Str) = [62] from rfl]
theorem sz_pos (s : Sg) : 1 ≤ s.sz := by cases s <;> simp [Sg.sz]
def sumC (l : List Wg) : Nat := (l.map thC).sum
theorem joinW_cost (n y : Str) (l : List Sg) : sumC (joinW n y l) ≤ 4 * Sg.szs l + 2 := by
  unfold sumC
  match l with
  | [] => simp [joinW, thC]
  | [s] =>
    have := sz_pos s
    simp [joinW, thC, Sg.szs]
    omega
  | s :: t :: r =>
    have e : ∀ l : List Sg, ((l.flatMap fun u => [Sum.inl y, Sum.inr u]).map thC).sum = 4 * Sg.szs l := fun l => by
      induction l with
      | nil => rfl
      | cons a l ih =>
        have := sz_pos a
        simp only [List.flatMap_cons, List.map_append, List.sum_append, ih, List.map_cons, List.map_nil, List.sum_cons, List.sum_nil, thC, Sg.szs]
        omega
    have h1 := e (t :: r)
    have h2 := sz_pos s
    simp only [joinW, List.map_cons, List.sum_cons, List.map_append, List.sum_append, h1, thC, List.map_nil, List.sum_nil, Sg.szs]
    simp only [Sg.szs] at h1 ⊢
    omega
theorem wrt_cost (s : Sg) : sumC (wrt s) < thC (.inr s) := by
  have h := sz_pos s
  cases s with
  | many w l =>
    have := joinW_cost (if w = true then "F" else "T") (sgS w) l
    simp only [wrt, thC, Sg.sz]
    omega
  | lt x => simp [wrt, thC, Sg.sz, sumC]
  | no s => have := sz_pos s; simp [wrt, thC, Sg.sz, sumC]; omega
  | so a b => have := sz_pos a; have := sz_pos b; simp [wrt, thC, Sg.sz, sumC]; omega
  | tl a b => have := sz_pos a; have := sz_pos b; simp [wrt, thC, Sg.sz, sumC]; omega
  | mod w h s => have := sz_pos s; simp [wrt, thC, Sg.sz, sumC]; omega
theorem wrt_len {s : Sg} : (wrt s).length ≤ sumC (wrt s) := by
  unfold sumC
  generalize wrt s = l
  induction l with
  | nil => exact Nat.le_refl _
  | cons a l ih =>
    have : 1 ≤ thC a := by
      cases a with
      | inl _ => exact Nat.le_refl _
      | inr s => have := sz_pos s; simp [thC]; omega
    simp only [List.length_cons, List.map_cons, List.sum_cons]
    omega
theorem joined_eq {l : List Sg} {n y : Str} (hl : l.length ≤ 1000) (μ : Mem) : callF F_joined_things [.d (.tuple (Sg.ds l)), .d (.str n), .d (.str y)] μ = .ok (.d (.list ((joinW n y l).map thD))) μ := by
  refine call_pure rfl ?_
  have z1 : (1 : Nat) ≤ sizeLine := by decide
  have z2 : (2 : Nat) ≤ sizeLine := by decide
  have z4 : (4 : Nat) ≤ sizeLine := by decide
  match l with
  | [] =>
    simp [F_joined_things, B_joined_things, Sg.ds, joinW, thD, asB, truth, truthD, z1]
  | [s] =>
    simp [F_joined_things, B_joined_things, Sg.ds, joinW, thD, asB, truth, truthD, z4, PyData.eqv]
  | s :: t :: r =>
    have hl : r.length + 2 ≤ 1000 := hl
    have cz : (cutD (Sg.ds (s :: t :: r)) (some 1) none).length ≤ sizeLine := le_million (Nat.le_trans (cut_len _ _ _) (by rw [ds_len]; simp only [List.length_cons]; omega))
    have i0 : atI (Sg.ds (s :: t :: r)) 0 = some s.d := atI_nat (i := 0) rfl
    have l2 : ∀ (μ : Mem) (P : W → Mem → Prop), OkO ((orO opLen opLenD) [.d (.tuple (Sg.ds (s :: t :: r)))] μ) P = P (.d (.int ((r.length + 2 : Nat) : Int))) μ := fun μ P => by
      rw [okO_lent, ds_len]
      rfl
    have n1 : ∀ (μ : Mem) (P : W → Mem → Prop), OkO (opEq false [.d (.int ((r.length + 2 : Nat) : Int)), .d (.int 1)] μ) P = P (.d (.bool false)) μ := fun μ P => by
      rw [okO_eq]
      have : PyData.eqv (.int ((r.length + 2 : Nat) : Int)) (.int 1) = false := by
        rw [PyData.eqv]
        exact decide_eq_false (by omega)
      rw [this]
      exact propext ⟨fun h => h.2, fun h => ⟨.inr ⟨rfl, rfl⟩, h⟩⟩
    have ne : asB (.d (.tuple (Sg.ds (s :: t :: r)))) [] = .ok true [] := rfl
    have nl : ∀ (μ : Mem) (P : W → Mem → Prop), OkO (opLst true [.d (.str "("), .d s.d] μ) P = P (.r μ.length) (μ ++ [.l [.str "(", s.d]]) := fun μ P => by simp [opLst, datas, mkL, sz, z2]
    simp only [F_joined_things, B_joined_things, ok_fnF3, List.replicate, Nat.reduceSub, oks_seq, oks_if, ok_dNot, ok_dTv, ok_dV0, ne, ok_ok, Bool.not_true, Bool.false_eq_true, if_false, oks_next, ok_dTb, ok_dP2, ok_dPn, ok_dCons, ok_dNil, ok_dVs, l2, ok_dC, n1, ok_asBl, oks_set, okO_ixt, i0, nl, List.length_nil, List.nil_append, List.set, oks_for, ok_dI, ok_dSl, ok_dPart, ok_asI, ok_dNo, okO_slt, cz, true_and, iV_t]
    rw [cut_tail]
    show Oks (forL ((Sg.ds (t :: r)), none) (gN 4) _ (Sg.ds (t :: r)) _ _) _ _ _ _
    refine for_inv (s := (Sg.ds (t :: r), none)) (xs := Sg.ds (t :: r)) (fun done ρ μ => ∃ e4, ρ = [some (.d (.tuple (Sg.ds (s :: t :: r)))), some (.d (.str n)), some (.d (.str y)), some (.r 0), e4] ∧ μ = [.l (([.str "(", s.d] : List PyData) ++ done.flatMap fun d => [.str y, d])]) rfl (fun _ _ _ _ _ => trivial) ⟨none, rfl, rfl⟩ ?_ ?_
    · rintro done z rest ρ ν e ⟨e4, rfl, rfl⟩
      have dl : done.length ≤ 1000 := by
        have := congrArg List.length e
        rw [List.length_append, ds_len] at this
        simp only [List.length_cons] at this
        omega
      have fl : (done.flatMap fun d => ([.str y, d] : List PyData)).length = 2 * done.length := by
        clear e dl
        induction done with
        | nil => rfl
        | cons a l ih => simp only [List.flatMap_cons, List.length_append, ih, List.length_cons, List.length_nil]; omega
      simp only [List.set, oks_expr, ok_dMt, ok_dVs, ok_dV0, ok_dPn, ok_dCons, ok_dNil, okO_lst0, datas, Option.map, List.length_cons, List.length_nil, Nat.reduceAdd, z2, true_and]
      refine ⟨rfl, ?_⟩
      rw [okO_extl (n := 0) rfl (le_million (by simp only [List.length_append, List.length_cons, List.length_nil, fl]; omega))]
      exact ⟨_, rfl, by simp [List.flatMap_append]⟩
    · rintro ρ ν ⟨e4, rfl, rfl⟩
      have e : ∀ l : List Sg, ((Sg.ds l).flatMap fun d => ([.str y, d] : List PyData)) = (l.flatMap fun u => [Sum.inl y, Sum.inr u]).map thD := fun l => by
        induction l with
        | nil => rfl
        | cons a l ih => simp [Sg.ds, thD, ih]
      have fl : ∀ l : List Sg, ((Sg.ds l).flatMap fun d => ([.str y, d] : List PyData)).length = 2 * l.length := fun l => by
        induction l with
        | nil => rfl
        | cons a l ih => simp only [Sg.ds, List.flatMap_cons, List.length_append, ih, List.length_cons, List.length_nil]; omega
      simp only [oks_seq, oks_expr, ok_dMt, ok_dVs, ok_dV0, ok_dPn, ok_dCons, ok_dNil, ok_dC]
      refine ⟨rfl, ?_⟩
      rw [okO_app (n := 0) rfl (le_million (by simp only [List.length_append, List.length_cons, List.length_nil, fl]; omega))]
      simp [joinW, thD, e, frzW]
theorem written_eq {s : Sg} (h : s.sok) (μ : Mem) : callF F_written_things [.d s.d] μ = .ok (.d (.list ((wrt s).map thD))) μ := by
  have z : ∀ k : Nat, k ≤ 8 → k ≤ sizeLine := fun k hk => le_million (by omega)
  refine call_pure rfl ?_
  cases s with
  | lt x => simp [F_written_things, B_written_things, Sg.d, wrt, thD, PyData.eqv, z]
  | no s => simp (config := { decide := true }) [F_written_things, B_written_things, Sg.d, wrt, thD, PyData.eqv, z]
  | so a b => simp (config := { decide := true }) [F_written_things, B_written_things, Sg.d, wrt, thD, PyData.eqv, z]
  | tl a b => simp (config := { decide := true }) [F_written_things, B_written_things, Sg.d, wrt, thD, PyData.eqv, z]
  | mod w h s => cases w <;> simp (config := { decide := true }) [F_written_things, B_written_things, Sg.d, wrt, thD, PyData.eqv, z, wMod]
  | many w l =>
    have j := fun n y μ => joined_eq (l := l) (n := n) (y := y) h.2 μ
    cases w <;> simp (config := { decide := true }) [F_written_things, B_written_things, Sg.d, wrt, PyData.eqv, wMany, j, sgS]
def SwT : Wg → Prop
  | .inl x => PyData.strOk x = true
  | .inr s => s.sok
theorem joinW_ok {n y : Str} (hn : PyData.strOk n = true) (hy : PyData.strOk y = true) : ∀ {l : List Sg}, Sg.soks l → ∀ t ∈ joinW n y l, SwT t
  | [], _, t, ht => by
    simp only [joinW, List.mem_singleton] at ht
    subst ht
    exact hn
  | [s], h, t, ht => by
    simp only [joinW, List.mem_cons, List.not_mem_nil, or_false] at ht
    rcases ht with rfl | rfl | rfl | rfl
    · show PyData.strOk "(" = true; decide +kernel
    · exact hy
    · exact h.1
    · show PyData.strOk ")" = true; decide +kernel
  | s :: u :: r, h, t, ht => by
    simp only [joinW, List.mem_cons, List.mem_append, List.mem_flatMap, List.not_mem_nil, or_false] at ht
    rcases ht with rfl | rfl | ⟨v, hv, rfl | rfl⟩ | rfl
    · show PyData.strOk "(" = true; decide +kernel
    · exact h.1
    · exact hy
    · exact soks_all.mp h.2 v (by simpa using hv)
    · show PyData.strOk ")" = true; decide +kernel
theorem wrt_ok {s : Sg} (h : s.sok) : ∀ t ∈ wrt s, SwT t := by
  have lit : ∀ x ∈ (["~", "(", ">", ")", "{", "}", "<", "[", "]"] : List Str), PyData.strOk x = true := by decide +kernel
  intro t ht
  cases s with
  | lt x =>
    simp only [wrt, List.mem_singleton] at ht
    subst ht
    exact Sw.ok h
  | no s =>
    simp only [wrt, List.mem_cons, List.not_mem_nil, or_false] at ht
    rcases ht with rfl | rfl
    · exact lit _ (by simp)
    · exact h
  | many w l =>
    refine joinW_ok ?_ ?_ h.1 t ht
    · cases w <;> decide +kernel
    · cases w <;> decide +kernel
  | so a b =>
    simp only [wrt, List.mem_cons, List.not_mem_nil, or_false] at ht
    rcases ht with rfl | rfl | rfl | rfl | rfl
    · exact lit _ (by simp)
    · exact h.1
    · exact lit _ (by simp)
    · exact h.2
    · exact lit _ (by simp)
  | tl a b =>
    simp only [wrt, List.mem_cons, List.not_mem_nil, or_false] at ht
    rcases ht with rfl | rfl | rfl | rfl
    · exact lit _ (by simp)
    · exact h.1
    · exact lit _ (by simp)
    · exact h.2
  | mod w x s =>
    simp only [wrt, List.mem_cons, List.not_mem_nil, or_false] at ht
    rcases ht with rfl | rfl | rfl | rfl
    · cases w <;> exact lit _ (by simp)
    · exact Sw.ok h.1
    · cases w <;> exact lit _ (by simp)
    · exact h.2
theorem thD_isS {t : Wg} (h : SwT t) : ∀ (μ : Mem) (P : W → Mem → Prop), OkO (opIsi "str" [.d (thD t)] μ) P = P (.d (.bool (isS (thD t)))) μ := fun μ P => isi_str (by
  cases t with
  | inl x => exact h
  | inr s => exact (sg_rp h).1)
theorem str_cp {x : Str} {l : List Nat} (h : cp x = l) : x = ⟨l.toArray⟩ := by
  subst h
  cases x with
  | mk a => simp [cp]
theorem join_nil : ∀ ys : List Str, cp (Str.join "" ys) = ys.flatMap cp
  | [] => rfl
  | [x] => by simp [Str.join]
  | x :: y :: r => by
    have e : Str.join "" (x :: y :: r) = x ++ "" ++ Str.join "" (y :: r) := rfl
    rw [e, cp_app, cp_app, join_nil (y :: r)]
    simp [show cp ("" : Str) = [] from rfl]
theorem join_cp (ys : List Str) : cp (Txt.join "" ys) = ys.flatMap cp := by
  rw [← join_nil]
  show cp (Builtin.Str.glued "" ys) = _
  rw [PySem.StrLaws.glued_eq_join]
def TxI (s : Sg) (k : Nat) (ρ : Env) (μ : Mem) : Prop := ∃ (ps : List Str) (ws : List Wg) (e3 : Option W), ρ = [some (.d s.d), some (.r 0), some (.r 1), e3] ∧ μ = [.l (ps.map .str), .l (ws.map thD)] ∧ (∀ t ∈ ws, SwT t) ∧ ps.flatMap cp ++ ws.reverse.flatMap thT = txt s ∧ k = sumC ws ∧ ps.length + k ≤ 4 * s.sz
theorem sumC_app (a b : List Wg) : sumC (a ++ b) = sumC a + sumC b := by simp [sumC]
theorem sumC_rev (a : List Wg) : sumC a.reverse = sumC a := by simp [sumC, List.map_reverse, List.sum_reverse]
theorem strs_map : ∀ ps : List Str, strsD (ps.map PyData.str) = some ps
  | [] => rfl
  | p :: ps => by rw [List.map_cons, strsD, strs_map ps]; rfl
theorem text_eq {s : Sg} (h : s.sok) (hz : s.sz ≤ 2000) (hl : (txt s).length ≤ 1000000) (μ : Mem) : callF F_saying_text [.d s.d] μ = .ok (.d (.str ⟨(txt s).toArray⟩)) μ := by
  refine call_pure rfl ?_
  have z0 : (0 : Nat) ≤ sizeLine := Nat.zero_le _
  have z1 : (1 : Nat) ≤ sizeLine := by decide
  have o1 : ∀ (P : W → Mem → Prop), OkO (opLst true [] []) P = P (.r 0) [.l []] := fun P => by simp [opLst, datas, mkL, sz, z0]
  have o2 : ∀ (P : W → Mem → Prop), OkO (opLst true [.d s.d] [.l []]) P = P (.r 1) [.l [], .l [s.d]] := fun P => by simp [opLst, datas, mkL, sz, z1]
  have hp := sz_pos s
  simp only [F_saying_text, B_saying_text, ok_fnF1, List.replicate, Nat.reduceSub, oks_seq, oks_set, ok_dPn, ok_dCons, ok_dNil, ok_dV0, ok_dVs, List.set, o1, o2]
  refine whl_inv (TxI s) ?_ 100000 (thC (.inr s)) _ _ (by simp only [thC]; omega) ⟨[], [.inr s], none, rfl, rfl, fun t ht => by rw [List.mem_singleton.mp ht]; exact h, by simp [thT], by simp [sumC], by simp only [thC, List.length_nil]; omega⟩
  rintro k ρ μ ⟨ps, ws, e3, rfl, rfl, hw, ht, rfl, hk⟩
  rcases List.eq_nil_or_concat ws with rfl | ⟨r, t, rfl⟩
  · simp only [List.reverse_nil, List.flatMap_nil, List.append_nil] at ht
    have tr : ∀ (P : Bool → Mem → Prop), Ok (asB (.r 1) [.l (ps.map .str), .l (([] : List Wg).map thD)]) P = P false [.l (ps.map .str), .l []] := fun P => by simp [asB, truth]
    simp only [ok_dTv, ok_dVs, ok_dV0, tr, Bool.false_eq_true, if_false, oks_seq]
    have sm : ∀ ys : List Str, (ys.map (·.length)).sum = (ys.flatMap cp).length := fun ys => by
      induction ys with
      | nil => rfl
      | cons a l ih => simp only [List.map_cons, List.sum_cons, ih, List.flatMap_cons, List.length_append]; rfl
    have jk : joinOk "" ps = true := by
      unfold joinOk
      rw [sm, ht]
      exact decide_eq_true (by show (txt s).length + ps.length * 0 ≤ 16777216; omega)
    simp [frzW]
    refine ⟨rfl, ?_⟩
    rw [okO_join (xs := ps.map .str) (ys := ps) rfl (strs_map ps) jk]
    rw [str_cp ((join_cp ps).trans ht)]
  · rw [List.concat_eq_append] at hw ht hk ⊢
    have ht2 := hw t (by simp)
    have hr : ∀ u ∈ r, SwT u := fun u hu => hw u (by simp [hu])
    have hS := sumC_app r [t]
    have hlen : r.length ≤ sumC r := by
      have : ∀ l : List Wg, l.length ≤ sumC l := fun l => by
        induction l with
        | nil => exact Nat.le_refl _
        | cons a l ih =>
          have : 1 ≤ thC a := by
            cases a with
            | inl _ => exact Nat.le_refl _
            | inr s => have := sz_pos s; simp [thC]; omega
          simp only [sumC, List.length_cons, List.map_cons, List.sum_cons] at ih ⊢
          omega
      exact this r
    have tr : ∀ (P : Bool → Mem → Prop), Ok (asB (.r 1) [.l (ps.map .str), .l ((r ++ [t]).map thD)]) P = P true [.l (ps.map .str), .l ((r ++ [t]).map thD)] := fun P => by
      have e : (!(List.map thD r ++ [thD t]).isEmpty) = true := by cases r <;> rfl
      simp [asB, truth, e]
    simp only [ok_dTv, ok_dVs, ok_dV0, tr, if_true, oks_seq, oks_set, ok_dMt, ok_dNil]
    refine ⟨?_, rfl, ?_⟩
    · have : 1 ≤ sumC [t] := by
        cases t with
        | inl _ => exact Nat.le_refl _
        | inr u => have := sz_pos u; simp [sumC, thC]; omega
      omega
    rw [List.map_append, List.map_singleton, okO_pop (n := 1) rfl]
    have is := thD_isS ht2
    cases t with
    | inl x =>
      have is : ∀ (μ : Mem) (P : W → Mem → Prop), OkO (opIsi "str" [.d (.str x)] μ) P = P (.d (.bool true)) μ := is
      have s1 : sumC [Sum.inl x] = 1 := rfl
      simp only [thD, List.set, oks_if, ok_dTv, ok_dP1, ok_dVs, ok_dV0, is, ok_asB, if_true, oks_expr, ok_dMt, ok_dCons, ok_dNil]
      refine ⟨rfl, ?_⟩
      rw [okO_app (n := 0) rfl (le_million (by rw [List.length_map]; omega))]
      refine ⟨sumC r, by omega, ps ++ [x], r, _, rfl, by simp, hr, ?_, rfl, by rw [List.length_append, List.length_singleton]; omega⟩
      rw [← ht]
      simp [List.reverse_append, thT]
    | inr u =>
      have is : ∀ (μ : Mem) (P : W → Mem → Prop), OkO (opIsi "str" [.d u.d] μ) P = P (.d (.bool false)) μ := fun μ P => by
        refine (is μ P).trans ?_
        show P (.d (.bool (isS u.d))) μ = _
        obtain ⟨v, e⟩ := d_tup u
        rw [e]
        rfl
      have we := fun μ => written_eq (s := u) ht2 μ
      have wc := wrt_cost u
      have wl := wrt_len (s := u)
      have s1 : sumC [Sum.inr u] = thC (.inr u) := by simp [sumC]
      have l1 : ((wrt u).map thD).length ≤ sizeLine := le_million (by rw [List.length_map]; omega)
      simp only [thD, List.set, oks_if, ok_dTv, ok_dP1, ok_dVs, ok_dV0, is, ok_asB, Bool.false_eq_true, if_false, oks_expr, ok_dMt, ok_dCons, ok_dNil, ok_dCall, List.map_nil, List.append_nil, we, ok_ok, okO_revl, l1, true_and]
      refine ⟨rfl, ?_⟩
      rw [okO_extl (n := 1) rfl (le_million (by rw [List.length_map, List.length_reverse, List.length_map]; omega))]
      refine ⟨sumC (r ++ (wrt u).reverse), by rw [sumC_app, sumC_rev]; omega, ps, r ++ (wrt u).reverse, _, rfl, by simp [List.map_reverse], fun v hv => ?_, ?_, rfl, by rw [sumC_app, sumC_rev]; omega⟩
      · rcases List.mem_append.mp hv with hv | hv
        · exact hr v hv
        · exact wrt_ok ht2 v (List.mem_reverse.mp hv)
      · rw [← ht]
        simp only [List.reverse_append, List.reverse_reverse, List.flatMap_append, wrt_txt, List.reverse_cons, List.reverse_nil, List.nil_append, List.flatMap_cons, List.flatMap_nil, List.append_nil, thT]
end Mok05
set_option autoImplicit false
set_option maxHeartbeats 1000000
namespace Mok05
open PySem PySem.Spec PyProof.Rows L2
variable [Wd]
def rdM (T : Str) (a : Nat) (b : List PyData) (f : Bool) : Mem := [.l b, .q "TextReader" [("text", .d (.str T)), ("at", .d (.int (a : Nat))), ("begun", .r 0), ("failed", .d (.bool f))]]
section
variable {T : Str} {a : Nat} {b : List PyData} {f : Bool} {P : W → Mem → Prop} {Pu : Unit → Mem → Prop}
theorem rd_text : Ok (atG "TextReader" "text" (.r 1) (rdM T a b f)) P = P (.d (.str T)) (rdM T a b f) := ok_atGd (by rfl) rfl
theorem rd_at : Ok (atG "TextReader" "at" (.r 1) (rdM T a b f)) P = P (.d (.int (a : Nat))) (rdM T a b f) := ok_atGd (by rfl) rfl
theorem rd_begun : Ok (atG "TextReader" "begun" (.r 1) (rdM T a b f)) P = P (.r 0) (rdM T a b f) := ok_atGr (by rfl) rfl
theorem rd_failed : Ok (atG "TextReader" "failed" (.r 1) (rdM T a b f)) P = P (.d (.bool f)) (rdM T a b f) := ok_atGd (by rfl) rfl
theorem rd_st {j k : Nat} : Ok (stG "TextReader" "at" j (.d (.int (k : Nat))) (.r 1) (rdM T a b f)) Pu = Pu () (rdM T k b f) := by
  rw [ok_stGd (by rfl) (by show 4 < 900; decide)]
  rfl
theorem rd_app {x : PyData} (h : b.length + 1 ≤ 1000000) : OkO (opAppend [.r 0, .d x] (rdM T a b f)) P = P (.d .none) (rdM T a (b ++ [x]) f) := by
  rw [okO_app (n := 0) (xs := b) (by rfl) (le_million h)]
  rfl
theorem rd_pop {x : PyData} : OkO (opPop [.r 0] (rdM T a (b ++ [x]) f)) P = P (.d x) (rdM T a b f) := by
  rw [okO_pop (n := 0) (r := b) (x := x) (by rfl)]
  rfl
theorem rd_mt {m : Str} (h : ([("text", FV.d (.str T)), ("at", .d (.int (a : Nat))), ("begun", .r 0), ("failed", .d (.bool f))] : List (Str × FV)).lookup m = none) : mthG "TextReader" m (.r 1) (rdM T a b f) = true := by
  show (decide (("TextReader" : Str) = "TextReader") && _) = true
  rw [h]
  simp
theorem rd_ty : tyW "list" (.r 0) (rdM T a b f) = true := rfl
theorem callR_eq {F : Fn} {ws : List W} {μ μ1 : Mem} {v : PyData} (h : datas ws = none) (e : Ok (F ws μ) fun w m => w = .d v ∧ m = μ1) (hl : μ1.length = μ.length) : callF F ws μ = .ok (.d v) μ1 := by
  have : Ok (callF F ws μ) fun w m => w = .d v ∧ m = μ1 := by
    rw [ok_callR h]
    refine e.mono ?_
    rintro _ _ ⟨rfl, rfl⟩
    rw [bkR_d, take_len hl]
    exact ⟨rfl, rfl⟩
  obtain ⟨w, m, e2, rfl, rfl⟩ := this.ex
  exact e2
def nxS (T : Str) (a : Nat) : Str := cutS T (some (a : Nat)) (some ((a : Nat) + 1))
theorem cp_cut {T : Str} {i j : Nat} : cp (cutS T (some (i : Nat)) (some (j : Nat))) = ((cp T).drop i).take (j - i) := by
  have n : (cp T).length = T.length := rfl
  show ((cp T).drop (HT.sIx T.length 0 (some (i : Nat)))).take (HT.sIx T.length T.length (some (j : Nat)) - HT.sIx T.length 0 (some (i : Nat))) = _
  rw [HT.sIx_nat, HT.sIx_nat]
  by_cases h : i ≤ T.length
  · rw [Nat.min_eq_left h]
    by_cases k : j ≤ T.length
    · rw [Nat.min_eq_left k]
    · rw [Nat.min_eq_right (by omega), List.take_of_length_le (by rw [List.length_drop, n]; exact Nat.le_refl _), List.take_of_length_le (by rw [List.length_drop, n]; omega)]
  · rw [Nat.min_eq_right (show T.length ≤ i by omega), List.drop_of_length_le (by rw [n]; exact Nat.le_refl _), List.drop_of_length_le (by rw [n]; omega), List.take_nil, List.take_nil]
theorem nxS_cp : cp (nxS T a) = ((cp T).drop a).take 1 := by
  have := cp_cut (T := T) (i := a) (j := a + 1)
  rw [Nat.add_sub_cancel_left] at this
  exact this
theorem nxS_cons {c : Nat} {r : List Nat} (h : (cp T).drop a = c :: r) : nxS T a = ⟨#[c]⟩ := by
  have := str_cp (x := nxS T a) (l := [c]) (by rw [nxS_cp, h]; rfl)
  rw [this]
theorem nxS_nil (h : (cp T).drop a = []) : nxS T a = "" := by
  have := str_cp (x := nxS T a) (l := []) (by rw [nxS_cp, h]; rfl)
  rw [this]
  rfl
variable (hT : T.length ≤ 1000000)
include hT
theorem rd_next_eq : callF F_rd_next [.r 1] (rdM T a b f) = .ok (.d (.str (nxS T a))) (rdM T a b f) := by
  refine callR_eq rfl ?_ rfl
  have z : sz T.length = true := decide_eq_true (le_million hT)
  simp only [F_rd_next, B_rd_next, ok_fnF1, List.replicate, Nat.reduceSub, oks_ret, ok_dSl, ok_dAtG, ok_dV0, rd_text, ok_dPart, rd_at, ok_asI, ok_dP2, ok_dC, okO_add]
  simp only [slW, z, if_true]
  all_goals first | exact ⟨rfl, rfl⟩ | simp
theorem rd_take_eq : callF F_rd_take [.r 1] (rdM T a b f) = .ok (.d (.str (nxS T a))) (rdM T (a + 1) b f) := by
  refine callR_eq rfl ?_ rfl
  have e := rd_next_eq (a := a) (b := b) (f := f) hT
  have m : mthG "TextReader" "next_sign" (.r 1) (rdM T a b f) = true := rd_mt rfl
  have ad : ∀ (μ : Mem) (P : W → Mem → Prop), OkO (opIAdd [.d (.int (a : Nat)), .d (.int 1)] μ) P = P (.d (.int ((a + 1 : Nat) : Int))) μ := fun μ P => rfl
  simp only [F_rd_take, B_rd_take, ok_fnF1, List.replicate, Nat.reduceSub, oks_seq, oks_set, ok_dMethG, ok_dV0, ok_dVs, m, true_and, ok_dNil, e, ok_ok, List.set, oks_sAugG, rd_at, ok_dC, ad, rd_st, oks_ret]
  all_goals first | exact ⟨rfl, rfl⟩ | simp
theorem rd_pass_eq {w : Str} (h : nxS T a = w) : callF F_rd_pass [.r 1, .d (.str w)] (rdM T a b f) = .ok (.d .none) (rdM T (a + 1) b f) := by
  refine callR_eq rfl ?_ rfl
  subst h
  have e := rd_take_eq (a := a) (b := b) (f := f) hT
  have m : mthG "TextReader" "take_sign" (.r 1) (rdM T a b f) = true := rd_mt rfl
  have ne : ∀ (μ : Mem) (P : W → Mem → Prop), OkO (opEq true [.d (.str (nxS T a)), .d (.str (nxS T a))] μ) P = P (.d (.bool false)) μ := fun μ P => by
    rw [okO_ne, str_eqv, decide_eq_true rfl]
    exact propext ⟨fun h => h.2, fun h => ⟨.inl rfl, h⟩⟩
  simp only [F_rd_pass, B_rd_pass, ok_fnF2, List.replicate, Nat.reduceSub, oks_if, ok_dTb, ok_dP2, ok_dMethG, ok_dV0, ok_dVs, m, true_and, ok_dNil, e, ok_ok, ne, ok_asBl, Bool.false_eq_true, if_false, oks_next]
  all_goals first | exact ⟨rfl, rfl⟩ | simp
end
end Mok05
set_option autoImplicit false
set_option maxHeartbeats 1000000
namespace Mok05
open PySem PySem.Spec PyProof.Rows L2
variable [Wd]
def betS (z : Str) : Bool := (!decide (z.cps.toList < (Str.ofString "a").cps.toList)) && !decide ((Str.ofString "z").cps.toList < z.cps.toList)
theorem betS_one (c : Nat) : betS ⟨#[c]⟩ = bet c := rfl
theorem betS_nil : betS "" = false := by decide +kernel
theorem okO_eqS {x y : Str} {μ : Mem} {P : W → Mem → Prop} : OkO (opEq false [.d (.str x), .d (.str y)] μ) P = P (.d (.bool (decide (x = y)))) μ := by
  rw [okO_eq, str_eqv]
  exact propext ⟨fun h => h.2, fun h => ⟨.inl rfl, h⟩⟩
theorem okO_neS {x y : Str} {μ : Mem} {P : W → Mem → Prop} : OkO (opEq true [.d (.str x), .d (.str y)] μ) P = P (.d (.bool (!decide (x = y)))) μ := by
  rw [okO_ne, str_eqv]
  exact propext ⟨fun h => h.2, fun h => ⟨.inl rfl, h⟩⟩
theorem okO_inL {z : Str} {ys : List Str} {μ : Mem} {P : W → Mem → Prop} (h : PyData.strOk z = true) (hy : (ys.all PyData.strOk) = true) : OkO (opInA false [.d (.str z), .d (.tuple (ys.map .str))] μ) P = P (.d (.bool (ys.any fun y => decide (y = z)))) μ := by
  have k : PyData.canLayAll0 (ys.map .str) = true := by
    clear h
    induction ys with
    | nil => rfl
    | cons y r ih =>
      rw [List.all_cons, Bool.and_eq_true] at hy
      rw [List.map_cons, lay_cons, ih hy.2, Bool.and_true]
      exact hy.1
  rw [okO_in2 (by rw [sh_str]; exact h) k]
  simp only [Bool.false_eq_true, if_false, List.any_map]
  congr 4
  all_goals (funext y; exact str_eqv y z)
section
variable {T : Str} {a : Nat} {b : List PyData} {f : Bool}
variable (hT : T.length ≤ 1000000)
include hT
theorem chain_bet {ρ : Env} {P : Bool → Mem → Prop} (h0 : ρ[0]? = some (some (.r 1))) : Ok (dTb (dChain opLeT opLeT (dC (.str "a")) (dMethG "TextReader" "next_sign" F_rd_next (dV 0) dNil) (dC (.str "z"))) ρ (rdM T a b f)) P = P (betS (nxS T a)) (rdM T a b f) := by
  have e := rd_next_eq (a := a) (b := b) (f := f) hT
  have m : mthG "TextReader" "next_sign" (.r 1) (rdM T a b f) = true := rd_mt rfl
  have v : ∀ (μ : Mem) (P : W → Mem → Prop), Ok (dV 0 ρ μ) P = P (.r 1) μ := fun μ P => by simp [dV, h0]
  simp only [ok_dTb, ok_dChain, ok_dC, ok_dMethG, v, m, true_and, ok_dNil, e, ok_ok, okO_leTs, ok_asBl]
  unfold betS
  cases h : (!decide ((nxS T a).cps.toList < (Str.ofString "a").cps.toList)) <;> simp
theorem rd_letter_eq {s : Nat} {x : Str} {r : List Nat} (hx : (cp T).drop s = cp x ++ r) (sw : Sw x) (h1 : 1 ≤ x.length) (hb : ∀ c r', r = c :: r' → bet c = false) :
    callF F_rd_letter [.r 1, .d (.int (s : Nat))] (rdM T (s + 1) b f) = .ok (.d (.tuple [.str "letter", .str x])) (rdM T (s + x.length) b f) := by
  refine callR_eq rfl ?_ rfl
  have xl : (cp x).length = x.length := rfl
  have x8 : x.length ≤ 8 := sw.2
  have z : sz T.length = true := decide_eq_true (le_million hT)
  have z2 : (2 : Nat) ≤ sizeLine := by decide
  simp only [F_rd_letter, B_rd_letter, ok_fnF2, List.replicate, Nat.reduceSub, oks_seq]
  refine whl_inv (fun k ρ μ => ∃ j, 1 ≤ j ∧ j ≤ x.length ∧ k = x.length - j ∧ ρ = [some (.r 1), some (.d (.int (s : Nat))), none] ∧ μ = rdM T (s + j) b f) ?_ 100000 (x.length - 1) _ _ (by omega) ⟨1, Nat.le_refl _, h1, rfl, rfl, rfl⟩
  rintro k ρ μ ⟨j, j1, jx, rfl, rfl, rfl⟩
  rw [chain_bet hT (by rfl)]
  have dj : (cp T).drop (s + j) = (cp x).drop j ++ r := by
    rw [← List.drop_drop, hx, List.drop_append, show j - (cp x).length = 0 by omega, List.drop_zero]
  by_cases lt : j < x.length
  · have hj : (cp x).drop j = (cp x)[j] :: (cp x).drop (j + 1) := List.drop_eq_getElem_cons (by omega)
    have nx := nxS_cons (T := T) (a := s + j) (c := (cp x)[j]) (r := (cp x).drop (j + 1) ++ r) (by rw [dj, hj]; rfl)
    have bt : betS (nxS T (s + j)) = true := by
      rw [nx, betS_one]
      exact bet_low _ (low_all sw.1 _ (List.getElem_mem _))
    rw [bt, if_pos rfl]
    refine ⟨by omega, ?_⟩
    have ad : ∀ (μ : Mem) (P : W → Mem → Prop), OkO (opIAdd [.d (.int ((s + j : Nat) : Int)), .d (.int 1)] μ) P = P (.d (.int ((s + (j + 1) : Nat) : Int))) μ := fun μ P => rfl
    simp only [oks_sAugG, ok_dV0, rd_at, ok_dC, ad, rd_st]
    refine ⟨x.length - (j + 1), by omega, j + 1, by omega, by omega, ?_⟩
    simp
  · have ej : j = x.length := by omega
    subst ej
    have dj : (cp T).drop (s + x.length) = r := by rw [dj, List.drop_of_length_le (by omega), List.nil_append]
    have bt : betS (nxS T (s + x.length)) = false := by
      cases r with
      | nil => rw [nxS_nil dj]; exact betS_nil
      | cons c r' => rw [nxS_cons dj, betS_one]; exact hb c r' rfl
    rw [bt, if_neg Bool.false_ne_true]
    have cx : cutS T (some (s : Nat)) (some ((s + x.length : Nat) : Int)) = x := by
      refine cp_inj ?_
      rw [cp_cut, hx, Nat.add_sub_cancel_left, List.take_append_of_le_length (by omega), List.take_of_length_le (by omega)]
    have th : Th 64 1000000 (.str x) := ⟨Sw.ok sw, Nat.zero_le _, rfl, by have := sw.len; omega⟩
    have wd := fun μ => is_word_eq th μ
    have wt : word (.str x) = true := word_sw sw h1
    simp only [oks_set, ok_dSl, ok_dAtG, ok_dV0, rd_text, ok_dPart, ok_dVs, ok_asI, rd_at]
    have sl : ∀ (μ : Mem) (P : W → Mem → Prop), OkO (slW false (some (s : Nat)) (some ((s + x.length : Nat) : Int)) (.d (.str T)) μ) P = P (.d (.str x)) μ := fun μ P => by
      simp only [slW, z, if_true, cx]
      rfl
    rw [sl]
    simp only [List.set, oks_seq, oks_if, ok_dNot, ok_dTv, ok_dCall, ok_dCons, ok_dNil, ok_dVs, ok_dV0, List.map_nil, List.append_nil, wd, wt, ok_ok, ok_asB, Bool.not_true, Bool.false_eq_true, if_false, oks_next, oks_ret, ok_dPn, ok_dC, okO_tup2]
    all_goals first | exact ⟨rfl, rfl⟩ | simp
theorem rd_hand_eq {x w : Str} {c : Nat} {r : List Nat} (hx : (cp T).drop a = cp x ++ c :: r) (sw : Sw x) (h1 : 1 ≤ x.length) (hc : bet c = false) (hl : b.length + 1 ≤ 1000000) :
    callF F_rd_hand [.r 1, .d (.str w), .d (.str ⟨#[c]⟩)] (rdM T a b f) = .ok (.d .none) (rdM T (a + x.length + 1) (b ++ [.tuple [.str w, .str x]]) f) := by
  refine callR_eq rfl ?_ rfl
  have xl : (cp x).length = x.length := rfl
  have z : sz T.length = true := decide_eq_true (le_million hT)
  have z2 : (2 : Nat) ≤ sizeLine := by decide
  have al : a ≤ (cp T).length := Nat.le_of_not_lt fun h => by
    have := congrArg List.length hx
    simp only [List.length_drop, List.length_append, List.length_cons] at this
    omega
  have no : c ∉ cp x := fun hm => by
    have := bet_low c (low_all sw.1 c hm)
    rw [hc] at this
    cases this
  have fd : ∀ (μ : Mem) (P : W → Mem → Prop), OkO (opFind [.d (.str T), .d (.str ⟨#[c]⟩), .d (.int (a : Nat))] μ) P = P (.d (.int ((a + x.length : Nat) : Int))) μ := fun μ P => by
    have e := find_yes (x := T) (c := c) (p := (cp T).take a) (u := cp x) (v := r) (by rw [← hx]; exact (List.take_append_drop a (cp T)).symm) no
    rw [List.length_take, Nat.min_eq_left al] at e
    show OkO (pI (findAt T ⟨#[c]⟩ (a : Nat)) μ) P = _
    rw [e]
    rfl
  have mx : ∀ (μ : Mem) (P : W → Mem → Prop), OkO (opMax [.d (.int ((a + x.length : Nat) : Int)), .d (.int (a : Nat))] μ) P = P (.d (.int ((a + x.length : Nat) : Int))) μ := fun μ P => by
    show OkO (pI (if (a : Int) > ((a + x.length : Nat) : Int) then _ else _) μ) P = _
    rw [if_neg (by omega)]
    rfl
  have cx : cutS T (some (a : Nat)) (some ((a + x.length : Nat) : Int)) = x := by
    refine cp_inj ?_
    rw [cp_cut, hx, Nat.add_sub_cancel_left, List.take_append_of_le_length (by omega), List.take_of_length_le (by omega)]
  have sl : ∀ (μ : Mem) (P : W → Mem → Prop), OkO (slW false (some (a : Nat)) (some ((a + x.length : Nat) : Int)) (.d (.str T)) μ) P = P (.d (.str x)) μ := fun μ P => by
    simp only [slW, z, if_true, cx]
    rfl
  have th : Th 64 1000000 (.str x) := ⟨Sw.ok sw, Nat.zero_le _, rfl, by have := sw.len; omega⟩
  have wd := fun μ => is_word_eq th μ
  have wt : word (.str x) = true := word_sw sw h1
  have ty : tyW "str" (.d (.str T)) (rdM T a b f) = true := rfl
  have ad : ∀ (μ : Mem) (P : W → Mem → Prop), OkO (opAdd false [.d (.int ((a + x.length : Nat) : Int)), .d (.int 1)] μ) P = P (.d (.int ((a + x.length + 1 : Nat) : Int))) μ := fun μ P => rfl
  simp only [F_rd_hand, B_rd_hand, ok_fnF3, List.replicate, Nat.reduceSub, oks_seq, oks_set, ok_dMt, ok_dAtG, ok_dV0, rd_text, ty, true_and, ok_dCons, ok_dNil, ok_dVs, rd_at, fd, List.set, ok_dSl, ok_dPart, ok_asI, ok_dPn, mx, sl, oks_if, ok_dNot, ok_dTv, ok_dCall, List.map_nil, List.append_nil, wd, wt, ok_ok, ok_asB, Bool.not_true, Bool.false_eq_true, if_false, oks_next, oks_expr, rd_begun, rd_ty, okO_tup2, rd_app hl, oks_sAtG, ok_dP2, ok_dC, ad, rd_st]
  all_goals first | exact ⟨rfl, rfl⟩ | simp
end
end Mok05
set_option autoImplicit false
set_option maxHeartbeats 1000000
namespace Mok05
open PySem PySem.Spec PyProof.Rows L2
variable [Wd]
theorem lit_ok : ∀ x ∈ (["&", "|", ">", ")", "(", "", "}", "T", "F", "~", "{", "[", "<", "not", "must", "may", "told", "and", "or", "so"] : List Str), PyData.strOk x = true := by decide +kernel
theorem signs_w (w : Bool) : signsW (sgS w) = some (.str (wMany w)) := by cases w <;> rfl
section
variable {T : Str} {a : Nat} {b : List PyData} {f : Bool} {P : W → Mem → Prop} {μ : Mem}
theorem in_two {z : Str} (h : PyData.strOk z = true) : OkO (opInA false [.d (.str z), .d (.tuple [.str "&", .str "|"])] μ) P = P (.d (.bool (decide (("&" : Str) = z) || decide (("|" : Str) = z)))) μ := by
  have := okO_inL (ys := ["&", "|"]) (μ := μ) (P := P) h (by decide +kernel)
  simpa using this
theorem in_three {z : Str} (h : PyData.strOk z = true) : OkO (opInA false [.d (.str z), .d (.tuple [.str "&", .str "|", .str ">"])] μ) P = P (.d (.bool (decide (("&" : Str) = z) || (decide (("|" : Str) = z) || decide ((">" : Str) = z))))) μ := by
  have := okO_inL (ys := ["&", "|", ">"]) (μ := μ) (P := P) h (by decide +kernel)
  simpa using this
theorem in_mods {z : Str} (h : PyData.strOk z = true) : OkO (opInA false [.d (.str z), .d (.tuple [.str "not", .str "must", .str "may"])] μ) P = P (.d (.bool (decide (("not" : Str) = z) || (decide (("must" : Str) = z) || decide (("may" : Str) = z))))) μ := by
  have := okO_inL (ys := ["not", "must", "may"]) (μ := μ) (P := P) h (by decide +kernel)
  simpa using this
theorem tup1 {x : PyData} : OkO (opTup [.d x] μ) P = P (.d (.tuple [x])) μ := by
  have z : (1 : Nat) ≤ sizeLine := by decide
  simp [opTup, datas, mkT, sz, z]
theorem tup3 {x y z : PyData} : OkO (opTup [.d x, .d y, .d z] μ) P = P (.d (.tuple [x, y, z])) μ := by
  have z3 : (3 : Nat) ≤ sizeLine := by decide
  simp [opTup, datas, mkT, sz, z3]
theorem tup0 : OkO (opTup [] μ) P = P (.d (.tuple [])) μ := by
  simp [opTup, datas, mkT, sz]
variable (hT : T.length ≤ 1000000)
include hT
theorem rd_brackets_sign {w : Bool} (h : nxS T a = sgS w) (hl : b.length + 1 ≤ 1000000) : callF F_rd_brackets [.r 1] (rdM T a b f) = .ok (.d .none) (rdM T (a + 1) (b ++ [.tuple [.str (sgS w)]]) f) := by
  refine callR_eq rfl ?_ rfl
  have e := rd_next_eq (a := a) (b := b) (f := f) hT
  have m : mthG "TextReader" "next_sign" (.r 1) (rdM T a b f) = true := rd_mt rfl
  have i : ∀ (μ : Mem) (P : W → Mem → Prop), OkO (opInA false [.d (.str (sgS w)), .d (.tuple [.str "&", .str "|"])] μ) P = P (.d (.bool true)) μ := fun μ P => by
    rw [in_two (by cases w <;> decide +kernel)]
    cases w <;> simp (config := { decide := true }) [sgS]
  have z2 : (2 : Nat) ≤ sizeLine := by decide
  have ad : ∀ (μ : Mem) (P : W → Mem → Prop), OkO (opIAdd [.d (.int (a : Nat)), .d (.int 1)] μ) P = P (.d (.int ((a + 1 : Nat) : Int))) μ := fun μ P => rfl
  rw [h] at e
  simp only [F_rd_brackets, B_rd_brackets, ok_fnF1, List.replicate, Nat.reduceSub, oks_seq, oks_set, ok_dMethG, ok_dV0, m, true_and, ok_dNil, e, ok_ok, List.set, oks_if, ok_dTb, ok_dP2, ok_dVs, ok_dPn, ok_dCons, ok_dC, okO_tup2, i, ok_asBl, if_true, oks_sAugG, rd_at, ad, rd_st, oks_expr, ok_dMt, ok_dAtG, rd_begun, rd_ty, tup1, rd_app hl]
  all_goals first | exact ⟨rfl, rfl⟩ | simp
theorem rd_brackets_say (h : nxS T a ≠ "&" ∧ nxS T a ≠ "|") (hs : PyData.strOk (nxS T a) = true) (hl : b.length + 1 ≤ 1000000) : callF F_rd_brackets [.r 1] (rdM T a b f) = .ok (.d .none) (rdM T a (b ++ [.tuple [.str "(", .str ""]]) f) := by
  refine callR_eq rfl ?_ rfl
  have e := rd_next_eq (a := a) (b := b) (f := f) hT
  have m : mthG "TextReader" "next_sign" (.r 1) (rdM T a b f) = true := rd_mt rfl
  have i : ∀ (μ : Mem) (P : W → Mem → Prop), OkO (opInA false [.d (.str (nxS T a)), .d (.tuple [.str "&", .str "|"])] μ) P = P (.d (.bool false)) μ := fun μ P => by
    rw [in_two hs, decide_eq_false (Ne.symm h.1), decide_eq_false (Ne.symm h.2)]
    rfl
  simp only [F_rd_brackets, B_rd_brackets, ok_fnF1, List.replicate, Nat.reduceSub, oks_seq, oks_set, ok_dMethG, ok_dV0, m, true_and, ok_dNil, e, ok_ok, List.set, oks_if, ok_dTb, ok_dP2, ok_dVs, ok_dPn, ok_dCons, ok_dC, okO_tup2, i, ok_asBl, Bool.false_eq_true, if_false, oks_expr, ok_dMt, ok_dAtG, rd_begun, rd_ty, rd_app hl]
  all_goals first | exact ⟨rfl, rfl⟩ | simp
theorem rd_endb_many {w : Bool} {some_ : List PyData} (h : nxS T a = ")") : callF F_rd_endb [.r 1, .d (.str (sgS w)), .d (.tuple some_)] (rdM T a b f) = .ok (.d (.tuple [.str (wMany w), .tuple some_])) (rdM T (a + 1) b f) := by
  refine callR_eq rfl ?_ rfl
  have e := rd_take_eq (a := a) (b := b) (f := f) hT
  have m : mthG "TextReader" "take_sign" (.r 1) (rdM T a b f) = true := rd_mt rfl
  have i : ∀ (μ : Mem) (P : W → Mem → Prop), OkO (opInA false [.d (.str (sgS w)), .d (.tuple [.str "&", .str "|"])] μ) P = P (.d (.bool true)) μ := fun μ P => by
    rw [in_two (by cases w <;> decide +kernel)]
    cases w <;> simp (config := { decide := true }) [sgS]
  rw [h] at e
  simp only [F_rd_endb, B_rd_endb, ok_fnF3, List.replicate, Nat.reduceSub, oks_seq, oks_set, ok_dMethG, ok_dV0, m, true_and, ok_dNil, e, ok_ok, List.set, oks_if, ok_dAnd, ok_dTb, ok_dP2, ok_dVs, ok_dC, okO_eqS, decide_true, ok_asBl, if_true, ok_dPn, ok_dCons, okO_tup2, i, oks_ret, ok_dKD, signs_w]
  all_goals first | exact ⟨rfl, rfl⟩ | simp
theorem rd_endb_so {x y : PyData} (h : nxS T a = ")") : callF F_rd_endb [.r 1, .d (.str ">"), .d (.tuple [x, y])] (rdM T a b f) = .ok (.d (.tuple [.str "so", x, y])) (rdM T (a + 1) b f) := by
  refine callR_eq rfl ?_ rfl
  have e := rd_take_eq (a := a) (b := b) (f := f) hT
  have m : mthG "TextReader" "take_sign" (.r 1) (rdM T a b f) = true := rd_mt rfl
  have i : ∀ (μ : Mem) (P : W → Mem → Prop), OkO (opInA false [.d (.str ">"), .d (.tuple [.str "&", .str "|"])] μ) P = P (.d (.bool false)) μ := fun μ P => by
    rw [in_two (lit_ok _ (by simp))]
    simp (config := { decide := true })
  have z3 : (3 : Nat) ≤ sizeLine := by decide
  rw [h] at e
  simp only [F_rd_endb, B_rd_endb, ok_fnF3, List.replicate, Nat.reduceSub, oks_seq, oks_set, ok_dMethG, ok_dV0, m, true_and, ok_dNil, e, ok_ok, List.set, oks_if, ok_dAnd, ok_dTb, ok_dP2, ok_dVs, ok_dC, okO_eqS, decide_true, ok_asBl, if_true, ok_dPn, ok_dCons, okO_tup2, i, oks_ret, Bool.false_eq_true, if_false, oks_next, ok_dStar, viewL, List.map_cons, List.map_nil, List.append_nil, List.cons_append, List.nil_append, okO_tup, datas, Option.map, List.length_cons, List.length_nil, Nat.reduceAdd, z3, true_and]
  all_goals first | exact ⟨rfl, rfl⟩ | simp
theorem rd_endb_on {z bt : Str} {some_ : List PyData} (h : nxS T a = z) (hz : z = "&" ∨ z = "|" ∨ z = ">") (hb : bt = "" ∨ (bt = z ∧ z ≠ ">")) (hl : b.length + 1 ≤ 1000000) (hs : some_.length ≤ 2000) :
    callF F_rd_endb [.r 1, .d (.str bt), .d (.tuple some_)] (rdM T a b f) = .ok (.d .none) (rdM T (a + 1) (b ++ [.tuple (.str "(" :: .str z :: some_)]) f) := by
  refine callR_eq rfl ?_ rfl
  have e := rd_take_eq (a := a) (b := b) (f := f) hT
  have m : mthG "TextReader" "take_sign" (.r 1) (rdM T a b f) = true := rd_mt rfl
  have zok : PyData.strOk z = true := by rcases hz with rfl | rfl | rfl <;> exact lit_ok _ (by simp)
  have i : ∀ (μ : Mem) (P : W → Mem → Prop), OkO (opInA false [.d (.str z), .d (.tuple [.str "&", .str "|", .str ">"])] μ) P = P (.d (.bool true)) μ := fun μ P => by
    rw [in_three zok]
    rcases hz with rfl | rfl | rfl <;> simp (config := { decide := true })
  have nz : decide (z = (")" : Str)) = false := by rcases hz with rfl | rfl | rfl <;> decide +kernel
  have cz : (some_.length + 1 + 1) ≤ sizeLine := le_million (by omega)
  have nz0 : decide (z = ("" : Str)) = false := by rcases hz with rfl | rfl | rfl <;> decide +kernel
  have le : decide (z = (">" : Str)) = false ∨ bt = "" := by
    rcases hb with hb | ⟨_, hb⟩
    · exact .inr hb
    · exact .inl (decide_eq_false hb)
  have bz : decide (z = bt) = true ∨ bt = "" := by
    rcases hb with hb | ⟨hb, _⟩
    · exact .inr hb
    · exact .inl (decide_eq_true hb.symm)
  rw [h] at e
  have go : ∀ {A B C : Prop}, A → (if decide (bt = ("" : Str)) = true then A else if decide (z = bt) = true then (if (!decide (z = (">" : Str))) = true then A else B) else C) := fun {A B C} h => by
    by_cases q : bt = ""
    · rw [if_pos (decide_eq_true q)]; exact h
    · rw [if_neg (by simp [q]), if_pos (bz.resolve_right q), le.resolve_right q]; exact h
  simp only [F_rd_endb, B_rd_endb, ok_fnF3, List.replicate, Nat.reduceSub, oks_seq, oks_set, ok_dMethG, ok_dV0, m, true_and, ok_dNil, e, ok_ok, List.set, oks_if, ok_dAnd, ok_dOr, ok_dTb, ok_dP2, ok_dVs, ok_dC, okO_eqS, okO_neS, nz, ok_asBl, Bool.false_eq_true, if_false, oks_next, ok_dPn, ok_dCons, okO_tup2, tup3, i, if_true]
  refine go ?_
  simp only [if_true, oks_expr, ok_dMt, ok_dAtG, ok_dV0, ok_dVs, rd_begun, rd_ty, true_and, ok_dCons, ok_dPn, ok_dC, ok_dStar, viewL, ok_dNil, List.append_nil, okO_tup, datas_d, datas_map, Option.map, List.length_cons, cz, rd_app hl, oks_ret]
  all_goals first | exact ⟨rfl, rfl⟩ | simp
theorem rd_end_not {v : PyData} : callF F_rd_end [.r 1, .d v] (rdM T a (b ++ [.tuple [.str "not"]]) f) = .ok (.d (.tuple [.str "not", v])) (rdM T a b f) := by
  refine callR_eq rfl ?_ rfl
  have i := fun (μ : Mem) (P : W → Mem → Prop) => in_mods (μ := μ) (P := P) (z := "not") (lit_ok _ (by simp))
  have z2 : (2 : Nat) ≤ sizeLine := by decide
  have a0 : atI [PyData.str "not"] 0 = some (.str "not") := rfl
  have d0 : (decide (("not" : Str) = "not") || (decide (("must" : Str) = "not") || decide (("may" : Str) = "not"))) = true := by decide +kernel
  simp only [F_rd_end, B_rd_end, ok_fnF2, List.replicate, Nat.reduceSub, oks_seq, oks_set, ok_dMt, ok_dAtG, ok_dV0, rd_begun, rd_ty, true_and, ok_dNil, rd_pop, List.set, ok_dP2, ok_dVs, ok_dC, okO_ixt, a0, oks_if, ok_dOr, ok_dTb, ok_dPn, ok_dCons, tup3, i, d0, ok_asBl, if_true, oks_ret, ok_dStar, viewL, List.map_cons, List.map_nil, List.cons_append, List.nil_append, okO_tup2]
  all_goals first | exact ⟨rfl, rfl⟩ | simp
theorem rd_end_mod {w : Bool} {h : Str} {v : PyData} : callF F_rd_end [.r 1, .d v] (rdM T a (b ++ [.tuple [.str (wMod w), .str h]]) f) = .ok (.d (.tuple [.str (wMod w), .str h, v])) (rdM T a b f) := by
  refine callR_eq rfl ?_ rfl
  have i := fun (μ : Mem) (P : W → Mem → Prop) => in_mods (μ := μ) (P := P) (z := wMod w) (by cases w <;> exact lit_ok _ (by simp [wMod]))
  have a0 : atI [PyData.str (wMod w), .str h] 0 = some (.str (wMod w)) := rfl
  have d0 : (decide (("not" : Str) = wMod w) || (decide (("must" : Str) = wMod w) || decide (("may" : Str) = wMod w))) = true := by cases w <;> decide +kernel
  simp only [F_rd_end, B_rd_end, ok_fnF2, List.replicate, Nat.reduceSub, oks_seq, oks_set, ok_dMt, ok_dAtG, ok_dV0, rd_begun, rd_ty, true_and, ok_dNil, rd_pop, List.set, ok_dP2, ok_dVs, ok_dC, okO_ixt, a0, oks_if, ok_dOr, ok_dTb, ok_dPn, ok_dCons, tup3, i, d0, ok_asBl, if_true, oks_ret, ok_dStar, viewL, List.map_cons, List.map_nil, List.cons_append, List.nil_append]
  all_goals first | exact ⟨rfl, rfl⟩ | simp
theorem rd_end_told2 {u v : PyData} : callF F_rd_end [.r 1, .d v] (rdM T a (b ++ [.tuple [.str "told", u]]) f) = .ok (.d (.tuple [.str "told", u, v])) (rdM T a b f) := by
  refine callR_eq rfl ?_ rfl
  have i := fun (μ : Mem) (P : W → Mem → Prop) => in_mods (μ := μ) (P := P) (z := "told") (lit_ok _ (by simp))
  have a0 : atI [PyData.str "told", u] 0 = some (.str "told") := rfl
  have d0 : (decide (("not" : Str) = "told") || (decide (("must" : Str) = "told") || decide (("may" : Str) = "told"))) = false := by decide +kernel
  have l2 : ∀ (μ : Mem) (P : W → Mem → Prop), OkO (opEq false [.d (.int (([PyData.str "told", u].length : Nat) : Int)), .d (.int 2)] μ) P = P (.d (.bool true)) μ := fun μ P => by
    rw [okO_eq]
    exact propext ⟨fun h => h.2, fun h => ⟨.inr ⟨rfl, rfl⟩, h⟩⟩
  simp only [F_rd_end, B_rd_end, ok_fnF2, List.replicate, Nat.reduceSub, oks_seq, oks_set, ok_dMt, ok_dAtG, ok_dV0, rd_begun, rd_ty, true_and, ok_dNil, rd_pop, List.set, ok_dP2, ok_dVs, ok_dC, okO_ixt, a0, oks_if, ok_dOr, ok_dAnd, ok_dTb, ok_dPn, ok_dCons, tup3, i, d0, ok_asBl, Bool.false_eq_true, if_false, okO_eqS, decide_true, if_true, okO_lent, l2, oks_ret, ok_dStar, viewL, List.map_cons, List.map_nil, List.cons_append, List.nil_append]
  all_goals first | exact ⟨rfl, rfl⟩ | simp
theorem rd_end_told1 {v : PyData} (h : nxS T a = "}") (hl : b.length + 1 ≤ 1000000) : callF F_rd_end [.r 1, .d v] (rdM T a (b ++ [.tuple [.str "told"]]) f) = .ok (.d .none) (rdM T (a + 1) (b ++ [.tuple [.str "told", v]]) f) := by
  refine callR_eq rfl ?_ rfl
  have i := fun (μ : Mem) (P : W → Mem → Prop) => in_mods (μ := μ) (P := P) (z := "told") (lit_ok _ (by simp))
  have a0 : atI [PyData.str "told"] 0 = some (.str "told") := rfl
  have d0 : (decide (("not" : Str) = "told") || (decide (("must" : Str) = "told") || decide (("may" : Str) = "told"))) = false := by decide +kernel
  have l2 : ∀ (μ : Mem) (P : W → Mem → Prop), OkO (opEq false [.d (.int (([PyData.str "told"].length : Nat) : Int)), .d (.int 2)] μ) P = P (.d (.bool false)) μ := fun μ P => by
    rw [okO_eq]
    exact propext ⟨fun h => h.2, fun h => ⟨.inr ⟨rfl, rfl⟩, h⟩⟩
  have e := rd_pass_eq (a := a) (b := b) (f := f) hT h
  have m : mthG "TextReader" "pass_sign" (.r 1) (rdM T a b f) = true := rd_mt rfl
  simp only [F_rd_end, B_rd_end, ok_fnF2, List.replicate, Nat.reduceSub, oks_seq, oks_set, ok_dMt, ok_dAtG, ok_dV0, rd_begun, rd_ty, true_and, ok_dNil, rd_pop, List.set, ok_dP2, ok_dVs, ok_dC, okO_ixt, a0, oks_if, ok_dOr, ok_dAnd, ok_dTb, ok_dPn, ok_dCons, tup3, i, d0, ok_asBl, Bool.false_eq_true, if_false, okO_eqS, decide_true, if_true, okO_lent, l2, oks_next, oks_expr, ok_dMethG, m, e, ok_ok, okO_tup2, rd_app hl, oks_ret]
  all_goals first | exact ⟨rfl, rfl⟩ | simp
theorem rd_end_sign {w : Bool} {v : PyData} (h : nxS T a = ")") : callF F_rd_end [.r 1, .d v] (rdM T a (b ++ [.tuple [.str (sgS w)]]) f) = .ok (.d (.tuple [.str (wMany w), .tuple [v]])) (rdM T (a + 1) b f) := by
  refine callR_eq rfl ?_ rfl
  have i := fun (μ : Mem) (P : W → Mem → Prop) => in_mods (μ := μ) (P := P) (z := sgS w) (by cases w <;> exact lit_ok _ (by simp [sgS]))
  have a0 : atI [PyData.str (sgS w)] 0 = some (.str (sgS w)) := rfl
  have d0 : (decide (("not" : Str) = sgS w) || (decide (("must" : Str) = sgS w) || decide (("may" : Str) = sgS w))) = false := by cases w <;> decide +kernel
  have d1 : decide (sgS w = "told") = false := by cases w <;> decide +kernel
  have d2 : decide (sgS w = "(") = false := by cases w <;> decide +kernel
  have e := rd_pass_eq (a := a) (b := b) (f := f) hT h
  have m : mthG "TextReader" "pass_sign" (.r 1) (rdM T a b f) = true := rd_mt rfl
  simp only [F_rd_end, B_rd_end, ok_fnF2, List.replicate, Nat.reduceSub, oks_seq, oks_set, ok_dMt, ok_dAtG, ok_dV0, rd_begun, rd_ty, true_and, ok_dNil, rd_pop, List.set, ok_dP2, ok_dVs, ok_dC, okO_ixt, a0, oks_if, ok_dOr, ok_dAnd, ok_dTb, ok_dPn, ok_dCons, tup3, i, d0, d1, d2, ok_asBl, Bool.false_eq_true, if_false, okO_eqS, oks_next, oks_expr, ok_dMethG, m, e, ok_ok, oks_ret, ok_dKD, signs_w, tup1, okO_tup2]
  all_goals first | exact ⟨rfl, rfl⟩ | simp
theorem rd_end_br {bt : Str} {done : List PyData} {v : PyData} {u : PyData} {a1 : Nat} {b1 : List PyData} (hd : done.length ≤ 2000) (e : callF F_rd_endb [.r 1, .d (.str bt), .d (.tuple (done ++ [v]))] (rdM T a b f) = .ok (.d u) (rdM T a1 b1 f)) : callF F_rd_end [.r 1, .d v] (rdM T a (b ++ [.tuple (.str "(" :: .str bt :: done)]) f) = .ok (.d u) (rdM T a1 b1 f) := by
  refine callR_eq rfl ?_ rfl
  have i := fun (μ : Mem) (P : W → Mem → Prop) => in_mods (μ := μ) (P := P) (z := "(") (lit_ok _ (by simp))
  have a0 : atI (.str "(" :: .str bt :: done) 0 = some (PyData.str "(") := atI_nat (i := 0) rfl
  have a1 : atI (.str "(" :: .str bt :: done) 1 = some (PyData.str bt) := atI_nat (i := 1) rfl
  have d0 : (decide (("not" : Str) = "(") || (decide (("must" : Str) = "(") || decide (("may" : Str) = "("))) = false := by decide +kernel
  have d1 : decide (("(" : Str) = "told") = false := by decide +kernel
  have ct : cutD (PyData.str "(" :: .str bt :: done) (some 2) none = done := by
    unfold cutD
    rw [show HT.sIx (PyData.str "(" :: .str bt :: done).length 0 (some 2) = 2 by rw [show (2 : Int) = ((2 : Nat) : Int) from rfl, HT.sIx_nat]; simp]
    simp [HT.sIx]
  have cl : done.length ≤ sizeLine := le_million (by omega)
  have cv : done.length + 1 ≤ sizeLine := le_million (by omega)
  have tu : ∀ (μ : Mem) (P : W → Mem → Prop), OkO (opTup (done.map W.d ++ [.d v]) μ) P = P (.d (.tuple (done ++ [v]))) μ := fun μ P => by
    rw [okO_tup, datas_snoc]
    simp [cv]
  have m : mthG "TextReader" "end_brackets" (.r 1) (rdM T a b f) = true := rd_mt rfl
  simp only [F_rd_end, B_rd_end, ok_fnF2, List.replicate, Nat.reduceSub, oks_seq, oks_set, ok_dMt, ok_dAtG, ok_dV0, rd_begun, rd_ty, true_and, ok_dNil, rd_pop, List.set, ok_dP2, ok_dVs, ok_dC, okO_ixt, a0, a1, oks_if, ok_dOr, ok_dAnd, ok_dTb, ok_dPn, ok_dCons, tup3, i, d0, d1, decide_true, ok_asBl, Bool.false_eq_true, if_false, if_true, okO_eqS, oks_next, oks_ret, ok_dMethG, m, ok_dStar, ok_dSl, ok_dPart, ok_asI, ok_dNo, okO_slt, ct, cl, viewL, tu, e, ok_ok]
  all_goals first | exact ⟨rfl, rfl⟩ | simp
end
end Mok05
set_option autoImplicit false
set_option maxHeartbeats 1000000
namespace Mok05
open PySem PySem.Spec PyProof.Rows L2
variable [Wd]
section
variable {T : Str} {a : Nat} {b : List PyData} {f : Bool}
theorem chainV {z : Str} {μ : Mem} {P : Bool → Mem → Prop} : Ok (dTb (dChain opLeT opLeT (dC (.str "a")) (dV 1) (dC (.str "z"))) [some (.r 1), some (.d (.str z))] μ) P = P (betS z) μ := by
  simp only [ok_dTb, ok_dChain, ok_dC, ok_dVs, ok_dV0, okO_leTs, ok_asBl]
  unfold betS
  cases h : (!decide (z.cps.toList < (Str.ofString "a").cps.toList)) <;> simp
theorem tEq {z y : Str} {μ : Mem} {P : Bool → Mem → Prop} : Ok (dTb (dP2 (opEq false) (dV 1) (dC (.str y))) [some (.r 1), some (.d (.str z))] μ) P = P (decide (z = y)) μ := by
  simp only [ok_dTb, ok_dP2, ok_dVs, ok_dV0, ok_dC, okO_eqS, ok_asBl]
variable (hT : T.length ≤ 1000000)
include hT
theorem rd_begin_TF {w : Bool} (h : nxS T a = if w = true then "F" else "T") : callF F_rd_begin [.r 1] (rdM T a b f) = .ok (.d (.tuple [.str (wMany w), .tuple []])) (rdM T (a + 1) b f) := by
  refine callR_eq rfl ?_ rfl
  have e := rd_take_eq (a := a) (b := b) (f := f) hT
  have m : mthG "TextReader" "take_sign" (.r 1) (rdM T a b f) = true := rd_mt rfl
  rw [h] at e
  have d0 : decide (("F" : Str) = "T") = false := by decide +kernel
  cases w
  · simp only [Bool.false_eq_true, if_false] at e
    simp only [F_rd_begin, B_rd_begin, ok_fnF1, List.replicate, Nat.reduceSub, oks_seq, oks_set, ok_dMethG, ok_dV0, m, true_and, ok_dNil, e, ok_ok, List.set, oks_if, ok_dTb, ok_dP2, ok_dVs, ok_dC, okO_eqS, decide_true, ok_asBl, if_true, oks_ret, ok_dPn, ok_dCons, tup0, okO_tup2]
    all_goals first | exact ⟨rfl, rfl⟩ | simp [wMany]
  · simp only [if_true] at e
    simp only [F_rd_begin, B_rd_begin, ok_fnF1, List.replicate, Nat.reduceSub, oks_seq, oks_set, ok_dMethG, ok_dV0, m, true_and, ok_dNil, e, ok_ok, List.set, oks_if, ok_dTb, ok_dP2, ok_dVs, ok_dC, okO_eqS, d0, decide_true, ok_asBl, Bool.false_eq_true, if_false, oks_next, if_true, oks_ret, ok_dPn, ok_dCons, tup0, okO_tup2]
    all_goals first | exact ⟨rfl, rfl⟩ | simp [wMany]
theorem rd_begin_letter {x : Str} {r : List Nat} (hx : (cp T).drop a = cp x ++ r) (sw : Sw x) (h1 : 1 ≤ x.length) (hb : ∀ c r', r = c :: r' → bet c = false) :
    callF F_rd_begin [.r 1] (rdM T a b f) = .ok (.d (.tuple [.str "letter", .str x])) (rdM T (a + x.length) b f) := by
  refine callR_eq rfl ?_ rfl
  have xl : (cp x).length = x.length := rfl
  obtain ⟨c, l, ec⟩ : ∃ c l, cp x = c :: l := by
    cases q : cp x with
    | nil => rw [q] at xl; simp at xl; omega
    | cons c l => exact ⟨c, l, rfl⟩
  have hc : low c = true := low_all sw.1 c (by rw [ec]; simp)
  have nx := nxS_cons (T := T) (a := a) (c := c) (r := l ++ r) (by rw [hx, ec]; rfl)
  have lc := of_decide_eq_true hc
  have ne : ∀ k : Nat, k < 97 → decide ((⟨#[c]⟩ : Str) = ⟨#[k]⟩) = false := fun k hk => decide_eq_false fun z => by
    injection z with z
    injection z with z
    injection z with z
    omega
  have dT : decide ((⟨#[c]⟩ : Str) = "T") = false := ne 84 (by omega)
  have dF : decide ((⟨#[c]⟩ : Str) = "F") = false := ne 70 (by omega)
  have bt : betS ⟨#[c]⟩ = true := bet_low c hc
  have e := rd_take_eq (a := a) (b := b) (f := f) hT
  have m : mthG "TextReader" "take_sign" (.r 1) (rdM T a b f) = true := rd_mt rfl
  have m2 : mthG "TextReader" "letter_from" (.r 1) (rdM T (a + 1) b f) = true := rd_mt rfl
  have sb : ∀ (μ : Mem) (P : W → Mem → Prop), OkO (opSub [.d (.int ((a + 1 : Nat) : Int)), .d (.int 1)] μ) P = P (.d (.int (a : Nat))) μ := fun μ P => by
    rw [okO_sub]
    congr 3
    omega
  have lt := rd_letter_eq (b := b) (f := f) hT hx sw h1 hb
  rw [nx] at e
  simp only [F_rd_begin, B_rd_begin, ok_fnF1, List.replicate, Nat.reduceSub, oks_seq, oks_set, ok_dMethG, ok_dV0, m, true_and, ok_dNil, e, ok_ok, List.set, oks_if, tEq, chainV, bt, ok_dVs, ok_dC, dT, dF, ok_asBl, Bool.false_eq_true, if_false, oks_next, if_true, oks_ret, ok_dP2, m2, ok_dCons, ok_dAtG, rd_at, sb, lt]
  all_goals first | exact ⟨rfl, rfl⟩ | simp
theorem rd_begin_not (h : nxS T a = "~") (hl : b.length + 1 ≤ 1000000) : callF F_rd_begin [.r 1] (rdM T a b f) = .ok (.d .none) (rdM T (a + 1) (b ++ [.tuple [.str "not"]]) f) := by
  refine callR_eq rfl ?_ rfl
  have e := rd_take_eq (a := a) (b := b) (f := f) hT
  have m : mthG "TextReader" "take_sign" (.r 1) (rdM T a b f) = true := rd_mt rfl
  have d1 : decide (("~" : Str) = "T") = false := by decide +kernel
  have d2 : decide (("~" : Str) = "F") = false := by decide +kernel
  have bt : betS "~" = false := by decide +kernel
  rw [h] at e
  simp only [F_rd_begin, B_rd_begin, ok_fnF1, List.replicate, Nat.reduceSub, oks_seq, oks_set, ok_dMethG, ok_dV0, m, true_and, ok_dNil, e, ok_ok, List.set, oks_if, tEq, chainV, bt, ok_dVs, ok_dC, d1, d2, decide_true, ok_asBl, Bool.false_eq_true, if_false, oks_next, if_true, oks_expr, ok_dMt, ok_dAtG, rd_begun, rd_ty, true_and, ok_dCons, ok_dPn, ok_dNil, tup1, rd_app hl, oks_ret]
  all_goals first | exact ⟨rfl, rfl⟩ | simp
theorem rd_begin_told (h : nxS T a = "{") (hl : b.length + 1 ≤ 1000000) : callF F_rd_begin [.r 1] (rdM T a b f) = .ok (.d .none) (rdM T (a + 1) (b ++ [.tuple [.str "told"]]) f) := by
  refine callR_eq rfl ?_ rfl
  have e := rd_take_eq (a := a) (b := b) (f := f) hT
  have m : mthG "TextReader" "take_sign" (.r 1) (rdM T a b f) = true := rd_mt rfl
  have d1 : decide (("{" : Str) = "T") = false := by decide +kernel
  have d2 : decide (("{" : Str) = "F") = false := by decide +kernel
  have d3 : decide (("{" : Str) = "~") = false := by decide +kernel
  have bt : betS "{" = false := by decide +kernel
  rw [h] at e
  simp only [F_rd_begin, B_rd_begin, ok_fnF1, List.replicate, Nat.reduceSub, oks_seq, oks_set, ok_dMethG, ok_dV0, m, true_and, ok_dNil, e, ok_ok, List.set, oks_if, tEq, chainV, bt, ok_dVs, ok_dC, d1, d2, d3, decide_true, ok_asBl, Bool.false_eq_true, if_false, oks_next, if_true, oks_expr, ok_dMt, ok_dAtG, rd_begun, rd_ty, true_and, ok_dCons, ok_dPn, ok_dNil, tup1, rd_app hl, oks_ret]
  all_goals first | exact ⟨rfl, rfl⟩ | simp
theorem rd_begin_br {a1 : Nat} {b1 : List PyData} (h : nxS T a = "(") (br : callF F_rd_brackets [.r 1] (rdM T (a + 1) b f) = .ok (.d .none) (rdM T a1 b1 f)) : callF F_rd_begin [.r 1] (rdM T a b f) = .ok (.d .none) (rdM T a1 b1 f) := by
  refine callR_eq rfl ?_ rfl
  have e := rd_take_eq (a := a) (b := b) (f := f) hT
  have m : mthG "TextReader" "take_sign" (.r 1) (rdM T a b f) = true := rd_mt rfl
  have m2 : mthG "TextReader" "begin_brackets" (.r 1) (rdM T (a + 1) b f) = true := rd_mt rfl
  have d1 : decide (("(" : Str) = "T") = false := by decide +kernel
  have d2 : decide (("(" : Str) = "F") = false := by decide +kernel
  have d3 : decide (("(" : Str) = "~") = false := by decide +kernel
  have d4 : decide (("(" : Str) = "{") = false := by decide +kernel
  have bt : betS "(" = false := by decide +kernel
  rw [h] at e
  simp only [F_rd_begin, B_rd_begin, ok_fnF1, List.replicate, Nat.reduceSub, oks_seq, oks_set, ok_dMethG, ok_dV0, m, true_and, ok_dNil, e, ok_ok, List.set, oks_if, tEq, chainV, bt, ok_dVs, ok_dC, d1, d2, d3, d4, decide_true, ok_asBl, Bool.false_eq_true, if_false, oks_next, if_true, oks_expr, ok_dMethG, m2, true_and, ok_dNil, br, ok_ok, oks_ret]
  all_goals first | exact ⟨rfl, rfl⟩ | simp
theorem rd_begin_hand {w : Bool} {x : Str} {r : List Nat} (hx : (cp T).drop a = (if w = true then 60 else 91) :: (cp x ++ (if w = true then 62 else 93) :: r)) (sw : Sw x) (h1 : 1 ≤ x.length) (hl : b.length + 1 ≤ 1000000) :
    callF F_rd_begin [.r 1] (rdM T a b f) = .ok (.d .none) (rdM T (a + x.length + 2) (b ++ [.tuple [.str (wMod w), .str x]]) f) := by
  refine callR_eq rfl ?_ rfl
  have e := rd_take_eq (a := a) (b := b) (f := f) hT
  have m : mthG "TextReader" "take_sign" (.r 1) (rdM T a b f) = true := rd_mt rfl
  have m2 : mthG "TextReader" "begin_hand" (.r 1) (rdM T (a + 1) b f) = true := rd_mt rfl
  have nx := nxS_cons hx
  have hx1 : (cp T).drop (a + 1) = cp x ++ (if w = true then 62 else 93) :: r := by rw [← List.drop_drop, hx]; rfl
  have hd := rd_hand_eq (w := wMod w) (b := b) (f := f) hT hx1 sw h1 (by cases w <;> decide +kernel) hl
  have ea : a + 1 + x.length + 1 = a + x.length + 2 := by omega
  rw [nx] at e
  rw [ea] at hd
  cases w
  · have e : callF F_rd_take [.r 1] (rdM T a b f) = .ok (.d (.str "[")) (rdM T (a + 1) b f) := e
    have hd : callF F_rd_hand [.r 1, .d (.str "must"), .d (.str "]")] (rdM T (a + 1) b f) = .ok (.d .none) (rdM T (a + x.length + 2) (b ++ [.tuple [.str "must", .str x]]) f) := hd
    have d1 : decide (("[" : Str) = "T") = false := by decide +kernel
    have d2 : decide (("[" : Str) = "F") = false := by decide +kernel
    have d3 : decide (("[" : Str) = "~") = false := by decide +kernel
    have d4 : decide (("[" : Str) = "{") = false := by decide +kernel
    have d5 : decide (("[" : Str) = "(") = false := by decide +kernel
    have bt : betS "[" = false := by decide +kernel
    simp only [F_rd_begin, B_rd_begin, ok_fnF1, List.replicate, Nat.reduceSub, oks_seq, oks_set, ok_dMethG, ok_dV0, m, true_and, ok_dNil, e, ok_ok, List.set, oks_if, tEq, chainV, bt, ok_dVs, ok_dC, d1, d2, d3, d4, d5, decide_true, ok_asBl, Bool.false_eq_true, if_false, oks_next, if_true, oks_expr, ok_dMethG, m2, true_and, ok_dCons, ok_dNil, hd, ok_ok, oks_ret]
    all_goals first | exact ⟨rfl, rfl⟩ | simp [wMod]
  · have e : callF F_rd_take [.r 1] (rdM T a b f) = .ok (.d (.str "<")) (rdM T (a + 1) b f) := e
    have hd : callF F_rd_hand [.r 1, .d (.str "may"), .d (.str ">")] (rdM T (a + 1) b f) = .ok (.d .none) (rdM T (a + x.length + 2) (b ++ [.tuple [.str "may", .str x]]) f) := hd
    have d1 : decide (("<" : Str) = "T") = false := by decide +kernel
    have d2 : decide (("<" : Str) = "F") = false := by decide +kernel
    have d3 : decide (("<" : Str) = "~") = false := by decide +kernel
    have d4 : decide (("<" : Str) = "{") = false := by decide +kernel
    have d5 : decide (("<" : Str) = "(") = false := by decide +kernel
    have d6 : decide (("<" : Str) = "[") = false := by decide +kernel
    have bt : betS "<" = false := by decide +kernel
    simp only [F_rd_begin, B_rd_begin, ok_fnF1, List.replicate, Nat.reduceSub, oks_seq, oks_set, ok_dMethG, ok_dV0, m, true_and, ok_dNil, e, ok_ok, List.set, oks_if, tEq, chainV, bt, ok_dVs, ok_dC, d1, d2, d3, d4, d5, d6, decide_true, ok_asBl, Bool.false_eq_true, if_false, oks_next, if_true, oks_expr, ok_dMethG, m2, true_and, ok_dCons, ok_dNil, hd, ok_ok, oks_ret]
    all_goals first | exact ⟨rfl, rfl⟩ | simp [wMod]
end
end Mok05
set_option autoImplicit false
set_option maxHeartbeats 1000000
namespace Mok05
open PySem PySem.Spec PyProof.Rows L2
variable [Wd]
noncomputable def cI : DT := dAnd (dTb (dP2 (opIs true) (dV 1) (dC .none))) (dTv (dAtG "TextReader" "begun" (dV 0)))
noncomputable def bI : DS := sSet 1 (dMethG "TextReader" "end_with" F_rd_end (dV 0) (dCons (dV 1) dNil))
noncomputable def cO : DT := dAnd (dTb (dP2 (opIs false) (dV 2) (dC .none))) (dNot (dTv (dAtG "TextReader" "failed" (dV 1))))
noncomputable def bO : DS := sSet 2 (dMethG "TextReader" "read_on" F_rd_on (dV 1) dNil)
def Inn (T : Str) (f : Nat) (v : PyData) (a : Nat) (b : List PyData) (u : PyData) (a1 : Nat) (b1 : List PyData) : Prop := ∀ (N B C : Env → Mem → Prop) (R : W → Mem → Prop), N [some (.r 1), some (.d u)] (rdM T a1 b1 false) → Oks (whl cI bI f [some (.r 1), some (.d v)] (rdM T a b false)) N R B C
def Oul (T : Str) (f : Nat) (v : PyData) (a : Nat) (b : List PyData) (u : PyData) (a1 : Nat) (b1 : List PyData) : Prop := ∀ (N B C : Env → Mem → Prop) (R : W → Mem → Prop), N [some (.d (.str T)), some (.r 1), some (.d u)] (rdM T a1 b1 false) → Oks (whl cO bO f [some (.d (.str T)), some (.r 1), some (.d v)] (rdM T a b false)) N R B C
section
variable {T : Str} {f a a1 a2 : Nat} {b b1 b2 : List PyData} {u v l : PyData} {xs : List PyData} {P : W → Mem → Prop} {μ : Mem}
theorem nn_no (neg : Bool) : OkO (opIs neg [.d .none, .d .none] μ) P = P (.d (.bool !neg)) μ := by cases neg <;> rfl
theorem nn_tup (neg : Bool) : OkO (opIs neg [.d (.tuple xs), .d .none] μ) P = P (.d (.bool neg)) μ := by cases neg <;> rfl
theorem tv_begun {P : Bool → Mem → Prop} : Ok (asB (.r 0) (rdM T a b false)) P = P (!b.isEmpty) (rdM T a b false) := by simp [asB, truth, rdM]
theorem inn_stop (h : v = .none ∨ (b = [] ∧ ∃ xs, v = .tuple xs)) : Inn T (f + 1) v a b v a b := by
  intro N B C R q
  rw [oks_whl]
  rcases h with rfl | ⟨rfl, xs, rfl⟩
  · simp only [cI, ok_dAnd, ok_dTb, ok_dP2, ok_dVs, ok_dV0, ok_dC, nn_no, ok_asBl, Bool.not_true, Bool.false_eq_true, if_false]
    exact q
  · simp only [cI, ok_dAnd, ok_dTb, ok_dP2, ok_dVs, ok_dV0, ok_dC, nn_tup, ok_asBl, if_true, ok_dTv, ok_dAtG, rd_begun, tv_begun, List.isEmpty_nil, Bool.not_true, Bool.false_eq_true, if_false]
    exact q
theorem inn_step (e : callF F_rd_end [.r 1, .d (.tuple xs)] (rdM T a (b ++ [l]) false) = .ok (.d u) (rdM T a1 b1 false)) (h : Inn T f u a1 b1 v a2 b2) : Inn T (f + 1) (.tuple xs) a (b ++ [l]) v a2 b2 := by
  intro N B C R q
  rw [oks_whl]
  have ne : (!(b ++ [l]).isEmpty) = true := by cases b <;> rfl
  have m : mthG "TextReader" "end_with" (.r 1) (rdM T a (b ++ [l]) false) = true := rd_mt rfl
  simp only [cI, ok_dAnd, ok_dTb, ok_dP2, ok_dVs, ok_dV0, ok_dC, nn_tup, ok_asBl, if_true, ok_dTv, ok_dAtG, rd_begun, tv_begun, ne, bI, oks_set, ok_dMethG, m, true_and, ok_dCons, ok_dNil, e, ok_ok, List.set]
  exact h N B C R q
theorem on_eq (e : callF F_rd_begin [.r 1] (rdM T a b false) = .ok (.d u) (rdM T a1 b1 false)) (h : Inn T 100000 u a1 b1 v a2 b2) : callF F_rd_on [.r 1] (rdM T a b false) = .ok (.d v) (rdM T a2 b2 false) := by
  refine callR_eq rfl ?_ rfl
  have m : mthG "TextReader" "begin" (.r 1) (rdM T a b false) = true := rd_mt rfl
  simp only [F_rd_on, B_rd_on, ok_fnF1, List.replicate, Nat.reduceSub, oks_seq, oks_set, ok_dMethG, ok_dV0, m, true_and, ok_dNil, e, ok_ok, List.set]
  refine h _ _ _ _ ?_
  simp only [oks_ret, ok_dVs, ok_dV0]
  all_goals first | exact ⟨rfl, rfl⟩ | simp
theorem out_stop : Oul T (f + 1) (.tuple xs) a b (.tuple xs) a b := by
  intro N B C R q
  rw [oks_whl]
  simp only [cO, ok_dAnd, ok_dTb, ok_dP2, ok_dVs, ok_dV0, ok_dC, nn_tup, ok_asBl, Bool.false_eq_true, if_false]
  exact q
theorem out_step (e : callF F_rd_on [.r 1] (rdM T a b false) = .ok (.d u) (rdM T a1 b1 false)) (h : Oul T f u a1 b1 v a2 b2) : Oul T (f + 1) .none a b v a2 b2 := by
  intro N B C R q
  rw [oks_whl]
  have m : mthG "TextReader" "read_on" (.r 1) (rdM T a b false) = true := rd_mt rfl
  simp only [cO, ok_dAnd, ok_dTb, ok_dP2, ok_dVs, ok_dV0, ok_dC, nn_no, Bool.not_false, ok_asBl, if_true, ok_dNot, ok_dTv, ok_dAtG, rd_failed, ok_asB, bO, oks_set, ok_dMethG, m, true_and, ok_dNil, e, ok_ok, List.set]
  exact h N B C R q
end
section
variable {T : Str} {vz : PyData} {az : Nat} {bz : List PyData}
def W2 (T : Str) (vz : PyData) (az : Nat) (bz : List PyData) (v : PyData) (a : Nat) (b : List PyData) : Prop := ∀ f1 f2, T.length - a + 1 ≤ f1 → b.length + 1 ≤ f2 → ∃ u a1 b1, Inn T f2 v a b u a1 b1 ∧ Oul T f1 u a1 b1 vz az bz
def W1 (T : Str) (vz : PyData) (az : Nat) (bz : List PyData) (a : Nat) (b : List PyData) : Prop := ∀ f1, T.length - a + 1 ≤ f1 → Oul T f1 .none a b vz az bz
variable {a a1 : Nat} {b b1 : List PyData} {xs : List PyData} {l : PyData}
theorem w_more (e : callF F_rd_begin [.r 1] (rdM T a b false) = .ok (.d .none) (rdM T a1 b1 false)) (h1 : a < a1) (h2 : a < T.length) (h : W1 T vz az bz a1 b1) : W1 T vz az bz a b := by
  intro f1 hf
  obtain ⟨f, rfl⟩ : ∃ f, f1 = f + 1 := ⟨f1 - 1, by omega⟩
  exact out_step (on_eq e (inn_stop (f := 99999) (.inl rfl))) (h f (by omega))
theorem w_done (e : callF F_rd_begin [.r 1] (rdM T a b false) = .ok (.d (.tuple xs)) (rdM T a1 b1 false)) (h1 : a < a1) (h2 : a < T.length) (hb : b1.length ≤ 99999) (h : W2 T vz az bz (.tuple xs) a1 b1) : W1 T vz az bz a b := by
  intro f1 hf
  obtain ⟨f, rfl⟩ : ∃ f, f1 = f + 1 := ⟨f1 - 1, by omega⟩
  obtain ⟨u, a2, b2, i, o⟩ := h f 100000 (by omega) (by omega)
  exact out_step (on_eq e i) o
theorem w_end {ys : List PyData} (e : callF F_rd_end [.r 1, .d (.tuple xs)] (rdM T a (b ++ [l]) false) = .ok (.d (.tuple ys)) (rdM T a1 b false)) (h1 : a ≤ a1) (h : W2 T vz az bz (.tuple ys) a1 b) : W2 T vz az bz (.tuple xs) a (b ++ [l]) := by
  intro f1 f2 hf1 hf2
  rw [List.length_append, List.length_singleton] at hf2
  obtain ⟨f, rfl⟩ : ∃ f, f2 = f + 1 := ⟨f2 - 1, by omega⟩
  obtain ⟨u, a2, b2, i, o⟩ := h f1 f (by omega) (by omega)
  exact ⟨u, a2, b2, inn_step e i, o⟩
theorem w_wait (e : callF F_rd_end [.r 1, .d (.tuple xs)] (rdM T a (b ++ [l]) false) = .ok (.d .none) (rdM T a1 b1 false)) (h1 : a ≤ a1) (h : W1 T vz az bz a1 b1) : W2 T vz az bz (.tuple xs) a (b ++ [l]) := by
  intro f1 f2 hf1 hf2
  rw [List.length_append, List.length_singleton] at hf2
  obtain ⟨f, rfl⟩ : ∃ f, f2 = f + 1 + 1 := ⟨f2 - 2, by omega⟩
  exact ⟨.none, a1, b1, inn_step e (inn_stop (.inl rfl)), h f1 (by omega)⟩
end
mutual
def Sg.wn : Sg → Prop
  | .lt x => 1 ≤ x.length
  | .no s => s.wn
  | .many _ l => Sg.wns l
  | .so a b => a.wn ∧ b.wn
  | .tl a b => a.wn ∧ b.wn
  | .mod _ h s => 1 ≤ h.length ∧ s.wn
def Sg.wns : List Sg → Prop
  | [] => True
  | s :: r => s.wn ∧ Sg.wns r
end
def Bd (r : List Nat) : Prop := ∀ c r', r = c :: r' → bet c = false
theorem txt_head : ∀ s : Sg, s.sok → s.wn → ∃ c l, txt s = c :: l ∧ c ≠ 38 ∧ c ≠ 124 ∧ c < 128
  | .lt x, h, hw => by
    have hw : 1 ≤ (cp x).length := hw
    cases q : cp x with
    | nil => rw [q] at hw; simp at hw
    | cons c l =>
      have := of_decide_eq_true (low_all h.1 c (by rw [q]; simp))
      exact ⟨c, l, by rw [txt, q], by omega, by omega, by omega⟩
  | .no s, _, _ => ⟨126, _, rfl, by decide, by decide, by decide⟩
  | .many w [], _, _ => by cases w <;> exact ⟨_, _, rfl, by decide, by decide, by decide⟩
  | .many w [s], _, _ => ⟨40, _, rfl, by decide, by decide, by decide⟩
  | .many w (s :: t :: r), _, _ => ⟨40, _, rfl, by decide, by decide, by decide⟩
  | .so a b, _, _ => ⟨40, _, rfl, by decide, by decide, by decide⟩
  | .tl a b, _, _ => ⟨123, _, rfl, by decide, by decide, by decide⟩
  | .mod w h s, _, _ => by cases w <;> exact ⟨_, _, rfl, by decide, by decide, by decide⟩
end Mok05
set_option autoImplicit false
set_option maxHeartbeats 1000000
namespace Mok05
open PySem PySem.Spec PyProof.Rows L2
variable [Wd]
theorem drop_at {T : Str} {a : Nat} {c : Nat} {l : List Nat} (h : (cp T).drop a = c :: l) : a < T.length := by
  have := congrArg List.length h
  rw [List.length_drop, List.length_cons] at this
  have : (cp T).length = T.length := rfl
  omega
theorem drop_on {T : Str} {a : Nat} {u r : List Nat} (h : (cp T).drop a = u ++ r) : (cp T).drop (a + u.length) = r := by
  rw [← List.drop_drop, h, List.drop_left]
theorem bd_cons {c : Nat} {r : List Nat} (h : bet c = false) : Bd (c :: r) := fun d r' e => by cases e; exact h
theorem sgn_small {c : Nat} (h : c < 128) : PyData.strOk ⟨#[c]⟩ = true := by
  unfold PyData.strOk
  rw [Array.all_eq_true']
  intro y hy
  have : y = c := by simpa using hy
  exact decide_eq_true (by omega)
section
variable {T : Str} {vz : PyData} {az : Nat} {bz : List PyData} (hT : T.length ≤ 90000)
def moreT (w : Bool) (l : List Sg) : List Nat := l.flatMap fun u => sgC w :: txt u
include hT
mutual
theorem reads : ∀ (s : Sg), s.sok → s.wn → ∀ (a : Nat) (b : List PyData) (r : List Nat), (cp T).drop a = txt s ++ r → Bd r → b.length + (txt s).length ≤ 90000 → W2 T vz az bz s.d (a + (txt s).length) b → W1 T vz az bz a b
  | .lt x, h, hw, a, b, r, hx, hb, hl, q => by
    have hT' : T.length ≤ 1000000 := by omega
    obtain ⟨c, l, e1, -⟩ := txt_head (.lt x) h hw
    have lt := drop_at (by rw [hx, e1]; rfl)
    have hw : 1 ≤ x.length := hw
    exact w_done (rd_begin_letter hT' hx h hw hb) (by omega) lt (by omega) q
  | .no s, h, hw, a, b, r, hx, hb, hl, q => by
    have hT' : T.length ≤ 1000000 := by omega
    have hx : (cp T).drop a = 126 :: (txt s ++ r) := hx
    have ln : (txt (.no s)).length = (txt s).length + 1 := rfl
    have h1 : (cp T).drop (a + 1) = txt s ++ r := drop_on (u := [126]) hx
    obtain ⟨xs, ex⟩ := d_tup s
    refine w_more (rd_begin_not hT' (nxS_cons hx) (by omega)) (by omega) (drop_at hx) (reads s h hw (a + 1) _ r h1 hb (by rw [List.length_append, List.length_singleton]; omega) ?_)
    rw [ex]
    refine w_end (rd_end_not hT') (Nat.le_refl _) ?_
    rw [← ex]
    rw [ln, ← Nat.add_assoc, Nat.add_right_comm] at q
    exact q
  | .many w [], h, hw, a, b, r, hx, hb, hl, q => by
    have hT' : T.length ≤ 1000000 := by omega
    have hx : (cp T).drop a = (if w = true then 70 else 84) :: r := hx
    have nx : nxS T a = if w = true then "F" else "T" := by
      rw [nxS_cons hx]
      cases w <;> rfl
    exact w_done (rd_begin_TF hT' nx) (by omega) (drop_at hx) (by omega) q
  | .many w [s], h, hw, a, b, r, hx, hb, hl, q => by
    have hT' : T.length ≤ 1000000 := by omega
    have hx : (cp T).drop a = 40 :: sgC w :: (txt s ++ [41] ++ r) := hx
    have ln : (txt (.many w [s])).length = (txt s).length + 3 := by simp [txt, txtL, manyT]
    have h1 : (cp T).drop (a + 1) = sgC w :: (txt s ++ [41] ++ r) := drop_on (u := [40]) hx
    have h2 : (cp T).drop (a + 1 + 1) = txt s ++ (41 :: r) := by
      refine (drop_on (u := [sgC w]) h1).trans ?_
      simp
    have h3 := drop_on h2
    have nx : nxS T (a + 1) = sgS w := by
      rw [nxS_cons h1]
      cases w <;> rfl
    obtain ⟨xs, ex⟩ := d_tup s
    refine w_more (rd_begin_br hT' (nxS_cons hx) (rd_brackets_sign hT' nx (by omega))) (by omega) (drop_at hx) (reads s h.1.1 hw.1 (a + 1 + 1) _ (41 :: r) h2 (bd_cons (by decide +kernel)) (by rw [List.length_append, List.length_singleton]; omega) ?_)
    rw [ex]
    refine w_end (rd_end_sign hT' (nxS_cons h3)) (Nat.le_succ _) ?_
    rw [← ex]
    have e : a + (txt (.many w [s])).length = a + 1 + 1 + (txt s).length + 1 := by omega
    rw [e] at q
    exact q
  | .many w (s :: t :: l), h, hw, a, b, r, hx, hb, hl, q => by
    have hT' : T.length ≤ 1000000 := by omega
    have tx : txt (.many w (s :: t :: l)) = 40 :: (txt s ++ (moreT w (t :: l) ++ [41])) := by
      rw [txt, txtL_map]
      show 40 :: (txt s ++ (((t :: l).map txt).flatMap (fun u => sgC w :: u) ++ [41])) = _
      rw [List.flatMap_map]
      rfl
    rw [tx] at hx hl q
    simp only [List.length_cons, List.length_append, List.length_nil] at hl q
    have h1 : (cp T).drop (a + 1) = txt s ++ (moreT w (t :: l) ++ 41 :: r) := by
      refine (drop_on (u := [40]) hx).trans ?_
      simp
    obtain ⟨c, l', e1, c1, c2, c3⟩ := txt_head s h.1.1 hw.1
    have nx : nxS T (a + 1) = ⟨#[c]⟩ := nxS_cons (by rw [h1, e1]; rfl)
    have n1 : nxS T (a + 1) ≠ "&" ∧ nxS T (a + 1) ≠ "|" := by
      rw [nx]
      refine ⟨fun z => ?_, fun z => ?_⟩
      · injection z with z; injection z with z; injection z with z; exact c1 z
      · injection z with z; injection z with z; injection z with z; exact c2 z
    have n2 : PyData.strOk (nxS T (a + 1)) = true := by
      rw [nx]
      exact sgn_small c3
    have e : a + ((txt s).length + ((moreT w (t :: l)).length + (0 + 1)) + 1) = a + 1 + (txt s).length + (moreT w (t :: l)).length + 1 := by omega
    rw [e] at q
    exact w_more (rd_begin_br hT' (nxS_cons (show (cp T).drop a = 40 :: _ from hx)) (rd_brackets_say hT' n1 n2 (by omega))) (by omega) (drop_at (show (cp T).drop a = 40 :: _ from hx))
      (readl w (s :: t :: l) h.1 hw [] "" (a + 1) b r s (t :: l) rfl h1 (.inl ⟨rfl, rfl, by simp⟩) (by omega) (by simpa using h.2) q)
  | .so x y, h, hw, a, b, r, hx, hb, hl, q => by
    have hT' : T.length ≤ 1000000 := by omega
    have ln : (txt (.so x y)).length = (txt x).length + (txt y).length + 3 := by simp [txt]; omega
    have hx : (cp T).drop a = 40 :: (txt x ++ 62 :: (txt y ++ [41]) ++ r) := hx
    have h1 : (cp T).drop (a + 1) = txt x ++ (62 :: (txt y ++ 41 :: r)) := by
      refine (drop_on (u := [40]) hx).trans ?_
      simp
    have h2 := drop_on h1
    have h3 : (cp T).drop (a + 1 + (txt x).length + 1) = txt y ++ (41 :: r) := drop_on (u := [62]) h2
    have h4 := drop_on h3
    obtain ⟨c, l', e1, c1, c2, c3⟩ := txt_head x h.1 hw.1
    have nx : nxS T (a + 1) = ⟨#[c]⟩ := nxS_cons (by rw [h1, e1]; rfl)
    have n1 : nxS T (a + 1) ≠ "&" ∧ nxS T (a + 1) ≠ "|" := by
      rw [nx]
      refine ⟨fun z => ?_, fun z => ?_⟩
      · injection z with z; injection z with z; injection z with z; exact c1 z
      · injection z with z; injection z with z; injection z with z; exact c2 z
    have n2 : PyData.strOk (nxS T (a + 1)) = true := by
      rw [nx]
      exact sgn_small c3
    obtain ⟨xs, ex⟩ := d_tup x
    obtain ⟨ys, ey⟩ := d_tup y
    refine w_more (rd_begin_br hT' (nxS_cons hx) (rd_brackets_say hT' n1 n2 (by omega))) (by omega) (drop_at hx) (reads x h.1 hw.1 (a + 1) _ _ h1 (bd_cons (by decide +kernel)) (by rw [List.length_append, List.length_singleton]; omega) ?_)
    rw [ex]
    refine w_wait (rd_end_br hT' (done := []) (by simp) (rd_endb_on hT' (z := ">") (nxS_cons h2) (.inr (.inr rfl)) (.inl rfl) (by omega) (by simp))) (Nat.le_succ _) ?_
    refine reads y h.2 hw.2 _ _ _ h3 (bd_cons (by decide +kernel)) (by rw [List.length_append, List.length_singleton]; omega) ?_
    rw [ey]
    refine w_end (rd_end_br hT' (done := [.tuple xs]) (by simp) (rd_endb_so hT' (nxS_cons h4))) (Nat.le_succ _) ?_
    have e : a + (txt (.so x y)).length = a + 1 + (txt x).length + 1 + (txt y).length + 1 := by omega
    rw [e] at q
    rw [← ex, ← ey]
    exact q
  | .tl x y, h, hw, a, b, r, hx, hb, hl, q => by
    have hT' : T.length ≤ 1000000 := by omega
    have ln : (txt (.tl x y)).length = (txt x).length + (txt y).length + 2 := by simp [txt]; omega
    have hx : (cp T).drop a = 123 :: (txt x ++ 125 :: txt y ++ r) := hx
    have h1 : (cp T).drop (a + 1) = txt x ++ (125 :: (txt y ++ r)) := by
      refine (drop_on (u := [123]) hx).trans ?_
      simp
    have h2 := drop_on h1
    have h3 : (cp T).drop (a + 1 + (txt x).length + 1) = txt y ++ r := drop_on (u := [125]) h2
    obtain ⟨xs, ex⟩ := d_tup x
    obtain ⟨ys, ey⟩ := d_tup y
    refine w_more (rd_begin_told hT' (nxS_cons hx) (by omega)) (by omega) (drop_at hx) (reads x h.1 hw.1 (a + 1) _ _ h1 (bd_cons (by decide +kernel)) (by rw [List.length_append, List.length_singleton]; omega) ?_)
    rw [ex]
    refine w_wait (rd_end_told1 hT' (nxS_cons h2) (by omega)) (Nat.le_succ _) ?_
    refine reads y h.2 hw.2 _ _ _ h3 hb (by rw [List.length_append, List.length_singleton]; omega) ?_
    rw [ey]
    refine w_end (rd_end_told2 hT') (Nat.le_refl _) ?_
    have e : a + (txt (.tl x y)).length = a + 1 + (txt x).length + 1 + (txt y).length := by omega
    rw [e] at q
    rw [← ex, ← ey]
    exact q
  | .mod w x s, h, hw, a, b, r, hx, hb, hl, q => by
    have hT' : T.length ≤ 1000000 := by omega
    have ln : (txt (.mod w x s)).length = x.length + (txt s).length + 2 := by
      simp [txt]
      have : (cp x).length = x.length := rfl
      omega
    have hx : (cp T).drop a = (if w = true then 60 else 91) :: (cp x ++ (if w = true then 62 else 93) :: (txt s ++ r)) := by
      rw [hx]
      simp [txt]
    have h1 : (cp T).drop (a + x.length + 2) = txt s ++ r := by
      have e : a + x.length + 2 = a + ((if w = true then 60 else 91) :: (cp x ++ [if w = true then 62 else 93])).length := by
        simp
        show a + x.length + 2 = a + ((cp x).length + 1 + 1)
        rfl
      rw [e]
      refine drop_on ?_
      rw [hx]
      simp
    obtain ⟨xs, ex⟩ := d_tup s
    refine w_more (rd_begin_hand hT' hx h.1 hw.1 (by omega)) (by omega) (drop_at hx) (reads s h.2 hw.2 _ _ r h1 hb (by rw [List.length_append, List.length_singleton]; omega) ?_)
    rw [ex]
    refine w_end (rd_end_mod hT') (Nat.le_refl _) ?_
    have e : a + (txt (.mod w x s)).length = a + x.length + 2 + (txt s).length := by omega
    rw [e] at q
    rw [← ex]
    exact q
theorem readl (w : Bool) : ∀ (l : List Sg), Sg.soks l → Sg.wns l → ∀ (done : List Sg) (bt : Str) (a : Nat) (b : List PyData) (r : List Nat) (s : Sg) (l' : List Sg), l = s :: l' → (cp T).drop a = txt s ++ (moreT w l' ++ 41 :: r) →
    (done = [] ∧ bt = "" ∧ l' ≠ []) ∨ (done ≠ [] ∧ bt = sgS w) → b.length + (txt s).length + (moreT w l').length + 2 ≤ 90000 → done.length + l.length ≤ 1000 → W2 T vz az bz (Sg.many w (done ++ l)).d (a + (txt s).length + (moreT w l').length + 1) b → W1 T vz az bz a (b ++ [.tuple (.str "(" :: .str bt :: Sg.ds done)])
  | [], _, _, _, _, _, _, _, _, _, e, _, _, _, _, _ => nomatch e
  | s0 :: l0, h, hw, done, bt, a, b, r, s, l', e, hx, hd, hl, hn, q => by
    have hT' : T.length ≤ 1000000 := by omega
    injection e with e1 e2
    subst e1 e2
    have h2 := drop_on hx
    have hb : Bd (moreT w l0 ++ 41 :: r) := by
      cases l0 with
      | nil => exact bd_cons (by decide +kernel)
      | cons t l => cases w <;> exact bd_cons (by decide +kernel)
    obtain ⟨xs, ex⟩ := d_tup s0
    have dl : (Sg.ds done).length ≤ 2000 := by rw [ds_len]; simp only [List.length_cons] at hn; omega
    have da : Sg.ds done ++ [PyData.tuple xs] = Sg.ds (done ++ [s0]) := by rw [ds_app, ← ex]; rfl
    refine reads s0 h.1 hw.1 a _ _ hx hb (by rw [List.length_append, List.length_singleton]; omega) ?_
    rw [ex]
    match l0, h, hw, hx, hd, hl, hn, q, h2, hb with
    | [], h, hw, hx, hd, hl, hn, q, h2, hb =>
      have hd : bt = sgS w := hd.elim (fun z => absurd rfl z.2.2) fun z => z.2
      subst hd
      have h2 : (cp T).drop (a + (txt s0).length) = 41 :: r := h2
      have eb := rd_endb_many (w := w) (some_ := Sg.ds (done ++ [s0])) (b := b) (f := false) hT' (nxS_cons h2)
      rw [← da] at eb
      refine w_end (rd_end_br hT' dl eb) (Nat.le_succ _) ?_
      rw [da]
      have : a + (txt s0).length + (moreT w []).length + 1 = a + (txt s0).length + 1 := rfl
      rw [this] at q
      exact q
    | t :: l, h, hw, hx, hd, hl, hn, q, h2, hb =>
      have h2 : (cp T).drop (a + (txt s0).length) = sgC w :: (txt t ++ (moreT w l ++ 41 :: r)) := by
        refine h2.trans ?_
        simp [moreT]
      have h3 : (cp T).drop (a + (txt s0).length + 1) = txt t ++ (moreT w l ++ 41 :: r) := drop_on (u := [sgC w]) h2
      have nx : nxS T (a + (txt s0).length) = sgS w := by
        rw [nxS_cons h2]
        cases w <;> rfl
      have ml : (moreT w (t :: l)).length = (txt t).length + (moreT w l).length + 1 := by
        simp [moreT]
        all_goals omega
      have eb := rd_endb_on (T := T) (some_ := Sg.ds (done ++ [s0])) (b := b) (f := false) (bt := bt) hT' nx (by cases w <;> simp [sgS]) (hd.elim (fun z => .inl z.2.1) fun z => .inr ⟨z.2, by cases w <;> decide +kernel⟩) (by omega) (by rw [ds_len, List.length_append, List.length_singleton]; simp only [List.length_cons] at hn; omega)
      rw [← da] at eb
      refine w_wait (rd_end_br hT' dl eb) (Nat.le_succ _) ?_
      rw [da]
      refine readl w (t :: l) h.2 hw.2 (done ++ [s0]) (sgS w) _ b r t l rfl h3 (.inr ⟨by simp, rfl⟩) (by omega) (by rw [List.length_append, List.length_singleton]; simp only [List.length_cons] at hn ⊢; omega) ?_
      have e : a + (txt s0).length + (moreT w (t :: l)).length + 1 = a + (txt s0).length + 1 + (txt t).length + (moreT w l).length + 1 := by omega
      rw [e] at q
      rw [List.append_assoc]
      exact q
end
end
end Mok05
set_option autoImplicit false
set_option maxHeartbeats 1000000
namespace Mok05
open PySem PySem.Spec PyProof.Rows L2
variable [Wd]
def txS (s : Sg) : Str := ⟨(txt s).toArray⟩
theorem txS_cp (s : Sg) : cp (txS s) = txt s := by simp [txS, cp]
theorem txS_len (s : Sg) : (txS s).length = (txt s).length := by
  show (cp (txS s)).length = _
  rw [txS_cp]
theorem rd_init_ok {T : Str} : Ok (F_rd_init [.r 1, .d (.str T)] [.emp, .q "TextReader" []]) fun w μ => w = .d .none ∧ μ.take 2 = rdM T 0 [] false := by
  have z0 : (0 : Nat) ≤ sizeLine := Nat.zero_le _
  have nl : ∀ (μ : Mem) (P : W → Mem → Prop), OkO (opLst true [] μ) P = P (.r μ.length) (μ ++ [.l []]) := fun μ P => by simp [opLst, datas, mkL, sz, z0]
  have s1 : ∀ (P : Unit → Mem → Prop), Ok (stG "TextReader" "text" 0 (.d (.str T)) (.r 1) [.emp, .q "TextReader" []]) P = P () [.emp, .q "TextReader" [("text", .d (.str T))]] := fun P => by
    rw [ok_stGd (by rfl) (by show 0 < 900; decide)]
    rfl
  have s2 : ∀ (P : Unit → Mem → Prop), Ok (stG "TextReader" "at" 0 (.d (.int 0)) (.r 1) [.emp, .q "TextReader" [("text", .d (.str T))]]) P = P () [.emp, .q "TextReader" [("text", .d (.str T)), ("at", .d (.int 0))]] := fun P => by
    rw [ok_stGd (by rfl) (by show 1 < 900; decide)]
    rfl
  have s3 : ∀ (P : Unit → Mem → Prop), Ok (stG "TextReader" "begun" 1 (.r 2) (.r 1) [.emp, .q "TextReader" [("text", .d (.str T)), ("at", .d (.int 0))], .l []]) P = P () [.l [], .q "TextReader" [("text", .d (.str T)), ("at", .d (.int 0)), ("begun", .r 0)], .dead] := fun P => by
    rw [ok_stGr (o := .l []) (gs := [("text", .d (.str T)), ("at", .d (.int 0))]) (by rfl) (by show 2 < 900; decide) (by rfl) (by rfl) (by decide) (by decide) (by decide) (by rfl)]
    rfl
  have s4 : ∀ (P : Unit → Mem → Prop), Ok (stG "TextReader" "failed" 0 (.d (.bool false)) (.r 1) [.l [], .q "TextReader" [("text", .d (.str T)), ("at", .d (.int 0)), ("begun", .r 0)], .dead]) P = P () [.l [], .q "TextReader" [("text", .d (.str T)), ("at", .d (.int 0)), ("begun", .r 0), ("failed", .d (.bool false))], .dead] := fun P => by
    rw [ok_stGd (by rfl) (by show 3 < 900; decide)]
    rfl
  simp only [F_rd_init, B_rd_init, ok_fnF2, List.replicate, Nat.reduceSub, oks_seq, oks_sAtG, ok_dV0, ok_dVs, s1, ok_dC, s2, ok_dPn, ok_dNil, nl, List.length_cons, List.length_nil, Nat.reduceAdd, List.cons_append, List.nil_append, s3, s4]
  all_goals first | exact ⟨rfl, rfl⟩ | simp
  all_goals rfl
theorem saying_in_eq {s : Sg} (h : s.sok) (hw : s.wn) (hl : (txt s).length ≤ 90000) (μ : Mem) : callF F_saying_in [.d (.str (txS s))] μ = .ok (.d s.d) μ := by
  refine call_pure rfl ?_
  have hT : (txS s).length ≤ 90000 := by rw [txS_len]; exact hl
  obtain ⟨xs, ex⟩ := d_tup s
  have rd : W1 (txS s) s.d (0 + (txt s).length) [] 0 [] := by
    refine reads hT s h hw 0 [] [] (by rw [txS_cp]; simp) (fun c r' e => by cases e) (by simpa using hl) ?_
    intro f1 f2 h1 h2
    obtain ⟨g1, rfl⟩ : ∃ g, f1 = g + 1 := ⟨f1 - 1, by omega⟩
    obtain ⟨g2, rfl⟩ : ∃ g, f2 = g + 1 := ⟨f2 - 1, by omega⟩
    rw [ex]
    exact ⟨_, _, _, inn_stop (.inr ⟨rfl, xs, rfl⟩), out_stop⟩
  simp only [F_saying_in, B_saying_in, ok_fnF1, List.replicate, Nat.reduceSub, oks_seq, oks_set, ok_dMakeQ, ok_dCons, ok_dNil, ok_dV0, ok_mkQ, List.length_nil, Nat.zero_add, List.nil_append, List.cons_append]
  refine rd_init_ok.mono fun w μ1 ⟨e1, e2⟩ => ⟨e1, ?_⟩
  have e2 : μ1.take (1 + 1) = rdM (txS s) 0 [] false := e2
  rw [e2]
  simp only [List.set, oks_set, ok_dC]
  show Oks (whl cO bO 100000 [some (.d (.str (txS s))), some (.r 1), some (.d .none)] (rdM (txS s) 0 [] false)) _ _ _ _
  refine rd 100000 (by rw [txS_len]; omega) _ _ _ _ ?_
  rw [Nat.zero_add]
  have zT : sz (txS s).length = true := decide_eq_true (le_million (by omega))
  have ln : ∀ (μ : Mem) (P : W → Mem → Prop), OkO ((orO opLen opLenD) [.d (.str (txS s))] μ) P = P (.d (.int ((txt s).length : Nat))) μ := fun μ P => by
    have e : (orO opLen opLenD) [.d (.str (txS s))] μ = pI (txS s).length μ := by
      simp [orO, opLen, viewL, zT, pI]
    rw [e, txS_len]
    rfl
  simp only [oks_if, ok_dOr, ok_dTv, ok_dAtG, ok_dVs, ok_dV0, rd_failed, ok_asB, Bool.false_eq_true, if_false, ok_dTb, ok_dP2, rd_at, ok_dPn, ok_dCons, ok_dNil, ln, okO_lt, ok_asBl, Int.lt_irrefl, decide_false, oks_next, oks_ret]
theorem read_eq {s : Sg} (h : s.sok) (hw : s.wn) (hl : (txt s).length ≤ 90000) (μ : Mem) : callF F_saying_readX [.d (.str (txS s))] μ = .ok (.d s.d) μ := by
  refine call_pure rfl ?_
  have e := fun μ => saying_in_eq h hw hl μ
  obtain ⟨xs, ex⟩ := d_tup s
  rw [ex] at e ⊢
  simp only [F_saying_readX, B_saying_readX, ok_fnF1, List.replicate, Nat.reduceSub, oks_seq, oks_set, ok_dCall, ok_dCons, ok_dNil, ok_dV0, List.map_nil, List.append_nil, e, ok_ok, List.set, oks_if, ok_dTb, ok_dP2, ok_dVs, ok_dC, nn_tup, ok_asBl, Bool.false_eq_true, if_false, oks_next, oks_ret]
theorem text_eq2 {s : Sg} (h : s.sok) (hz : s.sz ≤ 2000) (hl : (txt s).length ≤ 1000000) (μ : Mem) : callF F_saying_text [.d s.d] μ = .ok (.d (.str (txS s))) μ := text_eq h hz hl μ
end Mok05
set_option autoImplicit false
set_option maxHeartbeats 1000000
namespace Mok05
open PySem PySem.Spec PyProof.Rows L2
variable [Wd]
mutual
def hin (w : Web) (f : Nat → Bool) : Sg → Nat → Bool
  | .lt x, i => decide (i ∈ look w.le x)
  | .no s, i => !hin w f s i
  | .many b l, i => if b = true then hinAny w f l i else hinAll w f l i
  | .so a b, i => !hin w f a i || hin w f b i
  | .mod b h s, i => if b = true then lead w h (fun j => f j && hin w f s j) i else !lead w h (fun j => f j && !hin w f s j) i
  | .tl a b, i => !hin w f a i || hin w (fun k => f k && hin w f a k) b i
def hinAny (w : Web) (f : Nat → Bool) : List Sg → Nat → Bool
  | [], _ => false
  | s :: l, i => hin w f s i || hinAny w f l i
def hinAll (w : Web) (f : Nat → Bool) : List Sg → Nat → Bool
  | [], _ => true
  | s :: l, i => hin w f s i && hinAll w f l i
end
end Mok05
set_option autoImplicit false
set_option maxHeartbeats 1000000
namespace Mok05
open PySem PySem.Spec PyProof.Rows L2
variable [Wd]
end Mok05
set_option autoImplicit false
namespace Mok05
open PySem PySem.Spec PyProof.Rows L2
variable [Wd]
section
variable {X : Cx} {ct : Ct} {Z : WX}
end
end Mok05
set_option autoImplicit false
set_option maxHeartbeats 4000000
namespace Mok05
open PySem PySem.Spec PyProof.Rows L2
variable [Wd]
end Mok05
set_option autoImplicit false
set_option maxHeartbeats 4000000
namespace Mok05
open PySem PySem.Spec PyProof.Rows L2
variable [Wd]
section
variable {K : PySem.W.Frag} {m : Ms} {H : Hp} {μ : Mem}
section
variable {m1 : Ms} {H1 : Hp} {μ1 : Mem} {n : Nat} {l : List Addr} {b : Addr} {u : HO}
end
end
end Mok05
set_option autoImplicit false
set_option maxHeartbeats 4000000
namespace Mok05
open PySem PySem.Spec PyProof.Rows L2
variable [Wd]
section
variable {X : Cx} {ct : Ct} {Z : WX}
end
end Mok05
set_option autoImplicit false
set_option maxHeartbeats 4000000
namespace Mok05
open PySem PySem.Spec PyProof.Rows L2
variable [Wd]
end Mok05
set_option autoImplicit false
set_option maxHeartbeats 1000000
namespace Mok05
open PySem PySem.Spec PyProof.Rows L2
variable [Wd]
mutual
theorem few_pl : ∀ s : Sg, s.pl → (few s).pl
  | .lt x, _ => trivial
  | .no s, h => few_pl s h
  | .many c l, h => by
    have := fews_pl l h
    cases c
    · exact this.1
    · exact this.2
  | .so a b, h => ⟨few_pl a h.1, few_pl b h.2, trivial⟩
  | .tl _ _, h => h.elim
  | .mod c k s, h => by
    have := few_pl s h
    cases c
    · exact this
    · exact this
theorem fews_pl : ∀ l : List Sg, Sg.pls l → Sg.pls (fews l) ∧ Sg.pls (fewn l)
  | [], _ => ⟨trivial, trivial⟩
  | s :: r, h => ⟨⟨few_pl s h.1, (fews_pl r h.2).1⟩, ⟨few_pl s h.1, (fews_pl r h.2).2⟩⟩
end
mutual
theorem tout_self : ∀ s : Sg, s.pl → tout s = s
  | .lt x, _ => rfl
  | .no s, h => by rw [tout, tout_self s h]
  | .many w l, h => by rw [tout, touts_self l h]
  | .so a b, h => by rw [tout, tout_self a h.1, tout_self b h.2]
  | .tl a b, h => h.elim
  | .mod w x s, h => by rw [tout, tout_self s h]
theorem touts_self : ∀ l : List Sg, Sg.pls l → touts l = l
  | [], _ => rfl
  | s :: r, h => by rw [touts, tout_self s h.1, touts_self r h.2]
end
theorem sg_len (c : Nat) : ∀ L : List (List Nat), (L.flatMap fun u => c :: u).length = L.flatten.length + L.length
  | [] => rfl
  | u :: L => by
    have := sg_len c L
    simp only [List.flatMap_cons, List.length_append, List.length_cons, List.flatten_cons, this]
    omega
theorem many_len (w : Bool) : ∀ L : List (List Nat), (manyT w L).length ≤ L.flatten.length + L.length + 3
  | [] => by simp [manyT]
  | [s] => by simp [manyT]
  | s :: t :: r => by
    have := sg_len (sgC w) (t :: r)
    rw [manyT]
    simp only [List.length_append, List.length_cons, List.flatten_cons, List.length_nil] at this ⊢
    omega
theorem few_eq {s : Sg} (h1 : s.ht < 40) (h2 : s.sok) (h3 : s.pl) (μ : Mem) : callF (F_in_few_words 40) [.d s.d] μ = .ok (.d (few s).d) μ := call_pure rfl (few_ok 40 s h1 h2 h3)
end Mok05
set_option autoImplicit false
set_option maxHeartbeats 1000000
namespace Mok05
open PySem PySem.Spec PyProof.Rows L2
variable [Wd]
section
variable {α : Type} [DecidableEq α] {d : α → PyData}
end
end Mok05
set_option autoImplicit false
set_option maxHeartbeats 1000000
namespace Mok05
open PySem PySem.Spec PyProof.Rows L2
variable [Wd]
end Mok05
set_option autoImplicit false
set_option maxHeartbeats 1000000
namespace Mok05
open PySem PySem.Spec PyProof.Rows L2
variable [Wd]
end Mok05
set_option autoImplicit false
set_option maxHeartbeats 4000000
namespace Mok05
open PySem PySem.Spec PyProof.Rows L2
variable [Wd]
end Mok05
set_option autoImplicit false
set_option maxHeartbeats 4000000
namespace Mok05
open PySem PySem.Spec PyProof.Rows L2
variable [Wd]
end Mok05
set_option autoImplicit false
set_option maxHeartbeats 4000000
namespace Mok05
open PySem PySem.Spec PyProof.Rows L2
variable [Wd]
end Mok05
set_option autoImplicit false
set_option maxHeartbeats 4000000
namespace Mok05
open PySem PySem.Spec PyProof.Rows L2
variable [Wd]
end Mok05
set_option autoImplicit false
set_option maxHeartbeats 4000000
namespace Mok05
open PySem PySem.Spec PyProof.Rows L2
variable [Wd]
end Mok05
set_option autoImplicit false
set_option maxHeartbeats 4000000
namespace Mok05
open PySem PySem.Spec PyProof.Rows L2
variable [Wd]
end Mok05
set_option autoImplicit false
set_option maxHeartbeats 4000000
namespace Mok05
open PySem PySem.Spec PyProof.Rows L2
variable [Wd]
end Mok05
set_option autoImplicit false
set_option maxHeartbeats 4000000
namespace Mok05
open PySem PySem.Spec PyProof.Rows L2
variable [Wd]
open Classical in
noncomputable def opMinE : Op
  | [w, z], μ => match listsV w μ with
    | some [] => some (z, μ)
    | some (x :: xs) => if LikeOk (x :: xs) then some (.d (PySem.W.minD x xs), μ) else none
    | _ => none
  | _, _ => none
open Classical in
noncomputable def opMaxE : Op
  | [w, z], μ => match listsV w μ with
    | some [] => some (z, μ)
    | some (x :: xs) => if LikeOk (x :: xs) then some (.d (PySem.W.maxD x xs), μ) else none
    | _ => none
  | _, _ => none
theorem gdO_of {ct : Ct} {Z : WX} {K : PySem.W.Frag} {f : Op} {m : Ms} {σ : L2.St} {H : Hp} {μ : Mem} {ws : List W} {Q : VK} (g : Gd K ct Z m σ H (ofO (f ws μ)) (PV K Q)) : GdO K m H (f ws μ) Q := by
  unfold GdO
  cases e : f ws μ with
  | none => rw [e] at g; exact g
  | some p => rw [e] at g; exact fun m' H' v e' h' r' => g m' H' e' h' v r'
section
variable {X : Cx} {ct : Ct} {Z : WX} {x : Str} {p pos : Pos} {id : String} {ks : List Str} {o : Op}
def CallO1 (X : Cx) (id : String) (k : Str) (o : Op) : Prop :=
  ∀ (pins : List (Addr × Obj)) (s : Shared) (σ : L2.St) (H : Hp) (x z : V) (u v : Value) (Q : VK), Inv X pins σ H s → RelV x u → RelV z v → (∃ m μ w y, RV X.K m H w x ∧ RV X.K m H y z ∧ RH X.K m H μ ∧ GdO X.K m H (o [w, y] μ) Q) → wpAny (model X.prog X.w) X.A (call (.builtin id) [u] [(k, v)]) (EP X pins σ Q) X.xe s
def dP1K (f : Op) (da dk : DE) : DE := fun ρ μ => bnd (da ρ μ) fun w μ1 => bnd (dk ρ μ1) fun z μ2 => ofO (f [w, z] μ2)
theorem mCall1K {k : Str} (hc : CallO1 X id k o) {e e2 : Expr} {kpos : Pos} {da dk : DE} (ha : ME X ct Z e da) (hk : ME X ct Z e2 dk) (hm : X.mg x = none) (hg : Gl X x := by rfl) (hv : bootBuiltins x = some (.builtin id) := by decide +kernel)
    (hn : x ≠ "__name__" := by decide) (hdb : (x == ("__debug__" : Str)) = false := by decide)
    (he : backTo pos (starEach [e] X.env) = (false, eval e X.env) :: backTo pos (starEach [] X.env) := by rfl) (hpl : (backTo pos (starEach [e] X.env)).any (·.1) = false := by rfl) (hs : starEach [e] X.env = (false, eval e X.env) :: starEach [] X.env := by rfl) :
    ME X ct Z (.Call (.Name x p) [e] [⟨some k, e2, kpos⟩] pos) (dP1K o da dk) := by
  have hr : CallRK X (.builtin id) [k] fun vs zs H Q => ∃ v u m μ w y, vs = [v] ∧ zs = [u] ∧ RV X.K m H w v ∧ RV X.K m H y u ∧ RH X.K m H μ ∧ GdO X.K m H (o [w, y] μ) Q := by
    intro pins s σ H xs zs us ws Q I r1 r2 h
    obtain ⟨v, u, m, μ, w, y, rfl, rfl, a, b, hh, g⟩ := h
    obtain ⟨u1, rfl, c1⟩ := vals1 r1
    obtain ⟨u2, rfl, c2⟩ := vals1 r2
    exact hc pins s σ H v u u1 u2 Q I c1 c2 ⟨m, μ, w, y, a, b, hh, g⟩
  refine ⟨pe_imp (pe_callBK hr hg hm hv (pa_cons ha.pe pa_nil (hs := hs)) (pk_cons hk.pe pk_nil) hn hdb he hpl rfl rfl rfl) fun σ H Q h => ?_⟩
  obtain ⟨m, ρ, μ, hρ, hh, g⟩ := h
  refine ⟨m, ρ, μ, hρ, hh, (Gd.bnd g).mono fun w μ1 m1 H1 e1 h1 g1 v r1 => ?_⟩
  refine ⟨m1, ρ, μ1, hρ.ext e1, h1, (Gd.bnd g1).mono fun y μ2 m2 H2 e2 h2 g2 z r2 => ?_⟩
  exact ⟨v, z, m2, μ2, w, y, rfl, rfl, r1.ext e2, r2, h2, gdO_of g2⟩
theorem minE_op (hc : X.calm = true) (hu : X.A.units + 66 < cLine) : CallO1 X "min" "default" opMinE := by
  intro pins s σ H x z u v Q I r1 r2 h
  obtain ⟨m, μ, w, y, a, b, hh, g⟩ := h
  unfold opMinE at g
  dsimp only at g
  split at g
  · rename_i e
    obtain ⟨l, vs, rfl, hs, hd⟩ := lists_ok a hh e
    obtain rfl : u = Value.ref l := r1
    obtain ⟨its, rv, pl, hz⟩ := I.list hs
    cases hd
    cases rv
    refine PySem.W.min_list_default (xs := []) (as := []) (I.ok.hd hc) pl.isList .nil (by simp [PySem.W.AlikeAll]) (by simp [PyData.depthAll]; omega) (fun _ h' tk hkp => ?_) fun y ys i v h' tk bs e => nomatch e
    have I' : Inv X pins σ H { s with heap := h', toks := tk } := I.kept hkp
    exact ⟨_, H, I', r2, g _ _ _ (.refl _ _) hh b⟩
  · rename_i y0 ys0 e
    split at g
    · rename_i hk
      obtain ⟨l, vs, rfl, hs, hd⟩ := lists_ok a hh e
      obtain rfl : u = Value.ref l := r1
      obtain ⟨its, rv, pl, hz⟩ := I.list hs
      obtain ⟨as, rs⟩ := Dp.readsAll I _ _ _ (hd.dp hk.2.1) rv
      refine PySem.W.min_list_default (I.ok.hd hc) pl.isList (by simpa using rs) hk.1 (by have := hk.2.2; omega) (fun e => nomatch e) fun y ys i v h' tk bs e hi hr hkp => ?_
      cases e
      have I' : Inv X pins σ H { s with heap := h', toks := tk } := I.kept hkp
      obtain ⟨u, h1, h2⟩ := pick_of I' rv hd hk.2.1 hi hr
      exact ⟨u, H, I', h1, g _ _ _ (.refl _ _) hh h2⟩
    · exact g.elim
  · exact g.elim
theorem maxE_op (hc : X.calm = true) (hu : X.A.units + 66 < cLine) : CallO1 X "max" "default" opMaxE := by
  intro pins s σ H x z u v Q I r1 r2 h
  obtain ⟨m, μ, w, y, a, b, hh, g⟩ := h
  unfold opMaxE at g
  dsimp only at g
  split at g
  · rename_i e
    obtain ⟨l, vs, rfl, hs, hd⟩ := lists_ok a hh e
    obtain rfl : u = Value.ref l := r1
    obtain ⟨its, rv, pl, hz⟩ := I.list hs
    cases hd
    cases rv
    refine PySem.W.max_list_default (xs := []) (as := []) (I.ok.hd hc) pl.isList .nil (by simp [PySem.W.AlikeAll]) (by simp [PyData.depthAll]; omega) (fun _ h' tk hkp => ?_) fun y ys i v h' tk bs e => nomatch e
    have I' : Inv X pins σ H { s with heap := h', toks := tk } := I.kept hkp
    exact ⟨_, H, I', r2, g _ _ _ (.refl _ _) hh b⟩
  · rename_i y0 ys0 e
    split at g
    · rename_i hk
      obtain ⟨l, vs, rfl, hs, hd⟩ := lists_ok a hh e
      obtain rfl : u = Value.ref l := r1
      obtain ⟨its, rv, pl, hz⟩ := I.list hs
      obtain ⟨as, rs⟩ := Dp.readsAll I _ _ _ (hd.dp hk.2.1) rv
      refine PySem.W.max_list_default (I.ok.hd hc) pl.isList (by simpa using rs) hk.1 (by have := hk.2.2; omega) (fun e => nomatch e) fun y ys i v h' tk bs e hi hr hkp => ?_
      cases e
      have I' : Inv X pins σ H { s with heap := h', toks := tk } := I.kept hkp
      obtain ⟨u, h1, h2⟩ := pick_of I' rv hd hk.2.1 hi hr
      exact ⟨u, H, I', h1, g _ _ _ (.refl _ _) hh h2⟩
    · exact g.elim
  · exact g.elim
end
section
variable {μ : Mem} {ρ : Env} {P : W → Mem → Prop}
@[simp] theorem ok_dP1K {f : Op} {a b : DE} : Ok (dP1K f a b ρ μ) P = Ok (a ρ μ) fun w μ1 => Ok (b ρ μ1) fun z μ2 => OkO (f [w, z] μ2) P := by simp [dP1K]
@[simp] theorem okO_minE0 {z : W} : OkO (opMinE [.d (.list []), z] μ) P = P z μ := rfl
@[simp] theorem okO_maxE0 {z : W} : OkO (opMaxE [.d (.list []), z] μ) P = P z μ := rfl
theorem like_ints (l : List Int) : LikeOk (l.map .int) := by
  refine ⟨⟨?_, ?_⟩, ?_, ?_⟩
  · intro x hx y hy
    obtain ⟨i, _, rfl⟩ := List.mem_map.mp hx
    obtain ⟨j, _, rfl⟩ := List.mem_map.mp hy
    rfl
  · intro x hx
    obtain ⟨i, _, rfl⟩ := List.mem_map.mp hx
    exact fun h => nomatch h
  · induction l with
    | nil => rfl
    | cons i l ih => simp only [List.map_cons, PyData.canLayAll0, Bool.and_eq_true]; exact ⟨rfl, ih⟩
  · induction l with
    | nil => simp [PyData.depthAll]
    | cons i l ih => simp only [List.map_cons, PyData.depthAll]; simpa [PyData.depth] using ih
theorem okO_maxE {i : Int} {l : List Int} {z : W} : OkO (opMaxE [.d (.list ((i :: l).map .int)), z] μ) P = P (.d (PySem.W.maxD (.int i) (l.map .int))) μ := by
  have h := like_ints (i :: l)
  rw [List.map_cons] at h
  rw [List.map_cons]
  unfold opMaxE
  dsimp only [listsV]
  rw [if_pos h]
  rfl
end
end Mok05
set_option autoImplicit false
set_option maxHeartbeats 4000000
namespace Mok05
open PySem PySem.Spec PyProof.Rows L2
variable [Wd]
section
variable {K : PySem.W.Frag} {L : Addr → Prop} {a : Addr} {H H' : Hp}
end
section
variable {K : PySem.W.Frag} {m : Ms} {a : Addr} {H H' : Hp}
end
end Mok05
set_option autoImplicit false
set_option maxHeartbeats 4000000
namespace Mok05
open PySem PySem.Spec PyProof.Rows L2
variable [Wd]
end Mok05
set_option autoImplicit false
set_option maxHeartbeats 4000000
namespace Mok05
open PySem PySem.Spec PyProof.Rows L2
variable [Wd]
section
variable {X : Cx} {ct : Ct} {Z : WX} {tg : Expr}
end
section
variable {μ : Mem} {ρ : Env} {N B C : Env → Mem → Prop} {R : W → Mem → Prop}
end
end Mok05
set_option autoImplicit false
namespace Mok05
open PySem PySem.Spec PyProof.Rows L2
variable [Wd]
end Mok05
set_option autoImplicit false
namespace Mok05
variable [Wd]
open PySem PySem.Spec PyProof.Rows L2
def GfAt (K : PySem.W.Frag) (mg : Str → Option Value) (x : Str) : Prop := ∃ f, mg x = some (.ref f) ∧ PySem.W.nsIn K mainGlobals x = some (some (.ref f))
theorem gfAt_of {K : PySem.W.Frag} {mg : Str → Option Value} {h : Heap} {x : Str} {f : Addr} (X : K.In h) (G : h.Ns mainGlobals mg) (a : PySem.W.nsIn K mainGlobals x = some (some (.ref f))) : GfAt K mg x := ⟨f, PySem.W.mg_of X G a, a⟩
def dGf (x : Str) : DE := fun _ μ => .ok (.o (.gf x)) μ
noncomputable def forW (i : Nat) (b : DS) : List W → DS
  | [], ρ, μ => .nx ρ μ
  | w :: r, ρ, μ => match b (ρ.set i (some w)) μ with
    | .nx ρ2 μ2 => forW i b r ρ2 μ2
    | .ct ρ2 μ2 => forW i b r ρ2 μ2
    | .bk ρ2 μ2 => .nx ρ2 μ2
    | o => o
noncomputable def sForW (da : DA) (i : Nat) (b : DS) : DS := fun ρ μ => match da ρ μ with
  | .ok ws μ1 => if ws.length ≤ 1000 then forW i b ws ρ μ1 else .bad
  | .exc x μ1 => .exc x ρ μ1
  | .bad => .bad
def fnOf (x : Str) : List (Str × Fn) → Option Fn
  | [] => none
  | p :: r => if p.1 = x then some p.2 else fnOf x r
def dCallW (i : Nat) (t : List (Str × Fn)) (da : DA) : DE := fun ρ μ => match ρ[i]? with
  | some (some (.o (.gf x))) => match fnOf x t with
    | some F => bnd (da ρ μ) fun ws μ1 => callF F ws μ1
    | none => .bad
  | _ => .bad
section
variable {X : Cx} {ct : Ct} {Z : WX}
theorem mGf {x : Str} {pos : Pos} (G : GfAt X.K X.mg x) (hg : Gl X x := by rfl) (hd : (x == ("__debug__" : Str)) = false := by decide) : ME X ct Z (.Name x pos) (dGf x) := by
  obtain ⟨f, h1, h2⟩ := G
  refine ⟨pe_imp (pe_glob (v := .ref f) hg h1 rfl (hd := hd)) fun σ H Q h => ?_⟩
  obtain ⟨m, ρ, μ, he, hh, g⟩ := h
  exact g m H (.refl m H) hh (.ref f) ⟨f, rfl, h2⟩
theorem sz1000 {n : Nat} (h : n ≤ 1000) : n ≤ sizeLine := Nat.le_trans h (by decide)
theorem msForW {es : List Expr} {x1 : Nat} {pt px pos : Pos} {i : Nat} {x : Str} {body : List Stmt} {da : DA} {db : DS} (hp : PassesOwn (model X.prog X.w) X.A X.env X.xe) (hc : X.calm = true) (ha : MA X ct Z es da) (hN : X.N.Nodup) (hb : MSs X ct Z body db)
    (hi : X.N[i]? = some x := by rfl) (hx : Loc X.env.scope x := by first | exact Or.inl rfl | exact Or.inr rfl) (hf : X.fn x = true ∨ X.env.scope.names.lookup x = some .local := by first | exact Or.inl rfl | exact Or.inr rfl)
    (hs : ∀ y, foldedSetIterable (.Tuple es x1 pt) X.env y = pure y := by intro _; rfl) : MS X ct Z (.For (.Name x px) (.Tuple es x1 pt) body [] pos) (sForW da i db) := by
  refine ⟨ps_imp (ps_for hp hc (pi_tup (pe_tupF ha.pa)) (pg_name hN hi hx hf) hb.pss hs) fun D σ H q => ?_⟩
  obtain ⟨m, ρ, μ, he, hh, gg⟩ := q
  refine ⟨m, ρ, μ, he, hh, ?_⟩
  unfold sForW at gg
  cases ed : da ρ μ with
  | ok ws μ1 =>
    rw [ed] at gg
    dsimp only at gg
    split at gg
    rotate_left
    · exact gg.elim
    rename_i hl
    intro m1 H1 e1 h1 us rv
    have hlen : ws.length = us.length := Paired.length rv
    refine ⟨sz1000 (by rw [← hlen]; exact hl), fun p o hd hp => ⟨p, rfl, ⟨us, .inl (.inr ⟨o, upd_same⟩)⟩, ?_⟩⟩
    have ex := Ext.laid (m := m1) hp (.frz o (.tup us))
    have sq : SqT X.K (upd H1 p (.frz o (.tup us))) p us := .inl (.inr ⟨o, upd_same⟩)
    have rv := RVs.ext rv ex
    refine ⟨fun j k σ' H' => j + k = us.length ∧ ∃ m' ρ' μ', Ext m1 (upd H1 p (.frz o (.tup us))) m' H' ∧ EnvR X.K m' H' ρ' σ' ∧ RH X.K m' H' μ' ∧ Gs X.K ct Z D m' H' (forW i db (ws.drop j) ρ' μ'), ⟨us.length, by omega, m1, ρ, μ1, .refl _ _, (he.ext e1).ext ex, h1.laid hp _, by simpa using Gs.ext (Gs.ext gg e1) ex⟩, fun j k σ' H' h => ?_⟩
    obtain ⟨hik, m', ρ', μ', e', he', hh', g'⟩ := h
    have sq' : SqT X.K H' p us := sqT_stay e'.ks sq
    by_cases hlt : j < us.length
    · refine .inr ?_
      have hlt2 : j < ws.length := by omega
      rw [List.drop_eq_getElem_cons hlt2] at g'
      simp only [forW] at g'
      refine ⟨⟨us, us[j], sq', List.getElem?_eq_getElem _⟩, fun σ2 H2 => ∃ m2 ρ2 μ2, Ext m1 (upd H1 p (.frz o (.tup us))) m2 H2 ∧ EnvR X.K m2 H2 ρ2 σ2 ∧ RH X.K m2 H2 μ2 ∧ Gs X.K ct Z D m2 H2 (forW i db (ws.drop (j + 1)) ρ2 μ2), fun σ2 H2 z => ⟨k - 1, by omega, by omega, z⟩, fun y H2 hy => ?_⟩
      obtain ⟨rfl, hy⟩ := hy
      have hy := hy us sq'
      obtain ⟨v, hv, rvj⟩ := paired_get (RVs.ext rv e') (List.getElem?_eq_getElem hlt2)
      rw [hy] at hv
      cases hv
      refine ⟨m', _, μ', he'.set rvj i, hh', ?_⟩
      cases eb : db (ρ'.set i (some ws[j])) μ' with
      | nx ρ2 μ2 => rw [eb] at g'; exact fun m4 σ4 H4 e4 h4 hρ => ⟨m4, ρ2, μ2, e'.trans e4, hρ, h4, Gs.ext g' e4⟩
      | ct ρ2 μ2 => rw [eb] at g'; exact fun m4 σ4 H4 e4 h4 hρ => ⟨m4, ρ2, μ2, e'.trans e4, hρ, h4, Gs.ext g' e4⟩
      | bk ρ2 μ2 => rw [eb] at g'; exact g'
      | rt w μ2 => rw [eb] at g'; exact g'
      | exc x ρ2 μ2 => rw [eb] at g'; exact g'
      | bad => rw [eb] at g'; exact g'
    · refine .inl ?_
      have hj : j = us.length := by omega
      subst hj
      rw [← hlen, List.drop_length] at g'
      exact ⟨⟨us, sq', Nat.le_refl _⟩, g' m' σ' H' (.refl _ _) hh' he'⟩
  | exc x μ1 => rw [ed] at gg; exact fun m' H' cls dd e h' r => gg m' σ H' cls dd e h' (he.ext e) r
  | bad => rw [ed] at gg; exact gg
def FnW (X : Cx) (ct : Ct) (p : Str × Fn) : Prop := ∃ k, CalG X.prog X.w X.K X.mg X.base ct k p.1 p.2 [] ∧ Room k X.A ∧ GfAt X.K X.mg p.1
theorem fnOf_mem {x : Str} {F : Fn} : ∀ {t : List (Str × Fn)}, fnOf x t = some F → (x, F) ∈ t
  | p :: r, h => by
    unfold fnOf at h
    split at h
    · rename_i e
      cases h
      subst e
      exact List.mem_cons_self
    · exact List.mem_cons_of_mem _ (fnOf_mem h)
def FnWs (X : Cx) (ct : Ct) (t : List (Str × Fn)) : Prop := ∀ q ∈ t, FnW X ct q
theorem fnw_nil : FnWs X ct [] := fun _ h => nomatch h
theorem fnw_cons {k : Nat} {x : Str} {F : Fn} {t : List (Str × Fn)} (c : CalG X.prog X.w X.K X.mg X.base ct k x F []) (hr : Room k X.A) (G : GfAt X.K X.mg x) (r : FnWs X ct t) : FnWs X ct ((x, F) :: t) := fun q hq => by
  rcases List.mem_cons.mp hq with rfl | hq
  · exact ⟨k, c, hr, G⟩
  · exact r q hq
theorem mCallW {i : Nat} {x : Str} {p pos : Pos} {e : Expr} {es : List Expr} {da : DA} {t : List (Str × Fn)} (ht : FnWs X ct t) (hgd : X.A.guards = some []) (tk : Takes X Z) (ha : MA X ct Z (e :: es) da)
    (hN : X.N[i]? = some x := by rfl) (hv : Vis X.env.scope x := by first | exact Or.inl rfl | exact Or.inr (Or.inl rfl) | exact Or.inr (Or.inr rfl)) (hd : (x == ("__debug__" : Str)) = false := by decide) (hcd : (x == ("__classdict__" : Str)) = false := by decide)
    (he : starEach (e :: es) X.env = (false, eval e X.env) :: starEach es X.env := by rfl) (hpl : (backTo pos (starEach es X.env)).any (·.1) = false := by rfl) : ME X ct Z (.Call (.Name x p) (e :: es) [] pos) (dCallW i t da) := by
  refine ⟨⟨fun pins s σ H Q I h => ?_⟩⟩
  obtain ⟨m, ρ, μ, hρ, hh, g⟩ := h
  unfold dCallW at g
  split at g
  rotate_left
  · exact g.elim
  rename_i y hy
  split at g
  rotate_left
  · exact g.elim
  rename_i F hF
  obtain ⟨v, hσ, rv⟩ := hρ.at_ i _ hy
  obtain ⟨f, rfl, hn⟩ := (show OthR X.K m H (.gf y) v from rv)
  obtain ⟨k, c, hr, f2, hm2, hn2⟩ := ht _ (fnOf_mem hF)
  rw [hn] at hn2
  cases hn2
  obtain ⟨f', fd, ps, ds, dvs, G, hm, hk, hb, hdd, hD⟩ := c.ex
  rw [hm2] at hm
  cases hm
  refine wpAny_Call_Name_kw (thn ((pe_var (pos := p) (i := i) hN hv hd hcd).run pins s σ H (fun v H1 => v = .ref f ∧ H1 = H) I ⟨.ref f, hσ, rfl, rfl⟩) fun u s1 hu => ?_)
  obtain ⟨v1, H1, I1, r1, rfl, rfl⟩ := hu
  cases (show u = Value.ref f from r1)
  refine PySem.W.callWith_K (h₀ := X.base) I.ok.mod.kin hk (thn (ha.pa.run pos pins s1 σ H1 (fun vs H1 => ∃ m μ ws, RVs X.K m H1 ws vs ∧ RH X.K m H1 μ ∧ Gd X.K ct Z m σ H1 (callF F (ws ++ [].map W.d) μ) (PV X.K Q)) I1
    ⟨m, ρ, μ, hρ, hh, (Gd.bnd g).mono fun ws μ1 m1 H1 e1 h1 g1 vs r1 => ⟨m1, μ1, ws, r1, h1, by simpa using g1⟩⟩) fun us s1 ⟨vs, H1, I1, r, m1, μ1, ws, r1, h1, g1⟩ => ⟨I1.kIn, ?_⟩) he hpl
  exact fn_run G hb hdd hD hr hgd tk I1 r r1 h1 g1
noncomputable def lcW (i : Nat) (f : Env → List PyData → Mem → Res (List PyData)) (ρ : Env) : List W → List PyData → Mem → Res (List PyData)
  | [], acc, μ => .ok acc μ
  | w :: r, acc, μ => bnd (f (ρ.set i (some w)) acc μ) fun acc1 μ1 => lcW i f ρ r acc1 μ1
end
end Mok05
set_option autoImplicit false
namespace Mok05
open PySem PySem.Spec PyProof.Rows L2
variable [Wd]
section
variable {ρ : Env} {μ : Mem} {N B C : Env → Mem → Prop} {R : W → Mem → Prop} {Pw : W → Mem → Prop}
@[simp] theorem ok_dGf {x : Str} : Ok (dGf x ρ μ) Pw = Pw (.o (.gf x)) μ := rfl
@[simp] theorem oks_sForW {da : DA} {i : Nat} {b : DS} : Oks (sForW da i b ρ μ) N R B C = Ok (da ρ μ) fun ws μ1 => if ws.length ≤ 1000 then Oks (forW i b ws ρ μ1) N R B C else False := by
  unfold sForW
  cases da ρ μ with
  | ok ws μ1 => dsimp only [ok_ok]; split <;> rfl
  | exc _ _ => rfl
  | bad => rfl
@[simp] theorem oks_forW0 {i : Nat} {b : DS} : Oks (forW i b [] ρ μ) N R B C = N ρ μ := rfl
theorem oks_forW1 {i : Nat} {b : DS} {w : W} {r : List W} : Oks (forW i b (w :: r) ρ μ) N R B C = Oks (b (ρ.set i (some w)) μ) (fun ρ1 μ1 => Oks (forW i b r ρ1 μ1) N R B C) R N (fun ρ1 μ1 => Oks (forW i b r ρ1 μ1) N R B C) := by
  rw [forW]
  cases b (ρ.set i (some w)) μ <;> rfl
theorem ok_dCallW {i : Nat} {t : List (Str × Fn)} {da : DA} {x : Str} {F : Fn} (h : ρ[i]? = some (some (.o (.gf x)))) (hF : fnOf x t = some F) : Ok (dCallW i t da ρ μ) Pw = Ok (da ρ μ) fun ws μ1 => Ok (callF F ws μ1) Pw := by
  unfold dCallW
  rw [h]
  dsimp only
  rw [hF, ok_bnd]
@[simp] theorem ok_lcW0 {i : Nat} {f : Env → List PyData → Mem → Res (List PyData)} {acc : List PyData} {Pa : List PyData → Mem → Prop} : Ok (lcW i f ρ [] acc μ) Pa = Pa acc μ := rfl
end
def occT (i j : Str) : Bool := !(Builtin.Str.occurrences j i 0 j.length 1).isEmpty
theorem occT_of {x y : Str} {p q : List Nat} (h : cp x = p ++ cp y ++ q) : occT y x = true := by
  unfold occT
  rw [StrLaws.found_iff]
  refine ⟨p.length, ?_, ?_⟩
  · have := congrArg List.length h
    simp only [List.length_append] at this
    show p.length + (cp y).length ≤ (cp x).length
    omega
  · rw [StrLaws.subAt_eq]
    show ((cp x).drop p.length).take (cp y).length == cp y
    rw [h, List.append_assoc, List.drop_left, List.take_left]
    exact beq_self_eq_true _
def nub : List Str → List Str
  | [] => []
  | a :: l => if a ∈ l then nub l else a :: nub l
theorem mem_nub {x : Str} : ∀ {l : List Str}, x ∈ nub l ↔ x ∈ l
  | [] => Iff.rfl
  | a :: l => by
    unfold nub
    split
    · rename_i h
      rw [mem_nub, List.mem_cons]
      exact ⟨.inr, fun z => z.elim (fun z => z ▸ h) id⟩
    · rw [List.mem_cons, List.mem_cons, mem_nub]
theorem nub_nd : ∀ l : List Str, (nub l).Nodup
  | [] => .nil
  | a :: l => by
    unfold nub
    split
    · exact nub_nd l
    · rename_i h
      exact List.nodup_cons.mpr ⟨fun z => h (mem_nub.mp z), nub_nd l⟩
theorem nub_self : ∀ {l : List Str}, l.Nodup → nub l = l
  | [], _ => rfl
  | a :: l, h => by
    have h := List.nodup_cons.mp h
    unfold nub
    rw [if_neg h.1, nub_self h.2]
def opLenS : Op
  | [w], μ => match seqV w μ with
    | some xs => match strsD xs with
      | some ss => if (nub ss).length < 63 then some (.d (.int (nub ss).length), μ) else none
      | none => none
    | none => none
  | _, _ => none
section
variable {X : Cx} {ct : Ct} {Z : WX}
def rLenS (P : Program) (w : World) (vs : List V) (H : Hp) (Q : VK) : Prop := ∃ (p : Addr) (l : List Str), vs = [.ref p] ∧ H p = some (TxO P w p l) ∧ l.length ≤ 1000 ∧ Q (.int l.length) H
theorem cr_lenS : CallR X (.builtin "len") (rLenS X.prog X.w) := by
  intro pins s σ H xs us Q I r h
  obtain ⟨p, l, rfl, hp, hl, q⟩ := h
  rw [Vals.ref1 r]
  obtain ⟨⟨D, ho, F, _⟩, nd⟩ := txO_get I hp
  exact call_len_set (es := D.1) (ep := D.2.1) (t := D.2.2) ho ⟨rfl, rfl, rfl⟩ rfl F.fit (by rw [F.sz]; omega) ⟨.int l.length, H, I.tok _, ⟨_, by rw [F.sz]⟩, q⟩
theorem mLenS {a : Expr} {da : DE} {p1 p2 q1 q2 : Pos} (hc : X.calm = true) (ha : ME X ct Z a da) (hm : X.mg "len" = none) (hm2 : X.mg "set" = none) (hg : Gl X "len" := by rfl) (hg2 : Gl X "set" := by rfl)
    (h1 : starEach [.Call (.Name "set" p2) [a] [] q2] X.env = [(false, eval (.Call (.Name "set" p2) [a] [] q2) X.env)] := by rfl) (h2 : starEach [a] X.env = [(false, eval a X.env)] := by rfl) :
    ME X ct Z (.Call (.Name "len" p1) [.Call (.Name "set" p2) [a] [] q2] [] q1) (dP1 opLenS da) := by
  have s1 := pe_callTy (p := p2) (pos := q2) (cr_setS (X := X) hc) hg2 hm2 (by decide +kernel) (pa_cons ha.pe pa_nil h2) (by decide) (by decide) h2 rfl
  have s2 := pe_callB (p := p1) (pos := q1) (cr_lenS (X := X)) hg hm (by decide +kernel) (pa_cons s1 pa_nil h1) (by decide) (by decide) h1 rfl
  refine ⟨pe_imp s2 fun σ H Q h => ?_⟩
  obtain ⟨m, ρ, μ, he, hh, g⟩ := t1_of h
  refine ⟨m, ρ, μ, he, hh, g.mono fun w μ1 m1 H1 e1 h1 k v r1 => ?_⟩
  obtain ⟨m2, μ2, ws, r2, h3, g2⟩ := k v r1
  obtain ⟨w2, rfl, r3⟩ : ∃ w, ws = [w] ∧ RV X.K m2 H1 w v := by
    cases r2 with
    | cons a b => cases b; exact ⟨_, rfl, a⟩
  unfold opLenS at g2
  dsimp only at g2
  split at g2
  rotate_left
  · exact g2.elim
  rename_i xs hx
  split at g2
  rotate_left
  · exact g2.elim
  rename_i ss hss
  split at g2
  rotate_left
  · exact g2.elim
  rename_i few
  obtain ⟨a, vs, rfl, hs, hd⟩ := seq_ok r3 h3 hx
  have := strs_all hd hss
  subst this
  refine ⟨a, ss, nub ss, rfl, hs, fun n hn => mem_nub.mpr hn, few, fun p l nd hl hp => ⟨p, l, rfl, upd_same, ?_, ?_⟩⟩
  · have e : l.length = (nub ss).length := ((List.perm_ext_iff_of_nodup nd (nub_nd ss)).mpr fun x => (hl x).trans mem_nub.symm).length_eq
    omega
  · have e : l.length = (nub ss).length := ((List.perm_ext_iff_of_nodup nd (nub_nd ss)).mpr fun x => (hl x).trans mem_nub.symm).length_eq
    rw [e]
    exact g2 m2 _ _ (.laid hp _) (h3.laid hp _) (.int _)
end
theorem okO_lenS {ss : List Str} {μ : Mem} {P : W → Mem → Prop} (h : (nub ss).length < 63) : OkO (opLenS [.d (.list (ss.map .str))] μ) P = P (.d (.int (nub ss).length)) μ := by
  simp [opLenS, seqV, h]
theorem nub_map {α : Type} {f g : α → Str} : ∀ {l : List α}, (∀ a ∈ l, ∀ b ∈ l, f a = f b ↔ g a = g b) → (nub (l.map f)).length = (nub (l.map g)).length
  | [], _ => rfl
  | a :: l, h => by
    have ih := nub_map (l := l) fun x hx y hy => h x (List.mem_cons_of_mem _ hx) y (List.mem_cons_of_mem _ hy)
    have e : f a ∈ l.map f ↔ g a ∈ l.map g := by
      simp only [List.mem_map]
      constructor
      · rintro ⟨b, hb, e⟩
        exact ⟨b, hb, (h b (List.mem_cons_of_mem _ hb) a List.mem_cons_self).mp e⟩
      · rintro ⟨b, hb, e⟩
        exact ⟨b, hb, (h b (List.mem_cons_of_mem _ hb) a List.mem_cons_self).mpr e⟩
    simp only [List.map_cons, nub]
    by_cases c : f a ∈ l.map f
    · rw [if_pos c, if_pos (e.mp c), ih]
    · rw [if_neg c, if_neg fun z => c (e.mpr z), List.length_cons, List.length_cons, ih]
end Mok05
set_option autoImplicit false
set_option maxHeartbeats 1000000
namespace Mok05
open PySem PySem.Spec PyProof.Rows L2
variable [Wd]
mutual
theorem txt_len {t : Bool} : ∀ s : Sg, s.ok t → (txt s).length + 1 ≤ 6 * s.sz
  | .lt x, h => by
    have : (cp x).length = 1 := by rcases h with h | h | h <;> (subst h; decide)
    simp only [txt, Sg.sz]; omega
  | .no s, h => by have := txt_len s h; simp only [txt, Sg.sz, List.length_cons]; omega
  | .many w l, h => by
    have := txtL_len l h.1
    have := many_len w (txtL l)
    simp only [txt, Sg.sz]
    omega
  | .so a b, h => by have := txt_len a h.1; have := txt_len b h.2; simp only [txt, Sg.sz, List.length_cons, List.length_append, List.length_nil]; omega
  | .tl a b, h => by have := txt_len a h.2.1; have := txt_len b h.2.2; simp only [txt, Sg.sz, List.length_cons, List.length_append, List.length_nil]; omega
  | .mod w x s, h => by
    have := txt_len s h.2
    have : (cp x).length = 1 := by rcases h.1 with h | h <;> (subst h; decide)
    simp only [txt, Sg.sz, List.length_cons, List.length_append, List.length_nil]; omega
theorem txtL_len {t : Bool} : ∀ l : List Sg, Sg.oks t l → (txtL l).flatten.length + (txtL l).length ≤ 6 * Sg.szs l
  | [], _ => by simp [txtL]
  | s :: r, h => by have := txt_len s h.1; have := txtL_len r h.2; simp only [txtL, Sg.szs, List.flatten_cons, List.length_append, List.length_cons]; omega
end
mutual
theorem ok_wn {t : Bool} : ∀ s : Sg, s.ok t → s.wn
  | .lt x, h => by
    show 1 ≤ x.length
    rcases h with h | h | h <;> (subst h; decide)
  | .no s, h => ok_wn s h
  | .many w l, h => oks_wn l h.1
  | .so a b, h => ⟨ok_wn a h.1, ok_wn b h.2⟩
  | .tl a b, h => ⟨ok_wn a h.2.1, ok_wn b h.2.2⟩
  | .mod w x s, h => ⟨by rcases h.1 with h | h <;> (subst h; decide), ok_wn s h.2⟩
theorem oks_wn {t : Bool} : ∀ l : List Sg, Sg.oks t l → Sg.wns l
  | [], _ => trivial
  | s :: r, h => ⟨ok_wn s h.1, oks_wn r h.2⟩
end
theorem back_eq {t : Bool} {s : Sg} (h : s.ok t) (hz : s.sz ≤ 1000) (μ : Mem) : callF F_saying_text [.d s.d] μ = .ok (.d (.str (txS s))) μ ∧ callF F_saying_readX [.d (.str (txS s))] μ = .ok (.d s.d) μ := by
  have := txt_len s h
  exact ⟨text_eq2 h.sok (by omega) (by omega) μ, read_eq h.sok (ok_wn s h) (by omega) μ⟩
end Mok05
set_option autoImplicit false
namespace Mok05
open PySem PySem.Spec PyProof.Rows L2
variable [Wd]
def topS (i : Nat) : Stmt := PySem.Challenge.pw_mustmays_k05_whole_texts_there_and_back.main.body.getD i (.Pass ⟨0, 0, 0, 0⟩)
structure Facts (P : Program) (w : World) (K : PySem.W.Frag) (mg : Str → Option Value) (base : Heap) : Prop where
  hP : Wd.P = P
  hW : Wd.w = w
  d5 : DefAt K mg "is_word" (topS 5) ["thing"]
  d6 : DefAt K mg "is_saying" (topS 6) ["thing"]
  d7 : DefAt K mg "is_plain_saying" (topS 7) ["thing"]
  d8 : DefAt K mg "is_built" (topS 8) ["thing", "with_told"]
  d9 : DefAt K mg "things_within" (topS 9) ["thing", "with_told"]
  d10 : DefAt K mg "things_within_pair" (topS 10) ["word", "thing"]
  d13 : DefAt K mg "saying_read" (topS 13) ["text"]
  d14 : DefAt K mg "saying_in" (topS 14) ["text"]
  i15 : IniAt K mg "TextReader" "TextReader.__init__" (inClass (topS 15) 0) ["self", "text"]
  m15_1 : MthAt K "TextReader" "read_on" "TextReader.read_on" (inClass (topS 15) 1) ["self"]
  m15_2 : MthAt K "TextReader" "begin" "TextReader.begin" (inClass (topS 15) 2) ["self"]
  m15_3 : MthAt K "TextReader" "letter_from" "TextReader.letter_from" (inClass (topS 15) 3) ["self", "start"]
  m15_4 : MthAt K "TextReader" "begin_brackets" "TextReader.begin_brackets" (inClass (topS 15) 4) ["self"]
  m15_5 : MthAt K "TextReader" "begin_hand" "TextReader.begin_hand" (inClass (topS 15) 5) ["self", "word", "closing"]
  m15_6 : MthAt K "TextReader" "end_with" "TextReader.end_with" (inClass (topS 15) 6) ["self", "saying"]
  m15_7 : MthAt K "TextReader" "end_brackets" "TextReader.end_brackets" (inClass (topS 15) 7) ["self", "between", "some"]
  m15_8 : MthAt K "TextReader" "next_sign" "TextReader.next_sign" (inClass (topS 15) 8) ["self"]
  m15_9 : MthAt K "TextReader" "take_sign" "TextReader.take_sign" (inClass (topS 15) 9) ["self"]
  m15_10 : MthAt K "TextReader" "pass_sign" "TextReader.pass_sign" (inClass (topS 15) 10) ["self", "wanted"]
  d17 : DefAt K mg "parts_of_saying" (topS 17) ["saying"]
  d18 : DefAt K mg "letters_of" (topS 18) ["saying"]
  d19 : DefAt K mg "hands_of" (topS 19) ["saying"]
  d20 : DefAt K mg "depth_of" (topS 20) ["saying"]
  d21 : DefAt K mg "inner_sayings" (topS 21) ["saying"]
  d22 : DefAt K mg "with_inner" (topS 22) ["saying", "inner"]
  d23 : DefAt K mg "every_part" (topS 23) ["saying"]
  d24 : DefAt K mg "rising" (topS 24) ["sayings"]
  d26 : DefAt K mg "core_of" (topS 26) ["saying"]
  d27 : DefAt K mg "atoms_of" (topS 27) ["saying"]
  d29 : DefAt K mg "in_few_words" (topS 29) ["saying"]
  d32 : DefAt K mg "pushed_in" (topS 32) ["saying"]
  d33 : DefAt K mg "pushed" (topS 33) ["saying", "is_so"]
  d35 : DefAt K mg "saying_text" (topS 35) ["saying"]
  d36 : DefAt K mg "written_things" (topS 36) ["saying"]
  d37 : DefAt K mg "joined_things" (topS 37) ["some", "none", "sign"]
  d39 : DefAt K mg "told_out" (topS 39) ["saying"]
  d40 : DefAt K mg "said_behind" (topS 40) ["saying", "told"]
  d42 : DefAt K mg "_law_feed" (topS 42) ["_law_script"]
  d43 : DefAt K mg "_law_draw" (topS 43) ["_law_feed_here", "_law_many"]
  d44 : DefAt K mg "_law_saying" (topS 44) ["_law_feed_here", "_law_left", "_law_told"]
  d45 : DefAt K mg "_law_back" (topS 45) ["_law_s"]
  d46 : DefAt K mg "_law_once" (topS 46) ["_law_some"]
  d47 : DefAt K mg "_law_is_right" (topS 47) ["_law_s"]
  d48 : DefAt K mg "_law_plain_right" (topS 48) ["_law_s"]
  d49 : DefAt K mg "law" (topS 49) ["_law_script"]
  gf_core_of : GfAt K mg "core_of"
  gf_in_few_words : GfAt K mg "in_few_words"
  gf_pushed_in : GfAt K mg "pushed_in"
  gf_told_out : GfAt K mg "told_out"
  c15 : ClassAt K mg "TextReader" ["text", "at", "begun", "failed"]
  z_all : mg "all" = none
  z_isinstance : mg "isinstance" = none
  z_len : mg "len" = none
  z_list : mg "list" = none
  z_max : mg "max" = none
  z_range : mg "range" = none
  z_repr : mg "repr" = none
  z_set : mg "set" = none
  z_sorted : mg "sorted" = none
  z_str : mg "str" = none
  z_tuple : mg "tuple" = none
  g_MOST_SIGNS : GlobAt K mg "MOST_SIGNS" (.int 8)
  g_OTHER_WORDS : GDict K w mg "OTHER_WORDS" otherW
  g_WORDS_OF_SIGNS : GDict K w mg "WORDS_OF_SIGNS" signsW
  x2 : XcAt K mg "NoText" "NoText.__init__" (inClass (topS 2) 0) ["self", "line", "word"] ["line", "word"]
section
variable {P : Program} {w : World} {K : PySem.W.Frag} {mg : Str → Option Value} {base : Heap}
abbrev st_NoText_x : Stmt := inClass (topS 2) 0
theorem sc_NoText_x : FnScope ["self", "line", "word"] ["self", "line", "word"] (C8.fnScope st_NoText_x) := ⟨rfl, rfl, rfl, by decide +kernel, rfl, by decide +kernel, by decide +kernel⟩
theorem x_NoText (T : Facts P w K mg base) : CalX P w K mg base 1 "NoText" ["line", "word"] (spX2 K "line" "word") := calX_of T.x2 fun f fd Fu => C8.fn0 Fu sc_NoText_x (fun vs H Q E h => x2_len rfl h) (fun cdv A outer s H vs Q E hr h => ⟨_, pss_cons (ps_ost (pv 0) (pv 1)) (pss_one (ps_ost (pv 0) (pv 2))), x2_run h⟩)
abbrev st_is_word : Stmt := topS 5
theorem sc_is_word : FnScope ["thing", "sign"] ["thing"] (C8.fnScope st_is_word) := ⟨rfl, rfl, rfl, by decide +kernel, rfl, by decide +kernel, by decide +kernel⟩
theorem c_is_word (T : Facts P w K mg base) : CalG P w K mg base (ctK K) 1 "is_word" F_is_word [] := calG_of (k := 0) 1 2 T.d5 sc_is_word rfl rfl fun f cdv A outer s H E hr hg => by
  have nd := sc_is_word.nd
  have hu := hu_room hr
  exact (msCons (msIf (MW.mt (mOr (mNot (mTv (mIsi (mV 0) T.z_isinstance T.z_str))) (mOr1 (mNot (mTchain op2_leT op2_leT mI (mCallB len_opA (mCons (mV 0) mNil) T.z_len) (mG T.g_MOST_SIGNS))))))
  (msOne (msRet mB)) msNil)
  (msOne (msRet (mCallB (all_op rfl) (mCons (mLc (ow := false) (own := [("sign", 1)]) rfl nd (miVs (mV 0)) (blkOk_by (N := ["thing", "sign"]) (sc := C8.fnScope st_is_word) (own := [("sign", 1)]) (by decide +kernel)) (by decide) (fun _ _ _ _ _ => (mgN 1 nd)) (fun _ _ _ _ _ => mpNil) (fun _ _ _ _ _ => (mChain op2_leT op2_leT mS (mV 1) mS))) mNil) T.z_all))))
abbrev st_things_within_pair : Stmt := topS 10
theorem sc_things_within_pair : FnScope ["word", "thing"] ["word", "thing"] (C8.fnScope st_things_within_pair) := ⟨rfl, rfl, rfl, by decide +kernel, rfl, by decide +kernel, by decide +kernel⟩
theorem c_things_within_pair (T : Facts P w K mg base) : CalG P w K mg base (ctK K) 2 "things_within_pair" F_things_within_pair [] := calG_of (k := 1) 2 2 T.d10 sc_things_within_pair rfl rfl fun f cdv A outer s H E hr hg => by
  have nd := sc_things_within_pair.nd
  have hu := hu_room hr
  exact (msCons (msIf (MW.mt (mAnd (mTcmp (op2_eq (hu4 hu)) (mV 0) mS) (mAnd1 (mTv (mCall (c_is_word T) (hr.mono (by omega)) hg def_takes (mCons (mV 1) mNil))))))
  (msOne (msRet (mTup mNil))) msNil)
  (msCons (msIf (mTcmp (op2_eq (hu4 hu)) (mV 0) mS)
  (msOne (msRet (mTup (mCons (mV 1) mNil)))) msNil)
  (msCons (msIf (MW.mt (mAnd (mTcmp (op2_inA hu) (mV 0) (mTup (mCons mS (mCons mS mNil)))) (mAnd1 (mTv (mIsi (mV 1) T.z_isinstance T.z_tuple)))))
  (msOne (msRet (mV 1))) msNil)
  (msOne (msRet mN)))))
abbrev st_things_within : Stmt := topS 9
theorem sc_things_within : FnScope ["thing", "with_told", "word"] ["thing", "with_told"] (C8.fnScope st_things_within) := ⟨rfl, rfl, rfl, by decide +kernel, rfl, by decide +kernel, by decide +kernel⟩
theorem c_things_within (T : Facts P w K mg base) : CalG P w K mg base (ctK K) 3 "things_within" F_things_within [] := calG_of (k := 2) 2 3 T.d9 sc_things_within rfl rfl fun f cdv A outer s H E hr hg => by
  have nd := sc_things_within.nd
  have hu := hu_room hr
  exact (msCons (msIf (MW.mt (mOr (mNot (mTv (mIsi (mV 0) T.z_isinstance T.z_tuple))) (mOr1 (mTcmp (op2_notinA hu) (mCallB len_opA (mCons (mV 0) mNil) T.z_len) (mTup (mCons mI (mCons mI mNil)))))))
  (msOne (msRet mN)) msNil)
  (msCons (msSet (i := 2) nd (mIxA hu (mV 0) mI))
  (msCons (msIf (mTcmp (op2_eq (hu4 hu)) (mCallB len_opA (mCons (mV 0) mNil) T.z_len) mI)
  (msOne (msRet (mCall (c_things_within_pair T) (hr.mono (by omega)) hg def_takes (mCons (mV 2) (mCons (mIxA hu (mV 0) mI) mNil))))) msNil)
  (msCons (msIf (MW.mt (mOr (mTcmp (op2_eq (hu4 hu)) (mV 2) mS) (mOr1 (MW.mt (mAnd (mTcmp (op2_eq (hu4 hu)) (mV 2) mS) (mAnd1 (mTv (mV 1))))))))
  (msOne (msRet (mSl (own := false) (mV 0) (moPart mI) moNo))) msNil)
  (msCons (msIf (MW.mt (mAnd (mTcmp (op2_inA hu) (mV 2) (mTup (mCons mS (mCons mS mNil)))) (mAnd1 (mTv (mCall (c_is_word T) (hr.mono (by omega)) hg def_takes (mCons (mIxA hu (mV 0) mI) mNil))))))
  (msOne (msRet (mSl (own := false) (mV 0) (moPart mI) moNo))) msNil)
  (msOne (msRet mN)))))))
abbrev st_is_built : Stmt := topS 8
theorem sc_is_built : FnScope ["thing", "with_told", "waiting", "within"] ["thing", "with_told"] (C8.fnScope st_is_built) := ⟨rfl, rfl, rfl, by decide +kernel, rfl, by decide +kernel, by decide +kernel⟩
theorem c_is_built (T : Facts P w K mg base) : CalG P w K mg base (ctK K) 4 "is_built" F_is_built [] := calG_of (k := 3) 2 4 T.d8 sc_is_built rfl rfl fun f cdv A outer s H E hr hg => by
  have nd := sc_is_built.nd
  have hu := hu_room hr
  exact (msCons (msSet (i := 2) nd (mLst (own := true) (mCons (mV 0) mNil)))
  (msCons (msWhile 100000 def_owns (mTv (mV 2))
  (msCons (msSet (i := 3) nd (mCall (c_things_within T) (hr.mono (by omega)) hg def_takes (mCons (mMt0 PySem.F.plainAttrs_list PySem.F.slot_list_pop PySem.F.type_list_pop pop_op (mV 2)) (mCons (mV 1) mNil))))
  (msCons (msIf (mTcmp op2_is (mV 3) mN)
  (msOne (msRet mB)) msNil)
  (msOne (msExpr (mMt PySem.F.plainAttrs_list PySem.F.slot_list_extend PySem.F.type_list_extend extend_op (mV 2) (mCons (mV 3) mNil)))))))
  (msOne (msRet mB))))
abbrev st_is_saying : Stmt := topS 6
theorem sc_is_saying : FnScope ["thing"] ["thing"] (C8.fnScope st_is_saying) := ⟨rfl, rfl, rfl, by decide +kernel, rfl, by decide +kernel, by decide +kernel⟩
theorem c_is_saying (T : Facts P w K mg base) : CalG P w K mg base (ctK K) 5 "is_saying" F_is_saying [] := calG_of (k := 4) 1 1 T.d6 sc_is_saying rfl rfl fun f cdv A outer s H E hr hg => by
  have nd := sc_is_saying.nd
  have hu := hu_room hr
  exact (msOne (msRet (mCall (c_is_built T) (hr.mono (by omega)) hg def_takes (mCons (mV 0) (mCons mB mNil)))))
abbrev st_is_plain_saying : Stmt := topS 7
theorem sc_is_plain_saying : FnScope ["thing"] ["thing"] (C8.fnScope st_is_plain_saying) := ⟨rfl, rfl, rfl, by decide +kernel, rfl, by decide +kernel, by decide +kernel⟩
theorem c_is_plain_saying (T : Facts P w K mg base) : CalG P w K mg base (ctK K) 5 "is_plain_saying" F_is_plain_saying [] := calG_of (k := 4) 1 1 T.d7 sc_is_plain_saying rfl rfl fun f cdv A outer s H E hr hg => by
  have nd := sc_is_plain_saying.nd
  have hu := hu_room hr
  exact (msOne (msRet (mCall (c_is_built T) (hr.mono (by omega)) hg def_takes (mCons (mV 0) (mCons mB mNil)))))
abbrev st_TextReader___init__ : Stmt := inClass (topS 15) 0
theorem sc_TextReader___init__ : FnScope ["self", "text"] ["self", "text"] (C8.fnScope st_TextReader___init__) := ⟨rfl, rfl, rfl, by decide +kernel, rfl, by decide +kernel, by decide +kernel⟩
theorem c_TextReader___init__ (T : Facts P w K mg base) : CalI P w K mg base (ctK K) 1 "TextReader" F_rd_init := calI_of (k := 0) 2 2 T.i15 sc_TextReader___init__ rfl rfl fun f cdv A outer s H E hr hg => by
  have nd := sc_TextReader___init__.nd
  have hu := hu_room hr
  unfold B_rd_init
  exact (msCons (msAtG (j := 0) T.c15 (mV 1) (mV 0))
  (msCons (msAtG (j := 0) T.c15 mI (mV 0))
  (msCons (msAtG (j := 1) T.c15 (mLst (own := true) mNil) (mV 0))
  (msOne (msAtG (j := 0) T.c15 mB (mV 0))))))
abbrev st_TextReader_next_sign : Stmt := inClass (topS 15) 8
theorem sc_TextReader_next_sign : FnScope ["self"] ["self"] (C8.fnScope st_TextReader_next_sign) := ⟨rfl, rfl, rfl, by decide +kernel, rfl, by decide +kernel, by decide +kernel⟩
theorem c_TextReader_next_sign (T : Facts P w K mg base) : CalM P w K mg base (ctK K) 1 "TextReader" "next_sign" F_rd_next := calM_of (k := 0) 1 1 T.m15_8 sc_TextReader_next_sign rfl rfl fun f cdv A outer s H E hr hg => by
  have nd := sc_TextReader_next_sign.nd
  have hu := hu_room hr
  unfold B_rd_next
  exact (msOne (msRet (mSl (own := false) (mAtG T.c15 (mV 0)) (moPart (mAtG T.c15 (mV 0))) (moPart (mBin (op2_add (own := false)) (mAtG T.c15 (mV 0)) mI)))))
abbrev st_TextReader_take_sign : Stmt := inClass (topS 15) 9
theorem sc_TextReader_take_sign : FnScope ["self", "sign"] ["self"] (C8.fnScope st_TextReader_take_sign) := ⟨rfl, rfl, rfl, by decide +kernel, rfl, by decide +kernel, by decide +kernel⟩
theorem c_TextReader_take_sign (T : Facts P w K mg base) : CalM P w K mg base (ctK K) 2 "TextReader" "take_sign" F_rd_take := calM_of (k := 1) 1 2 T.m15_9 sc_TextReader_take_sign rfl rfl fun f cdv A outer s H E hr hg => by
  have nd := sc_TextReader_take_sign.nd
  have hu := hu_room hr
  unfold B_rd_take
  exact (msCons (msSet (i := 1) nd (mMethG0 (c_TextReader_next_sign T) (hr.mono (by omega)) hg def_takes (mV 0)))
  (msCons (msAugG T.c15 (mV 0) mI opi_add)
  (msOne (msRet (mV 1)))))
abbrev st_TextReader_letter_from : Stmt := inClass (topS 15) 3
theorem sc_TextReader_letter_from : FnScope ["self", "start", "word"] ["self", "start"] (C8.fnScope st_TextReader_letter_from) := ⟨rfl, rfl, rfl, by decide +kernel, rfl, by decide +kernel, by decide +kernel⟩
theorem c_TextReader_letter_from (T : Facts P w K mg base) : CalM P w K mg base (ctK K) 2 "TextReader" "letter_from" F_rd_letter := calM_of (k := 1) 2 3 T.m15_3 sc_TextReader_letter_from rfl rfl fun f cdv A outer s H E hr hg => by
  have nd := sc_TextReader_letter_from.nd
  have hu := hu_room hr
  unfold B_rd_letter
  exact (msCons (msWhile 100000 def_owns (mTchain op2_leT op2_leT mS (mMethG0 (c_TextReader_next_sign T) (hr.mono (by omega)) hg def_takes (mV 0)) mS)
  (msOne (msAugG T.c15 (mV 0) mI opi_add)))
  (msCons (msSet (i := 2) nd (mSl (own := false) (mAtG T.c15 (mV 0)) (moPart (mV 1)) (moPart (mAtG T.c15 (mV 0)))))
  (msCons (msIf (mNot (mTv (mCall (c_is_word T) (hr.mono (by omega)) hg def_takes (mCons (mV 2) mNil))))
  (msOne (msAtG (j := 0) T.c15 mB (mV 0))) msNil)
  (msOne (msRet (mTup (mCons mS (mCons (mV 2) mNil))))))))
abbrev st_TextReader_begin_brackets : Stmt := inClass (topS 15) 4
theorem sc_TextReader_begin_brackets : FnScope ["self", "sign"] ["self"] (C8.fnScope st_TextReader_begin_brackets) := ⟨rfl, rfl, rfl, by decide +kernel, rfl, by decide +kernel, by decide +kernel⟩
theorem c_TextReader_begin_brackets (T : Facts P w K mg base) : CalM P w K mg base (ctK K) 2 "TextReader" "begin_brackets" F_rd_brackets := calM_of (k := 1) 1 2 T.m15_4 sc_TextReader_begin_brackets rfl rfl fun f cdv A outer s H E hr hg => by
  have nd := sc_TextReader_begin_brackets.nd
  have hu := hu_room hr
  unfold B_rd_brackets
  exact (msCons (msSet (i := 1) nd (mMethG0 (c_TextReader_next_sign T) (hr.mono (by omega)) hg def_takes (mV 0)))
  (msOne (msIf (mTcmp (op2_inA hu) (mV 1) (mTup (mCons mS (mCons mS mNil))))
  (msCons (msAugG T.c15 (mV 0) mI opi_add)
  (msOne (msExpr (mMt PySem.F.plainAttrs_list PySem.F.slot_list_append PySem.F.type_list_append append_op (mAtG T.c15 (mV 0)) (mCons (mTup (mCons (mV 1) mNil)) mNil))))) (msOne (msExpr (mMt PySem.F.plainAttrs_list PySem.F.slot_list_append PySem.F.type_list_append append_op (mAtG T.c15 (mV 0)) (mCons (mTup (mCons mS (mCons mS mNil))) mNil)))))))
abbrev st_TextReader_begin_hand : Stmt := inClass (topS 15) 5
theorem sc_TextReader_begin_hand : FnScope ["self", "word", "closing", "end", "hand"] ["self", "word", "closing"] (C8.fnScope st_TextReader_begin_hand) := ⟨rfl, rfl, rfl, by decide +kernel, rfl, by decide +kernel, by decide +kernel⟩
theorem c_TextReader_begin_hand (T : Facts P w K mg base) : CalM P w K mg base (ctK K) 2 "TextReader" "begin_hand" F_rd_hand := calM_of (k := 1) 3 5 T.m15_5 sc_TextReader_begin_hand rfl rfl fun f cdv A outer s H E hr hg => by
  have nd := sc_TextReader_begin_hand.nd
  have hu := hu_room hr
  unfold B_rd_hand
  exact (msCons (msSet (i := 3) nd (mMt PySem.F.plainAttrs_str PySem.F.slot_str_find PySem.F.type_str_find find_op (mAtG T.c15 (mV 0)) (mCons (mV 2) (mCons (mAtG T.c15 (mV 0)) mNil))))
  (msCons (msSet (i := 4) nd (mSl (own := false) (mAtG T.c15 (mV 0)) (moPart (mAtG T.c15 (mV 0))) (moPart (mCallB (max_op rfl) (mCons (mV 3) (mCons (mAtG T.c15 (mV 0)) mNil)) T.z_max))))
  (msCons (msIf (mNot (mTv (mCall (c_is_word T) (hr.mono (by omega)) hg def_takes (mCons (mV 4) mNil))))
  (msOne (msAtG (j := 0) T.c15 mB (mV 0))) msNil)
  (msCons (msExpr (mMt PySem.F.plainAttrs_list PySem.F.slot_list_append PySem.F.type_list_append append_op (mAtG T.c15 (mV 0)) (mCons (mTup (mCons (mV 1) (mCons (mV 4) mNil))) mNil)))
  (msOne (msAtG (j := 0) T.c15 (mBin (op2_add (own := false)) (mV 3) mI) (mV 0)))))))
abbrev st_TextReader_begin : Stmt := inClass (topS 15) 2
theorem sc_TextReader_begin : FnScope ["self", "sign"] ["self"] (C8.fnScope st_TextReader_begin) := ⟨rfl, rfl, rfl, by decide +kernel, rfl, by decide +kernel, by decide +kernel⟩
theorem c_TextReader_begin (T : Facts P w K mg base) : CalM P w K mg base (ctK K) 3 "TextReader" "begin" F_rd_begin := calM_of (k := 2) 1 2 T.m15_2 sc_TextReader_begin rfl rfl fun f cdv A outer s H E hr hg => by
  have nd := sc_TextReader_begin.nd
  have hu := hu_room hr
  unfold B_rd_begin
  exact (msCons (msSet (i := 1) nd (mMethG0 (c_TextReader_take_sign T) (hr.mono (by omega)) hg def_takes (mV 0)))
  (msCons (msIf (mTcmp (op2_eq (hu4 hu)) (mV 1) mS)
  (msOne (msRet (mTup (mCons mS (mCons (mTup mNil) mNil))))) msNil)
  (msCons (msIf (mTcmp (op2_eq (hu4 hu)) (mV 1) mS)
  (msOne (msRet (mTup (mCons mS (mCons (mTup mNil) mNil))))) msNil)
  (msCons (msIf (mTchain op2_leT op2_leT mS (mV 1) mS)
  (msOne (msRet (mMethG (c_TextReader_letter_from T) (hr.mono (by omega)) hg def_takes (mV 0) (mCons (mBin op2_sub (mAtG T.c15 (mV 0)) mI) mNil)))) msNil)
  (msCons (msIf (mTcmp (op2_eq (hu4 hu)) (mV 1) mS)
  (msOne (msExpr (mMt PySem.F.plainAttrs_list PySem.F.slot_list_append PySem.F.type_list_append append_op (mAtG T.c15 (mV 0)) (mCons (mTup (mCons mS mNil)) mNil)))) (msOne (msIf (mTcmp (op2_eq (hu4 hu)) (mV 1) mS)
  (msOne (msExpr (mMt PySem.F.plainAttrs_list PySem.F.slot_list_append PySem.F.type_list_append append_op (mAtG T.c15 (mV 0)) (mCons (mTup (mCons mS mNil)) mNil)))) (msOne (msIf (mTcmp (op2_eq (hu4 hu)) (mV 1) mS)
  (msOne (msExpr (mMethG0 (c_TextReader_begin_brackets T) (hr.mono (by omega)) hg def_takes (mV 0)))) (msOne (msIf (mTcmp (op2_eq (hu4 hu)) (mV 1) mS)
  (msOne (msExpr (mMethG (c_TextReader_begin_hand T) (hr.mono (by omega)) hg def_takes (mV 0) (mCons mS (mCons mS mNil))))) (msOne (msIf (mTcmp (op2_eq (hu4 hu)) (mV 1) mS)
  (msOne (msExpr (mMethG (c_TextReader_begin_hand T) (hr.mono (by omega)) hg def_takes (mV 0) (mCons mS (mCons mS mNil))))) (msOne (msAtG (j := 0) T.c15 mB (mV 0))))))))))))
  (msOne (msRet mN)))))))
abbrev st_TextReader_pass_sign : Stmt := inClass (topS 15) 10
theorem sc_TextReader_pass_sign : FnScope ["self", "wanted"] ["self", "wanted"] (C8.fnScope st_TextReader_pass_sign) := ⟨rfl, rfl, rfl, by decide +kernel, rfl, by decide +kernel, by decide +kernel⟩
theorem c_TextReader_pass_sign (T : Facts P w K mg base) : CalM P w K mg base (ctK K) 3 "TextReader" "pass_sign" F_rd_pass := calM_of (k := 2) 2 2 T.m15_10 sc_TextReader_pass_sign rfl rfl fun f cdv A outer s H E hr hg => by
  have nd := sc_TextReader_pass_sign.nd
  have hu := hu_room hr
  unfold B_rd_pass
  exact (msOne (msIf (mTcmp (op2_ne (hu4 hu)) (mMethG0 (c_TextReader_take_sign T) (hr.mono (by omega)) hg def_takes (mV 0)) (mV 1))
  (msOne (msAtG (j := 0) T.c15 mB (mV 0))) msNil))
abbrev st_TextReader_end_brackets : Stmt := inClass (topS 15) 7
theorem sc_TextReader_end_brackets : FnScope ["self", "between", "some", "sign"] ["self", "between", "some"] (C8.fnScope st_TextReader_end_brackets) := ⟨rfl, rfl, rfl, by decide +kernel, rfl, by decide +kernel, by decide +kernel⟩
theorem c_TextReader_end_brackets (T : Facts P w K mg base) : CalM P w K mg base (ctK K) 3 "TextReader" "end_brackets" F_rd_endb := calM_of (k := 2) 3 4 T.m15_7 sc_TextReader_end_brackets rfl rfl fun f cdv A outer s H E hr hg => by
  have nd := sc_TextReader_end_brackets.nd
  have hu := hu_room hr
  unfold B_rd_endb
  exact (msCons (msSet (i := 3) nd (mMethG0 (c_TextReader_take_sign T) (hr.mono (by omega)) hg def_takes (mV 0)))
  (msCons (msIf (MW.mt (mAnd (mTcmp (op2_eq (hu4 hu)) (mV 3) mS) (mAnd1 (mTcmp (op2_inA hu) (mV 1) (mTup (mCons mS (mCons mS mNil)))))))
  (msOne (msRet (mTup (mCons (mKD T.g_WORDS_OF_SIGNS (mV 1)) (mCons (mV 2) mNil))))) msNil)
  (msCons (msIf (MW.mt (mAnd (mTcmp (op2_eq (hu4 hu)) (mV 3) mS) (mAnd1 (mTcmp (op2_eq (hu4 hu)) (mV 1) mS))))
  (msOne (msRet (mTup (mCons mS (mStar (mV 2) mNil))))) msNil)
  (msCons (msIf (MW.mt (mAnd (mTcmp (op2_inA hu) (mV 3) (mTup (mCons mS (mCons mS (mCons mS mNil))))) (mAnd1 (MW.mt (mOr (mTcmp (op2_eq (hu4 hu)) (mV 1) mS) (mOr1 (MW.mt (mAnd (mTcmp (op2_eq (hu4 hu)) (mV 3) (mV 1)) (mAnd1 (mTcmp (op2_ne (hu4 hu)) (mV 3) mS))))))))))
  (msOne (msExpr (mMt PySem.F.plainAttrs_list PySem.F.slot_list_append PySem.F.type_list_append append_op (mAtG T.c15 (mV 0)) (mCons (mTup (mCons mS (mCons (mV 3) (mStar (mV 2) mNil)))) mNil)))) (msOne (msAtG (j := 0) T.c15 mB (mV 0))))
  (msOne (msRet mN))))))
abbrev st_TextReader_end_with : Stmt := inClass (topS 15) 6
theorem sc_TextReader_end_with : FnScope ["self", "saying", "last", "word"] ["self", "saying"] (C8.fnScope st_TextReader_end_with) := ⟨rfl, rfl, rfl, by decide +kernel, rfl, by decide +kernel, by decide +kernel⟩
theorem c_TextReader_end_with (T : Facts P w K mg base) : CalM P w K mg base (ctK K) 4 "TextReader" "end_with" F_rd_end := calM_of (k := 3) 2 4 T.m15_6 sc_TextReader_end_with rfl rfl fun f cdv A outer s H E hr hg => by
  have nd := sc_TextReader_end_with.nd
  have hu := hu_room hr
  unfold B_rd_end
  exact (msCons (msSet (i := 2) nd (mMt0 PySem.F.plainAttrs_list PySem.F.slot_list_pop PySem.F.type_list_pop pop_op (mAtG T.c15 (mV 0))))
  (msCons (msSet (i := 3) nd (mIxA hu (mV 2) mI))
  (msCons (msIf (MW.mt (mOr (mTcmp (op2_inA hu) (mV 3) (mTup (mCons mS (mCons mS (mCons mS mNil))))) (mOr1 (MW.mt (mAnd (mTcmp (op2_eq (hu4 hu)) (mV 3) mS) (mAnd1 (mTcmp (op2_eq (hu4 hu)) (mCallB len_opA (mCons (mV 2) mNil) T.z_len) mI)))))))
  (msOne (msRet (mTup (mStar (mV 2) (mCons (mV 1) mNil))))) msNil)
  (msCons (msIf (mTcmp (op2_eq (hu4 hu)) (mV 3) mS)
  (msCons (msExpr (mMethG (c_TextReader_pass_sign T) (hr.mono (by omega)) hg def_takes (mV 0) (mCons mS mNil)))
  (msCons (msExpr (mMt PySem.F.plainAttrs_list PySem.F.slot_list_append PySem.F.type_list_append append_op (mAtG T.c15 (mV 0)) (mCons (mTup (mCons (mV 3) (mCons (mV 1) mNil))) mNil)))
  (msOne (msRet mN)))) msNil)
  (msCons (msIf (mTcmp (op2_eq (hu4 hu)) (mV 3) mS)
  (msOne (msRet (mMethG (c_TextReader_end_brackets T) (hr.mono (by omega)) hg def_takes (mV 0) (mCons (mIxA hu (mV 2) mI) (mCons (mTup (mStar (mSl (own := false) (mV 2) (moPart mI) moNo) (mCons (mV 1) mNil))) mNil))))) msNil)
  (msCons (msExpr (mMethG (c_TextReader_pass_sign T) (hr.mono (by omega)) hg def_takes (mV 0) (mCons mS mNil)))
  (msOne (msRet (mTup (mCons (mKD T.g_WORDS_OF_SIGNS (mV 3)) (mCons (mTup (mCons (mV 1) mNil)) mNil)))))))))))
abbrev st_TextReader_read_on : Stmt := inClass (topS 15) 1
theorem sc_TextReader_read_on : FnScope ["self", "saying"] ["self"] (C8.fnScope st_TextReader_read_on) := ⟨rfl, rfl, rfl, by decide +kernel, rfl, by decide +kernel, by decide +kernel⟩
theorem c_TextReader_read_on (T : Facts P w K mg base) : CalM P w K mg base (ctK K) 5 "TextReader" "read_on" F_rd_on := calM_of (k := 4) 1 2 T.m15_1 sc_TextReader_read_on rfl rfl fun f cdv A outer s H E hr hg => by
  have nd := sc_TextReader_read_on.nd
  have hu := hu_room hr
  unfold B_rd_on
  exact (msCons (msSet (i := 1) nd (mMethG0 (c_TextReader_begin T) (hr.mono (by omega)) hg def_takes (mV 0)))
  (msCons (msWhile 100000 def_owns (MW.mt (mAnd (mTcmp op2_isnot (mV 1) mN) (mAnd1 (mTv (mAtG T.c15 (mV 0))))))
  (msOne (msSet (i := 1) nd (mMethG (c_TextReader_end_with T) (hr.mono (by omega)) hg def_takes (mV 0) (mCons (mV 1) mNil)))))
  (msOne (msRet (mV 1)))))
abbrev st_saying_in : Stmt := topS 14
theorem sc_saying_in : FnScope ["text", "reader", "saying"] ["text"] (C8.fnScope st_saying_in) := ⟨rfl, rfl, rfl, by decide +kernel, rfl, by decide +kernel, by decide +kernel⟩
theorem c_saying_in (T : Facts P w K mg base) : CalG P w K mg base (ctK K) 6 "saying_in" F_saying_in [] := calG_of (k := 5) 1 3 T.d14 sc_saying_in rfl rfl fun f cdv A outer s H E hr hg => by
  have nd := sc_saying_in.nd
  have hu := hu_room hr
  unfold B_saying_in
  exact (msCons (msSet (i := 1) nd (mMakeQ (kk := 1) (c_TextReader___init__ T) (hr.mono (by omega)) hg def_takes (mCons (mV 0) mNil)))
  (msCons (msSet (i := 2) nd mN)
  (msCons (msWhile 100000 def_owns (MW.mt (mAnd (mTcmp op2_is (mV 2) mN) (mAnd1 (mNot (mTv (mAtG T.c15 (mV 1)))))))
  (msOne (msSet (i := 2) nd (mMethG0 (c_TextReader_read_on T) (hr.mono (by omega)) hg def_takes (mV 1)))))
  (msCons (msIf (MW.mt (mOr (mTv (mAtG T.c15 (mV 1))) (mOr1 (mTcmp (op2_lt hu) (mAtG T.c15 (mV 1)) (mCallB len_opA (mCons (mV 0) mNil) T.z_len)))))
  (msOne (msRet mN)) msNil)
  (msOne (msRet (mV 2)))))))
abbrev st_saying_read : Stmt := topS 13
theorem sc_saying_read : FnScope ["text", "saying"] ["text"] (C8.fnScope st_saying_read) := ⟨rfl, rfl, rfl, by decide +kernel, rfl, by decide +kernel, by decide +kernel⟩
theorem c_saying_read (T : Facts P w K mg base) : CalG P w K mg base (ctK K) 7 "saying_read" F_saying_readX [] := calG_of (k := 6) 1 2 T.d13 sc_saying_read rfl rfl fun f cdv A outer s H E hr hg => by
  have nd := sc_saying_read.nd
  have hu := hu_room hr
  unfold B_saying_readX
  exact (msCons (msSet (i := 1) nd (mCall (c_saying_in T) (hr.mono (by omega)) hg def_takes (mCons (mV 0) mNil)))
  (msCons (msIf (mTcmp op2_is (mV 1) mN)
  (msOne (msRaise2 (x_NoText T) (hr.mono (by omega)) def_takes (mCons mI (mCons mI mNil)))) msNil)
  (msOne (msRet (mV 1)))))
abbrev st_rising : Stmt := topS 24
theorem sc_rising : FnScope ["sayings", "told", "saying"] ["sayings"] (C8.fnScope st_rising) := ⟨rfl, rfl, rfl, by decide +kernel, rfl, by decide +kernel, by decide +kernel⟩
theorem c_rising (T : Facts P w K mg base) : CalG P w K mg base (ctK K) 1 "rising" risingF [] := calG_of (k := 0) 1 3 T.d24 sc_rising rfl rfl fun f cdv A outer s H E hr hg => by
  have nd := sc_rising.nd
  have hu := hu_room hr
  exact (msCons (msSet (i := 1) nd (mLst (own := true) mNil))
  (msCons (msFor def_owns rfl (miV (mCallB (sorted_op hu (own := false)) (mCons (mV 0) mNil) T.z_sorted)) (mgN 2 nd)
  (msOne (msIf (MW.mt (mOr (mNot (mTv (mV 1))) (mOr1 (mTcmp (op2_ne (hu4 hu)) (mIxA hu (mV 1) (mUn op1_neg mI)) (mV 2)))))
  (msOne (msExpr (mMt PySem.F.plainAttrs_list PySem.F.slot_list_append PySem.F.type_list_append append_op (mV 1) (mCons (mV 2) mNil)))) msNil)))
  (msOne (msRet (mCallT tu_op (mCons (mV 1) mNil) T.z_tuple)))))
abbrev st_inner_sayings : Stmt := topS 21
theorem sc_inner_sayings : FnScope ["saying", "word"] ["saying"] (C8.fnScope st_inner_sayings) := ⟨rfl, rfl, rfl, by decide +kernel, rfl, by decide +kernel, by decide +kernel⟩
theorem c_inner_sayings (T : Facts P w K mg base) : CalG P w K mg base (ctK K) 1 "inner_sayings" innerF [] := calG_of (k := 0) 1 2 T.d21 sc_inner_sayings rfl rfl fun f cdv A outer s H E hr hg => by
  have nd := sc_inner_sayings.nd
  have hu := hu_room hr
  exact (msCons (msSet (i := 1) nd (mIxA hu (mV 0) mI))
  (msCons (msIf (mTcmp (op2_eq (hu4 hu)) (mV 1) mS)
  (msOne (msRet (mTup mNil))) msNil)
  (msCons (msIf (mTcmp (op2_inA hu) (mV 1) (mTup (mCons mS (mCons mS mNil))))
  (msOne (msRet (mIxA hu (mV 0) mI))) msNil)
  (msCons (msIf (mTcmp (op2_inA hu) (mV 1) (mTup (mCons mS (mCons mS mNil))))
  (msOne (msRet (mSl (own := false) (mV 0) (moPart mI) moNo))) msNil)
  (msOne (msRet (mSl (own := false) (mV 0) (moPart mI) moNo)))))))
abbrev st_every_part : Stmt := topS 23
theorem sc_every_part : FnScope ["saying", "found", "waiting", "part"] ["saying"] (C8.fnScope st_every_part) := ⟨rfl, rfl, rfl, by decide +kernel, rfl, by decide +kernel, by decide +kernel⟩
theorem c_every_part (T : Facts P w K mg base) : CalG P w K mg base (ctK K) 2 "every_part" everyF [] := calG_of (k := 1) 1 4 T.d23 sc_every_part rfl rfl fun f cdv A outer s H E hr hg => by
  have nd := sc_every_part.nd
  have hu := hu_room hr
  exact (msCons (msSet (i := 1) nd (mLst (own := true) mNil))
  (msCons (msSet (i := 2) nd (mLst (own := true) (mCons (mV 0) mNil)))
  (msCons (msWhile 100000 def_owns (mTv (mV 2))
  (msCons (msSet (i := 3) nd (mMt0 PySem.F.plainAttrs_list PySem.F.slot_list_pop PySem.F.type_list_pop pop_op (mV 2)))
  (msCons (msExpr (mMt PySem.F.plainAttrs_list PySem.F.slot_list_append PySem.F.type_list_append append_op (mV 1) (mCons (mV 3) mNil)))
  (msOne (msExpr (mMt PySem.F.plainAttrs_list PySem.F.slot_list_extend PySem.F.type_list_extend extend_op (mV 2) (mCons (mCall (c_inner_sayings T) (hr.mono (by omega)) hg def_takes (mCons (mV 3) mNil)) mNil)))))))
  (msLet 1 (msOne (msRet (mV 1)))))))
abbrev st_parts_of_saying : Stmt := topS 17
theorem sc_parts_of_saying : FnScope ["saying"] ["saying"] (C8.fnScope st_parts_of_saying) := ⟨rfl, rfl, rfl, by decide +kernel, rfl, by decide +kernel, by decide +kernel⟩
theorem c_parts_of_saying (T : Facts P w K mg base) : CalG P w K mg base (ctK K) 3 "parts_of_saying" partsF [] := calG_of (k := 2) 1 1 T.d17 sc_parts_of_saying rfl rfl fun f cdv A outer s H E hr hg => by
  have nd := sc_parts_of_saying.nd
  have hu := hu_room hr
  exact (msOne (msRet (mCall (c_rising T) (hr.mono (by omega)) hg def_takes (mCons (mCall (c_every_part T) (hr.mono (by omega)) hg def_takes (mCons (mV 0) mNil)) mNil))))
abbrev st_letters_of : Stmt := topS 18
theorem sc_letters_of : FnScope ["saying", "part"] ["saying"] (C8.fnScope st_letters_of) := ⟨rfl, rfl, rfl, by decide +kernel, rfl, by decide +kernel, by decide +kernel⟩
theorem c_letters_of (T : Facts P w K mg base) : CalG P w K mg base (ctK K) 3 "letters_of" lettersF [] := calG_of (k := 2) 1 2 T.d18 sc_letters_of rfl rfl fun f cdv A outer s H E hr hg => by
  have nd := sc_letters_of.nd
  have hu := hu_room hr
  exact (msOne (msRet (mCallT tu_op (mCons (mSortSc (own := [("part", 1)]) rfl nd (miV (mCall (c_every_part T) (hr.mono (by omega)) hg def_takes (mCons (mV 0) mNil))) (blkOk_by (N := ["saying", "part"]) (sc := C8.fnScope st_letters_of) (own := [("part", 1)]) (by decide +kernel)) (by decide) (fun _ _ _ _ _ => (mgN 1 nd)) (fun _ _ _ _ _ => (mpOne (mTcmp (op2_eq (hu4 hu)) (mIxA hu (mV 1) mI) mS))) (fun _ _ _ _ _ => (mIxA hu (mV 1) mI)) T.z_sorted) mNil) T.z_tuple)))
abbrev st_hands_of : Stmt := topS 19
theorem sc_hands_of : FnScope ["saying", "part"] ["saying"] (C8.fnScope st_hands_of) := ⟨rfl, rfl, rfl, by decide +kernel, rfl, by decide +kernel, by decide +kernel⟩
theorem c_hands_of (T : Facts P w K mg base) : CalG P w K mg base (ctK K) 3 "hands_of" handsF [] := calG_of (k := 2) 1 2 T.d19 sc_hands_of rfl rfl fun f cdv A outer s H E hr hg => by
  have nd := sc_hands_of.nd
  have hu := hu_room hr
  exact (msOne (msRet (mCallT tu_op (mCons (mSortSc (own := [("part", 1)]) rfl nd (miV (mCall (c_every_part T) (hr.mono (by omega)) hg def_takes (mCons (mV 0) mNil))) (blkOk_by (N := ["saying", "part"]) (sc := C8.fnScope st_hands_of) (own := [("part", 1)]) (by decide +kernel)) (by decide) (fun _ _ _ _ _ => (mgN 1 nd)) (fun _ _ _ _ _ => (mpOne (mTcmp (op2_inA hu) (mIxA hu (mV 1) mI) (mTup (mCons mS (mCons mS mNil)))))) (fun _ _ _ _ _ => (mIxA hu (mV 1) mI)) T.z_sorted) mNil) T.z_tuple)))
abbrev st_depth_of : Stmt := topS 20
theorem sc_depth_of : FnScope ["saying", "part"] ["saying"] (C8.fnScope st_depth_of) := ⟨rfl, rfl, rfl, by decide +kernel, rfl, by decide +kernel, by decide +kernel⟩
noncomputable def B_depth_of (self : Fn) : DS := (sRet (dP2 (opAdd false) (dC (.int 1)) (dP1K opMaxE (dLc false (dI iV (dCall innerF [] (dCons (dV 0) dNil))) (gN 1) dYes (dCall self [] (dCons (dV 1) dNil)) [1]) (dC (.int 0)))))
noncomputable def F_depth_of : Nat → Fn
  | 0 => fun _ _ => .bad
  | n + 1 => fnF 1 2 (B_depth_of (F_depth_of n))
theorem c_depth_of (T : Facts P w K mg base) : ∀ n : Nat, CalG P w K mg base (ctK K) (1 + n) "depth_of" (F_depth_of n) []
  | 0 => calG_bad T.d20
  | n + 1 => by
    have cs := c_depth_of T n
    exact calG_of (k := 1 + n) 1 2 T.d20 sc_depth_of rfl rfl fun f cdv A outer s H E hr hg => by
      have nd := sc_depth_of.nd
      have hu := hu_room hr
      exact (msOne (msRet (mBin (op2_add (own := false)) mI (mCall1K (maxE_op rfl hu) (mLc (ow := false) (own := [("part", 1)]) rfl nd (miV (mCall (c_inner_sayings T) (hr.mono (by omega)) hg def_takes (mCons (mV 0) mNil))) (blkOk_by (N := ["saying", "part"]) (sc := C8.fnScope st_depth_of) (own := [("part", 1)]) (by decide +kernel)) (by decide) (fun _ _ _ _ _ => (mgN 1 nd)) (fun _ _ _ _ _ => mpNil) (fun _ _ _ _ _ => (mCall cs (hr.mono (by omega)) hg takesF (mCons (mV 1) mNil)))) mI T.z_max))))
abbrev st_with_inner : Stmt := topS 22
theorem sc_with_inner : FnScope ["saying", "inner", "word"] ["saying", "inner"] (C8.fnScope st_with_inner) := ⟨rfl, rfl, rfl, by decide +kernel, rfl, by decide +kernel, by decide +kernel⟩
theorem c_with_inner (T : Facts P w K mg base) : CalG P w K mg base (ctK K) 1 "with_inner" withF [] := calG_of (k := 0) 2 3 T.d22 sc_with_inner rfl rfl fun f cdv A outer s H E hr hg => by
  have nd := sc_with_inner.nd
  have hu := hu_room hr
  exact (msCons (msSet (i := 2) nd (mIxA hu (mV 0) mI))
  (msCons (msIf (mTcmp (op2_eq (hu4 hu)) (mV 2) mS)
  (msOne (msRet (mV 0))) msNil)
  (msCons (msIf (mTcmp (op2_inA hu) (mV 2) (mTup (mCons mS (mCons mS mNil))))
  (msOne (msRet (mTup (mCons (mV 2) (mCons (mV 1) mNil))))) msNil)
  (msCons (msIf (mTcmp (op2_inA hu) (mV 2) (mTup (mCons mS (mCons mS mNil))))
  (msOne (msRet (mTup (mCons (mV 2) (mCons (mIxA hu (mV 0) mI) (mStar (mV 1) mNil)))))) msNil)
  (msOne (msRet (mTup (mCons (mV 2) (mStar (mV 1) mNil)))))))))
abbrev st_core_of : Stmt := topS 26
theorem sc_core_of : FnScope ["saying", "inner", "part"] ["saying"] (C8.fnScope st_core_of) := ⟨rfl, rfl, rfl, by decide +kernel, rfl, by decide +kernel, by decide +kernel⟩
theorem c_core_of (T : Facts P w K mg base) : ∀ n : Nat, CalG P w K mg base (ctK K) (1 + n) "core_of" (coreF n) []
  | 0 => calG_bad T.d26
  | n + 1 => by
    have cs := c_core_of T n
    exact calG_of (k := 1 + n) 1 3 T.d26 sc_core_of rfl rfl fun f cdv A outer s H E hr hg => by
      have nd := sc_core_of.nd
      have hu := hu_room hr
      exact (msCons (msSet (i := 1) nd (mCallT tu_op (mCons (mLc (ow := false) (own := [("part", 2)]) rfl nd (miV (mCall (c_inner_sayings T) (hr.mono (by omega)) hg def_takes (mCons (mV 0) mNil))) (blkOk_by (N := ["saying", "inner", "part"]) (sc := C8.fnScope st_core_of) (own := [("part", 2)]) (by decide +kernel)) (by decide) (fun _ _ _ _ _ => (mgN 2 nd)) (fun _ _ _ _ _ => mpNil) (fun _ _ _ _ _ => (mCall cs (hr.mono (by omega)) hg takesF (mCons (mV 2) mNil)))) mNil) T.z_tuple))
      (msCons (msIf (mTcmp (op2_eq (hu4 hu)) (mIxA hu (mV 0) mI) mS)
      (msOne (msRet (mTup (mCons mS (mCons (mTup (mCons mS (mCons (mIxA hu (mV 0) mI) (mCons (mTup (mCons mS (mCons (mIxA hu (mV 1) mI) mNil))) mNil)))) mNil))))) msNil)
      (msOne (msRet (mCall (c_with_inner T) (hr.mono (by omega)) hg def_takes (mCons (mV 0) (mCons (mV 1) mNil)))))))
abbrev st_atoms_of : Stmt := topS 27
theorem sc_atoms_of : FnScope ["saying", "part"] ["saying"] (C8.fnScope st_atoms_of) := ⟨rfl, rfl, rfl, by decide +kernel, rfl, by decide +kernel, by decide +kernel⟩
theorem c_atoms_of (T : Facts P w K mg base) : CalG P w K mg base (ctK K) 16 "atoms_of" (atomsF 14) [] := calG_of (k := 15) 1 2 T.d27 sc_atoms_of rfl rfl fun f cdv A outer s H E hr hg => by
  have nd := sc_atoms_of.nd
  have hu := hu_room hr
  exact (msOne (msRet (mCallT tu_op (mCons (mLc (ow := false) (own := [("part", 1)]) rfl nd (miV (mCall (c_parts_of_saying T) (hr.mono (by omega)) hg def_takes (mCons (mCall (c_core_of T 14) (hr.mono (by omega)) hg def_takes (mCons (mV 0) mNil)) mNil))) (blkOk_by (N := ["saying", "part"]) (sc := C8.fnScope st_atoms_of) (own := [("part", 1)]) (by decide +kernel)) (by decide) (fun _ _ _ _ _ => (mgN 1 nd)) (fun _ _ _ _ _ => (mpOne (mTcmp (op2_inA hu) (mIxA hu (mV 1) mI) (mTup (mCons mS (mCons mS mNil)))))) (fun _ _ _ _ _ => (mV 1))) mNil) T.z_tuple)))
abbrev st_in_few_words : Stmt := topS 29
theorem sc_in_few_words : FnScope ["saying", "inner", "word", "part"] ["saying"] (C8.fnScope st_in_few_words) := ⟨rfl, rfl, rfl, by decide +kernel, rfl, by decide +kernel, by decide +kernel⟩
theorem c_in_few_words (T : Facts P w K mg base) : ∀ n : Nat, CalG P w K mg base (ctK K) (1 + n) "in_few_words" (F_in_few_words n) []
  | 0 => calG_bad T.d29
  | n + 1 => by
    have cs := c_in_few_words T n
    exact calG_of (k := 1 + n) 1 4 T.d29 sc_in_few_words rfl rfl fun f cdv A outer s H E hr hg => by
      have nd := sc_in_few_words.nd
      have hu := hu_room hr
      exact (msCons (msSet (i := 1) nd (mCallT tu_op (mCons (mLc (ow := false) (own := [("part", 3)]) rfl nd (miV (mCall (c_inner_sayings T) (hr.mono (by omega)) hg def_takes (mCons (mV 0) mNil))) (blkOk_by (N := ["saying", "inner", "word", "part"]) (sc := C8.fnScope st_in_few_words) (own := [("part", 3)]) (by decide +kernel)) (by decide) (fun _ _ _ _ _ => (mgN 3 nd)) (fun _ _ _ _ _ => mpNil) (fun _ _ _ _ _ => (mCall cs (hr.mono (by omega)) hg takesF (mCons (mV 3) mNil)))) mNil) T.z_tuple))
      (msCons (msSet (i := 2) nd (mIxA hu (mV 0) mI))
      (msCons (msIf (mTcmp (op2_eq (hu4 hu)) (mV 2) mS)
      (msOne (msRet (mTup (mCons mS (mCons (mTup (mCons mS (mCons (mCallT tu_op (mCons (mLc (ow := false) (own := [("part", 3)]) rfl nd (miV (mV 1)) (blkOk_by (N := ["saying", "inner", "word", "part"]) (sc := C8.fnScope st_in_few_words) (own := [("part", 3)]) (by decide +kernel)) (by decide) (fun _ _ _ _ _ => (mgN 3 nd)) (fun _ _ _ _ _ => mpNil) (fun _ _ _ _ _ => (mTup (mCons mS (mCons (mV 3) mNil))))) mNil) T.z_tuple) mNil))) mNil))))) msNil)
      (msCons (msIf (mTcmp (op2_eq (hu4 hu)) (mV 2) mS)
      (msOne (msRet (mTup (mCons mS (mCons (mTup (mCons mS (mCons (mTup (mCons (mIxA hu (mV 1) mI) (mCons (mTup (mCons mS (mCons (mIxA hu (mV 1) mI) mNil))) mNil))) mNil))) mNil))))) msNil)
      (msCons (msIf (mTcmp (op2_eq (hu4 hu)) (mV 2) mS)
      (msOne (msRet (mTup (mCons mS (mCons (mTup (mCons mS (mCons (mIxA hu (mV 0) mI) (mCons (mTup (mCons mS (mCons (mIxA hu (mV 1) mI) mNil))) mNil)))) mNil))))) msNil)
      (msOne (msRet (mCall (c_with_inner T) (hr.mono (by omega)) hg def_takes (mCons (mV 0) (mCons (mV 1) mNil))))))))))
abbrev st_pushed : Stmt := topS 33
theorem sc_pushed : FnScope ["saying", "is_so", "word", "inside", "part"] ["saying", "is_so"] (C8.fnScope st_pushed) := ⟨rfl, rfl, rfl, by decide +kernel, rfl, by decide +kernel, by decide +kernel⟩
theorem c_pushed (T : Facts P w K mg base) : ∀ n : Nat, CalG P w K mg base (ctK K) (1 + n) "pushed" (F_pushed n) []
  | 0 => calG_bad T.d33
  | n + 1 => by
    have cs := c_pushed T n
    exact calG_of (k := 1 + n) 2 5 T.d33 sc_pushed rfl rfl fun f cdv A outer s H E hr hg => by
      have nd := sc_pushed.nd
      have hu := hu_room hr
      exact (msCons (msSet (i := 2) nd (mIxA hu (mV 0) mI))
      (msCons (msIf (mTcmp (op2_eq (hu4 hu)) (mV 2) mS)
      (msOne (msRet (mIf (mTv (mV 1)) (mV 0) (mTup (mCons mS (mCons (mV 0) mNil)))))) msNil)
      (msCons (msIf (mTcmp (op2_eq (hu4 hu)) (mV 2) mS)
      (msOne (msRet (mCall cs (hr.mono (by omega)) hg def_takes (mCons (mIxA hu (mV 0) mI) (mCons (mNotV (mV 1)) mNil))))) msNil)
      (msCons (msIf (mTcmp (op2_eq (hu4 hu)) (mV 2) mS)
      (msOne (msRet (mTup (mCons (mIf (mTv (mV 1)) mS mS) (mCons (mTup (mCons (mCall cs (hr.mono (by omega)) hg def_takes (mCons (mIxA hu (mV 0) mI) (mCons (mNotV (mV 1)) mNil))) (mCons (mCall cs (hr.mono (by omega)) hg def_takes (mCons (mIxA hu (mV 0) mI) (mCons (mV 1) mNil))) mNil))) mNil))))) msNil)
      (msCons (msSet (i := 3) nd (mCall (c_with_inner T) (hr.mono (by omega)) hg def_takes (mCons (mV 0) (mCons (mCallT tu_op (mCons (mLc (ow := false) (own := [("part", 4)]) rfl nd (miV (mCall (c_inner_sayings T) (hr.mono (by omega)) hg def_takes (mCons (mV 0) mNil))) (blkOk_by (N := ["saying", "is_so", "word", "inside", "part"]) (sc := C8.fnScope st_pushed) (own := [("part", 4)]) (by decide +kernel)) (by decide) (fun _ _ _ _ _ => (mgN 4 nd)) (fun _ _ _ _ _ => mpNil) (fun _ _ _ _ _ => (mCall cs (hr.mono (by omega)) hg takesF (mCons (mV 4) (mCons (mV 1) mNil))))) mNil) T.z_tuple) mNil))))
      (msOne (msRet (mIf (mTv (mV 1)) (mV 3) (mTup (mCons (mKD T.g_OTHER_WORDS (mV 2)) (mStar (mSl (own := false) (mV 3) (moPart mI) moNo) mNil)))))))))))
abbrev st_pushed_in : Stmt := topS 32
theorem sc_pushed_in : FnScope ["saying"] ["saying"] (C8.fnScope st_pushed_in) := ⟨rfl, rfl, rfl, by decide +kernel, rfl, by decide +kernel, by decide +kernel⟩
theorem c_pushed_in (T : Facts P w K mg base) : CalG P w K mg base (ctK K) 32 "pushed_in" F_pushed_in [] := calG_of (k := 31) 1 1 T.d32 sc_pushed_in rfl rfl fun f cdv A outer s H E hr hg => by
  have nd := sc_pushed_in.nd
  have hu := hu_room hr
  exact (msOne (msRet (mCall (c_pushed T 30) (hr.mono (by omega)) hg def_takes (mCons (mV 0) (mCons mB mNil)))))
abbrev st_joined_things : Stmt := topS 37
theorem sc_joined_things : FnScope ["some", "none", "sign", "things", "saying"] ["some", "none", "sign"] (C8.fnScope st_joined_things) := ⟨rfl, rfl, rfl, by decide +kernel, rfl, by decide +kernel, by decide +kernel⟩
theorem c_joined_things (T : Facts P w K mg base) : CalG P w K mg base (ctK K) 1 "joined_things" F_joined_things [] := calG_of (k := 0) 3 5 T.d37 sc_joined_things rfl rfl fun f cdv A outer s H E hr hg => by
  have nd := sc_joined_things.nd
  have hu := hu_room hr
  unfold B_joined_things
  exact (msCons (msIf (mNot (mTv (mV 0)))
  (msOne (msRet (mLst (own := false) (mCons (mV 1) mNil)))) msNil)
  (msCons (msIf (mTcmp (op2_eq (hu4 hu)) (mCallB len_opA (mCons (mV 0) mNil) T.z_len) mI)
  (msOne (msRet (mLst (own := false) (mCons mS (mCons (mV 2) (mCons (mIxA hu (mV 0) mI) (mCons mS mNil))))))) msNil)
  (msCons (msSet (i := 3) nd (mLst (own := true) (mCons mS (mCons (mIxA hu (mV 0) mI) mNil))))
  (msCons (msFor def_owns rfl (miV (mSl (own := false) (mV 0) (moPart mI) moNo)) (mgN 4 nd)
  (msOne (msExpr (mMt PySem.F.plainAttrs_list PySem.F.slot_list_extend PySem.F.type_list_extend extend_op (mV 3) (mCons (mLst (own := false) (mCons (mV 2) (mCons (mV 4) mNil))) mNil)))))
  (msCons (msExpr (mMt PySem.F.plainAttrs_list PySem.F.slot_list_append PySem.F.type_list_append append_op (mV 3) (mCons mS mNil)))
  (msLet 3 (msOne (msRet (mV 3)))))))))
abbrev st_written_things : Stmt := topS 36
theorem sc_written_things : FnScope ["saying", "word"] ["saying"] (C8.fnScope st_written_things) := ⟨rfl, rfl, rfl, by decide +kernel, rfl, by decide +kernel, by decide +kernel⟩
theorem c_written_things (T : Facts P w K mg base) : CalG P w K mg base (ctK K) 2 "written_things" F_written_things [] := calG_of (k := 1) 1 2 T.d36 sc_written_things rfl rfl fun f cdv A outer s H E hr hg => by
  have nd := sc_written_things.nd
  have hu := hu_room hr
  unfold B_written_things
  exact (msCons (msSet (i := 1) nd (mIxA hu (mV 0) mI))
  (msCons (msIf (mTcmp (op2_eq (hu4 hu)) (mV 1) mS)
  (msOne (msRet (mLst (own := false) (mCons (mIxA hu (mV 0) mI) mNil)))) msNil)
  (msCons (msIf (mTcmp (op2_eq (hu4 hu)) (mV 1) mS)
  (msOne (msRet (mLst (own := false) (mCons mS (mCons (mIxA hu (mV 0) mI) mNil))))) msNil)
  (msCons (msIf (mTcmp (op2_eq (hu4 hu)) (mV 1) mS)
  (msOne (msRet (mCall (c_joined_things T) (hr.mono (by omega)) hg def_takes (mCons (mIxA hu (mV 0) mI) (mCons mS (mCons mS mNil)))))) msNil)
  (msCons (msIf (mTcmp (op2_eq (hu4 hu)) (mV 1) mS)
  (msOne (msRet (mCall (c_joined_things T) (hr.mono (by omega)) hg def_takes (mCons (mIxA hu (mV 0) mI) (mCons mS (mCons mS mNil)))))) msNil)
  (msCons (msIf (mTcmp (op2_eq (hu4 hu)) (mV 1) mS)
  (msOne (msRet (mLst (own := false) (mCons mS (mCons (mIxA hu (mV 0) mI) (mCons mS (mCons (mIxA hu (mV 0) mI) (mCons mS mNil)))))))) msNil)
  (msCons (msIf (mTcmp (op2_eq (hu4 hu)) (mV 1) mS)
  (msOne (msRet (mLst (own := false) (mCons mS (mCons (mIxA hu (mV 0) mI) (mCons mS (mCons (mIxA hu (mV 0) mI) mNil))))))) msNil)
  (msCons (msIf (mTcmp (op2_eq (hu4 hu)) (mV 1) mS)
  (msOne (msRet (mLst (own := false) (mCons mS (mCons (mIxA hu (mV 0) mI) (mCons mS (mCons (mIxA hu (mV 0) mI) mNil))))))) msNil)
  (msOne (msRet (mLst (own := false) (mCons mS (mCons (mIxA hu (mV 0) mI) (mCons mS (mCons (mIxA hu (mV 0) mI) mNil)))))))))))))))
abbrev st_saying_text : Stmt := topS 35
theorem sc_saying_text : FnScope ["saying", "pieces", "waiting", "thing"] ["saying"] (C8.fnScope st_saying_text) := ⟨rfl, rfl, rfl, by decide +kernel, rfl, by decide +kernel, by decide +kernel⟩
theorem c_saying_text (T : Facts P w K mg base) : CalG P w K mg base (ctK K) 3 "saying_text" F_saying_text [] := calG_of (k := 2) 1 4 T.d35 sc_saying_text rfl rfl fun f cdv A outer s H E hr hg => by
  have nd := sc_saying_text.nd
  have hu := hu_room hr
  unfold B_saying_text
  exact (msCons (msSet (i := 1) nd (mLst (own := true) mNil))
  (msCons (msSet (i := 2) nd (mLst (own := true) (mCons (mV 0) mNil)))
  (msCons (msWhile 100000 def_owns (mTv (mV 2))
  (msCons (msSet (i := 3) nd (mMt0 PySem.F.plainAttrs_list PySem.F.slot_list_pop PySem.F.type_list_pop pop_op (mV 2)))
  (msOne (msIf (mTv (mIsi (mV 3) T.z_isinstance T.z_str))
  (msOne (msExpr (mMt PySem.F.plainAttrs_list PySem.F.slot_list_append PySem.F.type_list_append append_op (mV 1) (mCons (mV 3) mNil)))) (msOne (msExpr (mMt PySem.F.plainAttrs_list PySem.F.slot_list_extend PySem.F.type_list_extend extend_op (mV 2) (mCons (mRevL (mCall (c_written_things T) (hr.mono (by omega)) hg def_takes (mCons (mV 3) mNil))) mNil))))))))
  (msLet 1 (msOne (msRet (mMt PySem.F.plainAttrs_str PySem.F.slot_str_join PySem.F.type_str_join join_op mS (mCons (mV 1) mNil))))))))
abbrev st_said_behind : Stmt := topS 40
theorem sc_said_behind : FnScope ["saying", "told", "word", "inner", "behind", "part"] ["saying", "told"] (C8.fnScope st_said_behind) := ⟨rfl, rfl, rfl, by decide +kernel, rfl, by decide +kernel, by decide +kernel⟩
theorem c_said_behind (T : Facts P w K mg base) : ∀ n : Nat, CalG P w K mg base (ctK K) (1 + n) "said_behind" (F_said_behind n) []
  | 0 => calG_bad T.d40
  | n + 1 => by
    have cs := c_said_behind T n
    exact calG_of (k := 1 + n) 2 6 T.d40 sc_said_behind rfl rfl fun f cdv A outer s H E hr hg => by
      have nd := sc_said_behind.nd
      have hu := hu_room hr
      exact (msCons (msSet (i := 2) nd (mIxA hu (mV 0) mI))
      (msCons (msSet (i := 3) nd (mCallT tu_op (mCons (mLc (ow := false) (own := [("part", 5)]) rfl nd (miV (mCall (c_inner_sayings T) (hr.mono (by omega)) hg def_takes (mCons (mV 0) mNil))) (blkOk_by (N := ["saying", "told", "word", "inner", "behind", "part"]) (sc := C8.fnScope st_said_behind) (own := [("part", 5)]) (by decide +kernel)) (by decide) (fun _ _ _ _ _ => (mgN 5 nd)) (fun _ _ _ _ _ => mpNil) (fun _ _ _ _ _ => (mCall cs (hr.mono (by omega)) hg takesF (mCons (mV 5) (mCons (mV 1) mNil))))) mNil) T.z_tuple))
      (msCons (msIf (mTcmp (op2_eq (hu4 hu)) (mV 2) mS)
      (msOne (msRet (mTup (mCons mS (mCons (mV 1) (mCons (mTup (mCons mS (mCons (mIxA hu (mV 0) mI) (mCons (mTup (mCons mS (mCons (mTup (mCons (mV 1) (mCons (mIxA hu (mV 3) mI) mNil))) mNil))) mNil)))) mNil)))))) msNil)
      (msCons (msSet (i := 4) nd (mCall (c_with_inner T) (hr.mono (by omega)) hg def_takes (mCons (mV 0) (mCons (mV 3) mNil))))
      (msCons (msIf (mTcmp (op2_inA hu) (mV 2) (mTup (mCons mS (mCons mS mNil))))
      (msOne (msRet (mV 4))) msNil)
      (msOne (msRet (mTup (mCons mS (mCons (mV 1) (mCons (mV 4) mNil)))))))))))
abbrev st_told_out : Stmt := topS 39
theorem sc_told_out : FnScope ["saying", "inner", "part"] ["saying"] (C8.fnScope st_told_out) := ⟨rfl, rfl, rfl, by decide +kernel, rfl, by decide +kernel, by decide +kernel⟩
theorem c_told_out (T : Facts P w K mg base) : ∀ n : Nat, CalG P w K mg base (ctK K) (41 + n) "told_out" (F_told_out n) []
  | 0 => calG_bad T.d39
  | n + 1 => by
    have cs := c_told_out T n
    exact calG_of (k := 41 + n) 1 3 T.d39 sc_told_out rfl rfl fun f cdv A outer s H E hr hg => by
      have nd := sc_told_out.nd
      have hu := hu_room hr
      exact (msCons (msSet (i := 1) nd (mCallT tu_op (mCons (mLc (ow := false) (own := [("part", 2)]) rfl nd (miV (mCall (c_inner_sayings T) (hr.mono (by omega)) hg def_takes (mCons (mV 0) mNil))) (blkOk_by (N := ["saying", "inner", "part"]) (sc := C8.fnScope st_told_out) (own := [("part", 2)]) (by decide +kernel)) (by decide) (fun _ _ _ _ _ => (mgN 2 nd)) (fun _ _ _ _ _ => mpNil) (fun _ _ _ _ _ => (mCall cs (hr.mono (by omega)) hg takesF (mCons (mV 2) mNil)))) mNil) T.z_tuple))
      (msCons (msIf (mTcmp (op2_eq (hu4 hu)) (mIxA hu (mV 0) mI) mS)
      (msOne (msRet (mCall (c_said_behind T 40) (hr.mono (by omega)) hg def_takes (mCons (mIxA hu (mV 1) mI) (mCons (mIxA hu (mV 1) mI) mNil))))) msNil)
      (msOne (msRet (mCall (c_with_inner T) (hr.mono (by omega)) hg def_takes (mCons (mV 0) (mCons (mV 1) mNil)))))))
abbrev st_law_feed : Stmt := topS 42
theorem sc_law_feed : FnScope ["_law_script"] ["_law_script"] (C8.fnScope st_law_feed) := ⟨rfl, rfl, rfl, by decide +kernel, rfl, by decide +kernel, by decide +kernel⟩
theorem c_law_feed (T : Facts P w K mg base) : CalG P w K mg base (ctK K) 1 "_law_feed" feedF [] := calG_of (k := 0) 1 1 T.d42 sc_law_feed rfl rfl fun f cdv A outer s H E hr hg => by
  have nd := sc_law_feed.nd
  have hu := hu_room hr
  exact (msOne (msRet (mLst (own := true) (mCons (mSl (own := false) (mV 0) moNo (moPart mI)) (mCons mI (mCons mI (mCons mI mNil)))))))
abbrev st_law_draw : Stmt := topS 43
theorem sc_law_draw : FnScope ["_law_feed_here", "_law_many", "_law_found", "_law_cell", "_law_mixed"] ["_law_feed_here", "_law_many"] (C8.fnScope st_law_draw) := ⟨rfl, rfl, rfl, by decide +kernel, rfl, by decide +kernel, by decide +kernel⟩
theorem c_law_draw (T : Facts P w K mg base) : CalG P w K mg base (ctK K) 1 "_law_draw" drawF [] := calG_of (k := 0) 2 5 T.d43 sc_law_draw rfl rfl fun f cdv A outer s H E hr hg => by
  have nd := sc_law_draw.nd
  have hu := hu_room hr
  exact (msCons (msSt hu (mBin (op2_add (own := false)) (mIxA hu (mV 0) mI) mI) (mV 0) mI)
  (msCons (msIf (mTcmp op2_gt (mIxA hu (mV 0) mI) mI)
  (msCons (msSet (i := 2) nd (mBin op2_mod (mIxA hu (mV 0) mI) (mV 1)))
  (msCons (msSt hu (mBin op2_div (mIxA hu (mV 0) mI) (mV 1)) (mV 0) mI)
  (msOne (msRet (mV 2))))) msNil)
  (msCons (msSet (i := 3) nd mI)
  (msCons (msIf (mTcmp (op2_ne (hu4 hu)) (mIxA hu (mV 0) mI) (mLst (own := false) mNil))
  (msOne (msSet (i := 3) nd (mIxA hu (mIxA hu (mV 0) mI) (mBin op2_mod (mIxA hu (mV 0) mI) (mCallB len_opA (mCons (mIxA hu (mV 0) mI) mNil) T.z_len))))) msNil)
  (msCons (msSt hu (mBin (op2_add (own := false)) (mIxA hu (mV 0) mI) mI) (mV 0) mI)
  (msCons (msIf (MW.mt (mAnd (mTcmp op2_ge (mV 3) (mBin op2_pow mI mI)) (mAnd1 (mTcmp op2_le (mIxA hu (mV 0) mI) (mCallB len_opA (mCons (mIxA hu (mV 0) mI) mNil) T.z_len)))))
  (msCons (msSt hu (mBin op2_div (mV 3) (mV 1)) (mV 0) mI)
  (msOne (msRet (mBin op2_mod (mV 3) (mV 1))))) msNil)
  (msCons (msSet (i := 4) nd (mBin op2_mod (mBin op2_pow (mBin (op2_add (own := false)) (mBin (op2_add (own := false)) (mBin op2_mod (mV 3) mI) (mBin (op2_mul (own := false)) mI (mIxA hu (mV 0) mI))) mI) mI) mI))
  (msOne (msRet (mBin op2_mod (mBin op2_div (mBin op2_mod (mBin op2_pow (mBin (op2_add (own := false)) (mV 4) (mBin (op2_mul (own := false)) mI (mIxA hu (mV 0) mI))) mI) mI) mI) (mV 1)))))))))))
abbrev st_law_saying : Stmt := topS 44
theorem sc_law_saying : FnScope ["_law_feed_here", "_law_left", "_law_told", "_law_way", "_law_many", "_law_some", "_law_hand", "_law_k"] ["_law_feed_here", "_law_left", "_law_told"] (C8.fnScope st_law_saying) := ⟨rfl, rfl, rfl, by decide +kernel, rfl, by decide +kernel, by decide +kernel⟩
theorem c_law_saying (T : Facts P w K mg base) : ∀ n : Nat, CalG P w K mg base (ctK K) (1 + n) "_law_saying" (sayF n) []
  | 0 => calG_bad T.d44
  | n + 1 => by
    have cs := c_law_saying T n
    exact calG_of (k := 1 + n) 3 8 T.d44 sc_law_saying rfl rfl fun f cdv A outer s H E hr hg => by
      have nd := sc_law_saying.nd
      have hu := hu_room hr
      exact (msCons (msSt hu (mBin op2_sub (mIxA hu (mV 1) mI) mI) (mV 1) mI)
      (msCons (msSet (i := 3) nd (mCall (c_law_draw T) (hr.mono (by omega)) hg def_takes (mCons (mV 0) (mCons mI mNil))))
      (msCons (msIf (MW.mt (mOr (mTcmp (op2_lt hu) (mV 3) mI) (mOr1 (mTcmp (op2_lt hu) (mIxA hu (mV 1) mI) mI))))
      (msOne (msRet (mTup (mCons mS (mCons (mIxA hu (mLst (own := false) (mCons mS (mCons mS (mCons mS mNil)))) (mCall (c_law_draw T) (hr.mono (by omega)) hg def_takes (mCons (mV 0) (mCons mI mNil)))) mNil))))) msNil)
      (msCons (msIf (mTcmp (op2_inA hu) (mV 3) (mTup (mCons mI (mCons mI mNil))))
      (msOne (msRet (mTup (mCons mS (mCons (mCall cs (hr.mono (by omega)) hg def_takes (mCons (mV 0) (mCons (mV 1) (mCons (mV 2) mNil)))) mNil))))) msNil)
      (msCons (msIf (mTcmp (op2_lt hu) (mV 3) mI)
      (msCons (msSet (i := 4) nd (mIxA hu (mLst (own := false) (mCons mI (mCons mI (mCons mI (mCons mI (mCons mI mNil)))))) (mCall (c_law_draw T) (hr.mono (by omega)) hg def_takes (mCons (mV 0) (mCons mI mNil)))))
      (msCons (msSetLc (i := 5) (ow := false) (own := [("_law_k", 7)]) rfl nd (hi := (miR1 (mCons (mV 4) mNil) T.z_range)) (ok := (blkOk_by (N := ["_law_feed_here", "_law_left", "_law_told", "_law_way", "_law_many", "_law_some", "_law_hand", "_law_k"]) (sc := C8.fnScope st_law_saying) (own := [("_law_k", 7)]) (by decide +kernel))) (hsub := by decide) (hg := fun _ _ _ _ _ => (mgN 7 nd)) (ht := fun _ _ _ _ _ => (mpOne (mTcmp op2_gt (mIxA hu (mV 1) mI) mI))) (he := fun _ _ _ _ _ => (mCall cs (hr.mono (by omega)) hg takesF (mCons (mV 0) (mCons (mV 1) (mCons (mV 2) mNil))))))
      (msOne (msRet (mTup (mCons (mIxA hu (mLst (own := false) (mCons mS (mCons mS mNil))) (mBin op2_mod (mV 3) mI)) (mCons (mCallT tu_op (mCons (mV 5) mNil) T.z_tuple) mNil))))))) msNil)
      (msCons (msIf (MW.mt (mOr (mTcmp (op2_inA hu) (mV 3) (mTup (mCons mI (mCons mI mNil)))) (mOr1 (MW.mt (mAnd (mTcmp (op2_eq (hu4 hu)) (mV 3) mI) (mAnd1 (mNot (mTv (mV 2)))))))))
      (msOne (msRet (mTup (mCons mS (mCons (mCall cs (hr.mono (by omega)) hg def_takes (mCons (mV 0) (mCons (mV 1) (mCons (mV 2) mNil)))) (mCons (mCall cs (hr.mono (by omega)) hg def_takes (mCons (mV 0) (mCons (mV 1) (mCons (mV 2) mNil)))) mNil)))))) msNil)
      (msCons (msIf (mTcmp (op2_eq (hu4 hu)) (mV 3) mI)
      (msOne (msRet (mTup (mCons mS (mCons (mCall cs (hr.mono (by omega)) hg def_takes (mCons (mV 0) (mCons (mV 1) (mCons (mV 2) mNil)))) (mCons (mCall cs (hr.mono (by omega)) hg def_takes (mCons (mV 0) (mCons (mV 1) (mCons (mV 2) mNil)))) mNil)))))) msNil)
      (msCons (msSet (i := 6) nd (mIxA hu (mLst (own := false) (mCons mS (mCons mS mNil))) (mCall (c_law_draw T) (hr.mono (by omega)) hg def_takes (mCons (mV 0) (mCons mI mNil)))))
      (msOne (msRet (mTup (mCons (mIxA hu (mLst (own := false) (mCons mS (mCons mS mNil))) (mBin op2_mod (mV 3) mI)) (mCons (mV 6) (mCons (mCall cs (hr.mono (by omega)) hg def_takes (mCons (mV 0) (mCons (mV 1) (mCons (mV 2) mNil)))) mNil))))))))))))))
abbrev st_law_back : Stmt := topS 45
theorem sc_law_back : FnScope ["_law_s"] ["_law_s"] (C8.fnScope st_law_back) := ⟨rfl, rfl, rfl, by decide +kernel, rfl, by decide +kernel, by decide +kernel⟩
noncomputable def B_law_back : DS := (sRet (dCall F_saying_readX [] (dCons (dCall F_saying_text [] (dCons (dV 0) dNil)) dNil)))
noncomputable def F_law_back : Fn := fnF 1 1 B_law_back
theorem c_law_back (T : Facts P w K mg base) : CalG P w K mg base (ctK K) 8 "_law_back" F_law_back [] := calG_of (k := 7) 1 1 T.d45 sc_law_back rfl rfl fun f cdv A outer s H E hr hg => by
  have nd := sc_law_back.nd
  have hu := hu_room hr
  exact (msOne (msRet (mCall (c_saying_read T) (hr.mono (by omega)) hg def_takes (mCons (mCall (c_saying_text T) (hr.mono (by omega)) hg def_takes (mCons (mV 0) mNil)) mNil))))
abbrev st_law_once : Stmt := topS 46
theorem sc_law_once : FnScope ["_law_some", "_law_found", "_law_one"] ["_law_some"] (C8.fnScope st_law_once) := ⟨rfl, rfl, rfl, by decide +kernel, rfl, by decide +kernel, by decide +kernel⟩
theorem c_law_once (T : Facts P w K mg base) : CalG P w K mg base (ctK K) 1 "_law_once" onceF [] := calG_of (k := 0) 1 3 T.d46 sc_law_once rfl rfl fun f cdv A outer s H E hr hg => by
  have nd := sc_law_once.nd
  have hu := hu_room hr
  exact (msCons (msSet (i := 1) nd (mLst (own := true) mNil))
  (msCons (msFor def_owns rfl (miV (mCallB (sorted_op hu (own := false)) (mCons (mV 0) mNil) T.z_sorted)) (mgN 2 nd)
  (msOne (msIf (MW.mt (mOr (mTcmp (op2_eq (hu4 hu)) (mV 1) (mLst (own := false) mNil)) (mOr1 (mTcmp (op2_ne (hu4 hu)) (mIxA hu (mV 1) (mUn op1_neg mI)) (mV 2)))))
  (msOne (msExpr (mMt PySem.F.plainAttrs_list PySem.F.slot_list_append PySem.F.type_list_append append_op (mV 1) (mCons (mV 2) mNil)))) msNil)))
  (msLet 1 (msOne (msRet (mV 1))))))
abbrev st_law_is_right : Stmt := topS 47
theorem sc_law_is_right : FnScope ["_law_s", "_law_text", "_law_every", "_law_again", "_law_one", "_law_part", "_law_word"] ["_law_s"] (C8.fnScope st_law_is_right) := ⟨rfl, rfl, rfl, by decide +kernel, rfl, by decide +kernel, by decide +kernel⟩
noncomputable def B_law_is_right_342 : DS := (sIf (dTb (dP2 (opEq true) (dLc false (dI iV (dCall lettersF [] (dCons (dV 4) dNil))) (gN 6) (dTb (dP2 (opInA true) (dV 6) (dCall lettersF [] (dCons (dV 0) dNil)))) (dV 6) [6]) (dPn (opLst false) dNil)))
  (sRet (dC (.bool false))) sNext)
noncomputable def B_law_is_right_340 : DS := (sSeq (sIf (dTb (dP2 (opEq true) (dLc false (dI iV (dCall partsF [] (dCons (dV 4) dNil))) (gN 5) (dTb (dP2 (opInA true) (dV 5) (dV 2))) (dV 5) [5]) (dPn (opLst false) dNil)))
  (sRet (dC (.bool false))) sNext)
  B_law_is_right_342)
noncomputable def B_law_is_right_338 : DS := (sSeq (sIf (dOr (dTb (dP2 (opInA true) (dCall F_saying_text [] (dCons (dV 4) dNil)) (dV 1))) (dTb (dP2 opGt (dCall (F_depth_of 30) [] (dCons (dV 4) dNil)) (dCall (F_depth_of 30) [] (dCons (dV 0) dNil)))))
  (sRet (dC (.bool false))) sNext)
  B_law_is_right_340)
noncomputable def B_law_is_right_337 : DS := (sSeq (sFor (dI iV (dV 2)) (gN 4)
  B_law_is_right_338)
  (sRet (dAndV (dP2 (opEq false) (dV 2) (dPn opTu (dCons (dCall onceF [] (dCons (dPn (opLs false) (dCons (dV 2) dNil)) dNil)) dNil))) (dP2 (opInA false) (dV 0) (dV 2)))))
noncomputable def B_law_is_right_335 : DS := (sSeq (sIf (dOr (dTb (dP2 (opEq true) (dCall (F_depth_of 30) [] (dCons (dV 3) dNil)) (dCall (F_depth_of 30) [] (dCons (dV 0) dNil)))) (dTb (dP2 (opEq true) (dP1 opLenS (dLc false (dI iV (dV 2)) (gN 4) dYes (dCall F_saying_text [] (dCons (dV 4) dNil)) [4])) (dPn (orO opLen opLenD) (dCons (dV 2) dNil)))))
  (sRet (dC (.bool false))) sNext)
  B_law_is_right_337)
noncomputable def B_law_is_right_333 : DS := (sSeq (sIf (dTb (dP2 (opEq true) (dPn (opLst false) (dCons (dCall partsF [] (dCons (dV 3) dNil)) (dCons (dCall lettersF [] (dCons (dV 3) dNil)) (dCons (dCall handsF [] (dCons (dV 3) dNil)) dNil)))) (dPn (opLst false) (dCons (dV 2) (dCons (dCall lettersF [] (dCons (dV 0) dNil)) (dCons (dCall handsF [] (dCons (dV 0) dNil)) dNil))))))
  (sRet (dC (.bool false))) sNext)
  B_law_is_right_335)
noncomputable def B_law_is_right_331 : DS := (sSeq (sIf (dOr (dTb (dP2 (opEq true) (dPn opRepr (dCons (dV 3) dNil)) (dPn opRepr (dCons (dV 0) dNil)))) (dOr (dTb (dP2 (opEq true) (dCall F_saying_text [] (dCons (dV 3) dNil)) (dV 1))) (dTb (dP2 (opIsB true) (dCall F_is_saying [] (dCons (dV 3) dNil)) (dC (.bool true))))))
  (sRet (dC (.bool false))) sNext)
  B_law_is_right_333)
noncomputable def B_law_is_right_330 : DS := (sSeq (sSet 3 (dCall F_saying_readX [] (dCons (dV 1) dNil)))
  B_law_is_right_331)
noncomputable def B_law_is_right_329 : DS := (sSeq (sAsg (gT 2 (gCons' (gN 1) (gCons' (gN 2) gNil'))) (dPn opTup (dCons (dCall F_saying_text [] (dCons (dV 0) dNil)) (dCons (dCall partsF [] (dCons (dV 0) dNil)) dNil))))
  B_law_is_right_330)
noncomputable def B_law_is_right : DS := B_law_is_right_329
noncomputable def F_law_is_right : Fn := fnF 1 7 B_law_is_right
theorem c_law_is_right (T : Facts P w K mg base) : CalG P w K mg base (ctK K) 32 "_law_is_right" F_law_is_right [] := calG_of (k := 31) 1 7 T.d47 sc_law_is_right rfl rfl fun f cdv A outer s H E hr hg => by
  have nd := sc_law_is_right.nd
  have hu := hu_room hr
  unfold B_law_is_right
  unfold B_law_is_right_329
  refine msCons (msAsg (mTup (mCons (mCall (c_saying_text T) (hr.mono (by omega)) hg def_takes (mCons (mV 0) mNil)) (mCons (mCall (c_parts_of_saying T) (hr.mono (by omega)) hg def_takes (mCons (mV 0) mNil)) mNil))) (mgT rfl (mgsCons (mgN 1 nd) (mgsCons (mgN 2 nd) mgsNil)))) ?_
  unfold B_law_is_right_330
  refine msCons (msSet (i := 3) nd (mCall (c_saying_read T) (hr.mono (by omega)) hg def_takes (mCons (mV 1) mNil))) ?_
  unfold B_law_is_right_331
  refine msCons (msIf (MW.mt (mOr (mTcmp (op2_ne (hu4 hu)) (mCallB (repr_op hg hu) (mCons (mV 3) mNil) T.z_repr) (mCallB (repr_op hg hu) (mCons (mV 0) mNil) T.z_repr)) (mOr (mTcmp (op2_ne (hu4 hu)) (mCall (c_saying_text T) (hr.mono (by omega)) hg def_takes (mCons (mV 3) mNil)) (mV 1)) (mOr1 (mTcmp op2_isnotB (mCall (c_is_saying T) (hr.mono (by omega)) hg def_takes (mCons (mV 3) mNil)) mB)))))
  (msOne (msRet mB)) msNil) ?_
  unfold B_law_is_right_333
  refine msCons (msIf (mTcmp (op2_ne (hu4 hu)) (mLst (own := false) (mCons (mCall (c_parts_of_saying T) (hr.mono (by omega)) hg def_takes (mCons (mV 3) mNil)) (mCons (mCall (c_letters_of T) (hr.mono (by omega)) hg def_takes (mCons (mV 3) mNil)) (mCons (mCall (c_hands_of T) (hr.mono (by omega)) hg def_takes (mCons (mV 3) mNil)) mNil)))) (mLst (own := false) (mCons (mV 2) (mCons (mCall (c_letters_of T) (hr.mono (by omega)) hg def_takes (mCons (mV 0) mNil)) (mCons (mCall (c_hands_of T) (hr.mono (by omega)) hg def_takes (mCons (mV 0) mNil)) mNil)))))
  (msOne (msRet mB)) msNil) ?_
  unfold B_law_is_right_335
  refine msCons (msIf (MW.mt (mOr (mTcmp (op2_ne (hu4 hu)) (mCall (c_depth_of T 30) (hr.mono (by omega)) hg def_takes (mCons (mV 3) mNil)) (mCall (c_depth_of T 30) (hr.mono (by omega)) hg def_takes (mCons (mV 0) mNil))) (mOr1 (mTcmp (op2_ne (hu4 hu)) (mLenS rfl (mLc (ow := false) (own := [("_law_one", 4)]) rfl nd (miV (mV 2)) (blkOk_by (N := ["_law_s", "_law_text", "_law_every", "_law_again", "_law_one", "_law_part", "_law_word"]) (sc := C8.fnScope st_law_is_right) (own := [("_law_one", 4)]) (by decide +kernel)) (by decide) (fun _ _ _ _ _ => (mgN 4 nd)) (fun _ _ _ _ _ => mpNil) (fun _ _ _ _ _ => (mCall (c_saying_text T) (hr.mono (by omega)) hg takesF (mCons (mV 4) mNil)))) T.z_len T.z_set) (mCallB len_opA (mCons (mV 2) mNil) T.z_len)))))
  (msOne (msRet mB)) msNil) ?_
  unfold B_law_is_right_337
  refine msCons (msFor def_owns rfl (miV (mV 2)) (mgN 4 nd)
  (msCons (msIf (MW.mt (mOr (mTcmp (op2_notinA hu) (mCall (c_saying_text T) (hr.mono (by omega)) hg def_takes (mCons (mV 4) mNil)) (mV 1)) (mOr1 (mTcmp op2_gt (mCall (c_depth_of T 30) (hr.mono (by omega)) hg def_takes (mCons (mV 4) mNil)) (mCall (c_depth_of T 30) (hr.mono (by omega)) hg def_takes (mCons (mV 0) mNil))))))
  (msOne (msRet mB)) msNil)
  (msCons (msIf (mTcmp (op2_ne (hu4 hu)) (mLc (ow := false) (own := [("_law_part", 5)]) rfl nd (miV (mCall (c_parts_of_saying T) (hr.mono (by omega)) hg def_takes (mCons (mV 4) mNil))) (blkOk_by (N := ["_law_s", "_law_text", "_law_every", "_law_again", "_law_one", "_law_part", "_law_word"]) (sc := C8.fnScope st_law_is_right) (own := [("_law_part", 5)]) (by decide +kernel)) (by decide) (fun _ _ _ _ _ => (mgN 5 nd)) (fun _ _ _ _ _ => (mpOne (mTcmp (op2_notinA hu) (mV 5) (mV 2)))) (fun _ _ _ _ _ => (mV 5))) (mLst (own := false) mNil))
  (msOne (msRet mB)) msNil)
  (msOne (msIf (mTcmp (op2_ne (hu4 hu)) (mLc (ow := false) (own := [("_law_word", 6)]) rfl nd (miV (mCall (c_letters_of T) (hr.mono (by omega)) hg def_takes (mCons (mV 4) mNil))) (blkOk_by (N := ["_law_s", "_law_text", "_law_every", "_law_again", "_law_one", "_law_part", "_law_word"]) (sc := C8.fnScope st_law_is_right) (own := [("_law_word", 6)]) (by decide +kernel)) (by decide) (fun _ _ _ _ _ => (mgN 6 nd)) (fun _ _ _ _ _ => (mpOne (mTcmp (op2_notinA hu) (mV 6) (mCall (c_letters_of T) (hr.mono (by omega)) hg takesF (mCons (mV 0) mNil))))) (fun _ _ _ _ _ => (mV 6))) (mLst (own := false) mNil))
  (msOne (msRet mB)) msNil))))) ?_
  exact msOne (msRet (mAndV (mCmp (op2_eq (hu4 hu)) (mV 2) (mCallT tu_op (mCons (mCall (c_law_once T) (hr.mono (by omega)) hg def_takes (mCons (mCallT (ls_op (own := false)) (mCons (mV 2) mNil) T.z_list) mNil)) mNil) T.z_tuple)) (mAndV1 (mCmp (op2_inA hu) (mV 0) (mV 2)))))
abbrev st_law_plain_right : Stmt := topS 48
theorem sc_law_plain_right : FnScope ["_law_s", "_law_make", "_law_fresh"] ["_law_s"] (C8.fnScope st_law_plain_right) := ⟨rfl, rfl, rfl, by decide +kernel, rfl, by decide +kernel, by decide +kernel⟩
noncomputable def B_law_plain_right_350 : DS := (sIf (dTb (dP2 (opIsB true) (dCall F_is_plain_saying [] (dCons (dV 2) dNil)) (dC (.bool true))))
  (sRet (dC (.bool false))) sNext)
noncomputable def B_law_plain_right_348 : DS := (sSeq (sIf (dOr (dTb (dP2 (opEq true) (dPn opRepr (dCons (dCallW 1 ([("core_of", (coreF 14)), ("pushed_in", F_pushed_in), ("in_few_words", (F_in_few_words 40)), ("told_out", (F_told_out 30))] : List (Str × Fn)) (dCons (dCall F_law_back [] (dCons (dV 0) dNil)) dNil)) dNil)) (dPn opRepr (dCons (dV 2) dNil)))) (dTb (dP2 (opEq true) (dPn opRepr (dCons (dCall F_law_back [] (dCons (dV 2) dNil)) dNil)) (dPn opRepr (dCons (dV 2) dNil)))))
  (sRet (dC (.bool false))) sNext)
  B_law_plain_right_350)
noncomputable def B_law_plain_right_347 : DS := (sSeq (sSet 2 (dCallW 1 ([("core_of", (coreF 14)), ("pushed_in", F_pushed_in), ("in_few_words", (F_in_few_words 40)), ("told_out", (F_told_out 30))] : List (Str × Fn)) (dCons (dV 0) dNil)))
  B_law_plain_right_348)
noncomputable def B_law_plain_right_346 : DS := (sSeq (sForW (dCons (dGf "core_of") (dCons (dGf "pushed_in") (dCons (dGf "in_few_words") (dCons (dGf "told_out") dNil)))) 1
  B_law_plain_right_347)
  (sRet (dAndV (dP2 (opEq false) (dCall (atomsF 14) [] (dCons (dCall F_law_back [] (dCons (dV 0) dNil)) dNil)) (dCall (atomsF 14) [] (dCons (dV 0) dNil))) (dP2 (opEq false) (dPn opRepr (dCons (dCall (F_told_out 30) [] (dCons (dV 0) dNil)) dNil)) (dPn opRepr (dCons (dV 0) dNil))))))
noncomputable def B_law_plain_right : DS := B_law_plain_right_346
noncomputable def F_law_plain_right : Fn := fnF 1 3 B_law_plain_right
theorem c_law_plain_right (T : Facts P w K mg base) : CalG P w K mg base (ctK K) 72 "_law_plain_right" F_law_plain_right [] := calG_of (k := 71) 1 3 T.d48 sc_law_plain_right rfl rfl fun f cdv A outer s H E hr hg => by
  have nd := sc_law_plain_right.nd
  have hu := hu_room hr
  unfold B_law_plain_right
  unfold B_law_plain_right_346
  refine msCons (msForW (i := 1) def_owns rfl (mCons (mGf T.gf_core_of) (mCons (mGf T.gf_pushed_in) (mCons (mGf T.gf_in_few_words) (mCons (mGf T.gf_told_out) mNil)))) nd
  (msCons (msSet (i := 2) nd (mCallW (i := 1) (t := ([("core_of", (coreF 14)), ("pushed_in", F_pushed_in), ("in_few_words", (F_in_few_words 40)), ("told_out", (F_told_out 30))] : List (Str × Fn))) (fnw_cons (c_core_of T 14) (hr.mono (by omega)) T.gf_core_of (fnw_cons (c_pushed_in T) (hr.mono (by omega)) T.gf_pushed_in (fnw_cons (c_in_few_words T 40) (hr.mono (by omega)) T.gf_in_few_words (fnw_cons (c_told_out T 30) (hr.mono (by omega)) T.gf_told_out fnw_nil)))) hg def_takes (mCons (mV 0) mNil)))
  (msCons (msIf (MW.mt (mOr (mTcmp (op2_ne (hu4 hu)) (mCallB (repr_op hg hu) (mCons (mCallW (i := 1) (t := ([("core_of", (coreF 14)), ("pushed_in", F_pushed_in), ("in_few_words", (F_in_few_words 40)), ("told_out", (F_told_out 30))] : List (Str × Fn))) (fnw_cons (c_core_of T 14) (hr.mono (by omega)) T.gf_core_of (fnw_cons (c_pushed_in T) (hr.mono (by omega)) T.gf_pushed_in (fnw_cons (c_in_few_words T 40) (hr.mono (by omega)) T.gf_in_few_words (fnw_cons (c_told_out T 30) (hr.mono (by omega)) T.gf_told_out fnw_nil)))) hg def_takes (mCons (mCall (c_law_back T) (hr.mono (by omega)) hg def_takes (mCons (mV 0) mNil)) mNil)) mNil) T.z_repr) (mCallB (repr_op hg hu) (mCons (mV 2) mNil) T.z_repr)) (mOr1 (mTcmp (op2_ne (hu4 hu)) (mCallB (repr_op hg hu) (mCons (mCall (c_law_back T) (hr.mono (by omega)) hg def_takes (mCons (mV 2) mNil)) mNil) T.z_repr) (mCallB (repr_op hg hu) (mCons (mV 2) mNil) T.z_repr)))))
  (msOne (msRet mB)) msNil)
  (msOne (msIf (mTcmp op2_isnotB (mCall (c_is_plain_saying T) (hr.mono (by omega)) hg def_takes (mCons (mV 2) mNil)) mB)
  (msOne (msRet mB)) msNil))))) ?_
  exact msOne (msRet (mAndV (mCmp (op2_eq (hu4 hu)) (mCall (c_atoms_of T) (hr.mono (by omega)) hg def_takes (mCons (mCall (c_law_back T) (hr.mono (by omega)) hg def_takes (mCons (mV 0) mNil)) mNil)) (mCall (c_atoms_of T) (hr.mono (by omega)) hg def_takes (mCons (mV 0) mNil))) (mAndV1 (mCmp (op2_eq (hu4 hu)) (mCallB (repr_op hg hu) (mCons (mCall (c_told_out T 30) (hr.mono (by omega)) hg def_takes (mCons (mV 0) mNil)) mNil) T.z_repr) (mCallB (repr_op hg hu) (mCons (mV 0) mNil) T.z_repr)))))
abbrev st_law : Stmt := topS 49
theorem sc_law : FnScope ["_law_script", "_law_feed_here", "_law_some", "_law_k", "_law_s"] ["_law_script"] (C8.fnScope st_law) := ⟨rfl, rfl, rfl, by decide +kernel, rfl, by decide +kernel, by decide +kernel⟩
noncomputable def B_law_361 : DS := (sIf (dAnd (dTb (dP2 (opEq false) (dP2 opMod (dV 3) (dC (.int 2))) (dC (.int 1)))) (dNot (dTv (dCall F_law_plain_right [] (dCons (dV 4) dNil)))))
  (sRet (dC (.bool false))) sNext)
noncomputable def B_law_359 : DS := (sSeq (sIf (dNot (dTv (dCall F_law_is_right [] (dCons (dV 4) dNil))))
  (sRet (dC (.bool false))) sNext)
  B_law_361)
noncomputable def B_law_358 : DS := (sSeq (sExpr (dMt "list" opAppend (dV 2) (dCons (dV 4) dNil)))
  B_law_359)
noncomputable def B_law_357 : DS := (sSeq (sSet 4 (dCall (sayF 12) [] (dCons (dV 1) (dCons (dPn (opLst true) (dCons (dP2 opSub (dC (.int 10)) (dP2 (opMul false) (dC (.int 3)) (dP2 opMod (dV 3) (dC (.int 2))))) dNil)) (dCons (dP2 (opEq false) (dP2 opMod (dV 3) (dC (.int 2))) (dC (.int 0))) dNil)))))
  B_law_358)
noncomputable def B_law_356 : DS := (sSeq (sFor (dIs iR1 (dCons (dC (.int 8)) dNil)) (gN 3)
  B_law_357)
  (sSeq (sLet 2) (sRet (dP2 (opEq false) (dP1 opLenS (dLc false (dI iV (dV 2)) (gN 4) dYes (dCall F_saying_text [] (dCons (dV 4) dNil)) [4])) (dP1 opLenS (dLc false (dI iV (dV 2)) (gN 4) dYes (dPn opRepr (dCons (dV 4) dNil)) [4]))))))
noncomputable def B_law_355 : DS := (sSeq (sSet 2 (dPn (opLst true) dNil))
  B_law_356)
noncomputable def B_law_354 : DS := (sSeq (sSet 1 (dCall feedF [] (dCons (dV 0) dNil)))
  B_law_355)
noncomputable def B_law : DS := B_law_354
noncomputable def F_law : Fn := fnF 1 5 B_law
theorem c_law (T : Facts P w K mg base) : CalP P w K mg base (ctK K) 73 "law" ["_law_script"] F_law := calP_of (k := 72) 1 5 T.d49 sc_law rfl rfl fun f cdv A outer s H E hr hg => by
  have nd := sc_law.nd
  have hu := hu_room hr
  unfold B_law
  unfold B_law_354
  refine msCons (msSet (i := 1) nd (mCall (c_law_feed T) (hr.mono (by omega)) hg def_takes (mCons (mV 0) mNil))) ?_
  unfold B_law_355
  refine msCons (msSet (i := 2) nd (mLst (own := true) mNil)) ?_
  unfold B_law_356
  refine msCons (msFor def_owns rfl (miR1 (mCons mI mNil) T.z_range) (mgN 3 nd)
  (msCons (msSet (i := 4) nd (mCall (c_law_saying T 12) (hr.mono (by omega)) hg def_takes (mCons (mV 1) (mCons (mLst (own := true) (mCons (mBin op2_sub mI (mBin (op2_mul (own := false)) mI (mBin op2_mod (mV 3) mI))) mNil)) (mCons (mCmp (op2_eq (hu4 hu)) (mBin op2_mod (mV 3) mI) mI) mNil)))))
  (msCons (msExpr (mMt PySem.F.plainAttrs_list PySem.F.slot_list_append PySem.F.type_list_append append_op (mV 2) (mCons (mV 4) mNil)))
  (msCons (msIf (mNot (mTv (mCall (c_law_is_right T) (hr.mono (by omega)) hg def_takes (mCons (mV 4) mNil))))
  (msOne (msRet mB)) msNil)
  (msOne (msIf (MW.mt (mAnd (mTcmp (op2_eq (hu4 hu)) (mBin op2_mod (mV 3) mI) mI) (mAnd1 (mNot (mTv (mCall (c_law_plain_right T) (hr.mono (by omega)) hg def_takes (mCons (mV 4) mNil)))))))
  (msOne (msRet mB)) msNil)))))) ?_
  refine msLet 2 ?_
  exact msOne (msRet (mCmp (op2_eq (hu4 hu)) (mLenS rfl (mLc (ow := false) (own := [("_law_s", 4)]) rfl nd (miV (mV 2)) (blkOk_by (N := ["_law_script", "_law_feed_here", "_law_some", "_law_k", "_law_s"]) (sc := C8.fnScope st_law) (own := [("_law_s", 4)]) (by decide +kernel)) (by decide) (fun _ _ _ _ _ => (mgN 4 nd)) (fun _ _ _ _ _ => mpNil) (fun _ _ _ _ _ => (mCall (c_saying_text T) (hr.mono (by omega)) hg takesF (mCons (mV 4) mNil)))) T.z_len T.z_set) (mLenS rfl (mLc (ow := false) (own := [("_law_s", 4)]) rfl nd (miV (mV 2)) (blkOk_by (N := ["_law_script", "_law_feed_here", "_law_some", "_law_k", "_law_s"]) (sc := C8.fnScope st_law) (own := [("_law_s", 4)]) (by decide +kernel)) (by decide) (fun _ _ _ _ _ => (mgN 4 nd)) (fun _ _ _ _ _ => mpNil) (fun _ _ _ _ _ => (mCallB (repr_op hg hu) (mCons (mV 4) mNil) T.z_repr))) T.z_len T.z_set)))
end
end Mok05
set_option autoImplicit false
set_option maxHeartbeats 1000000
namespace Mok05
open PySem PySem.Spec PyProof.Rows L2
variable [Wd]
mutual
def Sg.dep : Sg → Nat
  | .lt _ => 1
  | .no s => s.dep + 1
  | .many _ l => Sg.deps l + 1
  | .so a b => max a.dep b.dep + 1
  | .tl a b => max a.dep b.dep + 1
  | .mod _ _ s => s.dep + 1
def Sg.deps : List Sg → Nat
  | [] => 0
  | s :: r => max s.dep (Sg.deps r)
end
theorem dep_inn (s : Sg) : s.dep = Sg.deps s.inn + 1 := by cases s <;> simp [Sg.dep, Sg.deps, Sg.inn]
theorem deps_mem {x : Sg} : ∀ {l : List Sg}, x ∈ l → x.dep ≤ Sg.deps l
  | s :: r, h => by
    rw [Sg.deps]
    rcases List.mem_cons.mp h with rfl | h
    · omega
    · have := deps_mem h; omega
theorem dep_allP : ∀ (n : Nat) {s x : Sg}, s.sz ≤ n → x ∈ allP s → x.dep ≤ s.dep
  | 0, s, x, h, hx => by have := sz_inn s; omega
  | n + 1, s, x, h, hx => by
    rw [allP_inn] at hx
    rcases List.mem_cons.mp hx with rfl | hx
    · exact Nat.le_refl _
    · obtain ⟨y, hy, hx⟩ := mem_allPs.mp hx
      have h1 := sz_inn s
      have h2 : y.sz ≤ Sg.szs s.inn := (allPs_sub (mem_allPs.mpr ⟨y, hy, by rw [allP_inn]; exact List.mem_cons_self⟩)).2.2.1
      have := dep_allP n (by omega) hx
      have := deps_mem hy
      rw [dep_inn s]
      omega
theorem deps_fold : ∀ (l : List Sg) (n : Nat), (l.map fun s => ((s.dep : Nat) : Int)).foldl max (n : Int) = ((max n (Sg.deps l) : Nat) : Int)
  | [], n => by simp [Sg.deps]
  | s :: r, n => by
    rw [List.map_cons, List.foldl_cons, show max (n : Int) ((s.dep : Nat) : Int) = ((max n s.dep : Nat) : Int) by omega, deps_fold r, Sg.deps]
    omega
theorem depth_eq : ∀ (n : Nat) (s : Sg), s.ht < n → s.sz ≤ 1000 → ∀ μ, callF (F_depth_of n) [.d s.d] μ = .ok (.d (.int (s.dep : Nat))) μ
  | 0, s, h, _, μ => by omega
  | n + 1, s, h, hz, μ => by
    refine call_pure rfl ?_
    have hl := szs_len s.inn
    have hs := sz_inn s
    rw [F_depth_of, ok_fnF1, B_depth_of]
    simp only [List.map_nil, List.replicate, Nat.reduceSub, List.append_nil, oks_ret, ok_dP2, ok_dC, ok_dP1K, ok_dLc, ok_dI, ok_dCall, ok_dCons, ok_dNil, ok_dV0, inner_eq, ok_ok, iV_t, ds_map]
    refine lc_of (d := Sg.d) (xs := s.inn) (tt := dYes) (fun q => [some (.d s.d), some (.d q.d)]) (fun _ => true) (fun q => .int (q.dep : Nat)) (by omega) (fun q hq => rfl) (fun q hq => ?_) ?_
    · have e := fun μ => depth_eq n q (by have := inn_ht hq; omega) (by
        have : q.sz ≤ Sg.szs s.inn := (allPs_sub (mem_allPs.mpr ⟨q, hq, by rw [allP_inn]; exact List.mem_cons_self⟩)).2.2.1
        omega) μ
      simp [dYes, e]
    · rw [lcEnd_f, List.filter_eq_self.mpr fun _ _ => rfl]
      rw [dep_inn s]
      cases hi : s.inn with
      | nil => simp [Sg.deps]
      | cons a r =>
        have e : (a :: r).map (fun q => PyData.int ((q.dep : Nat) : Int)) = (((a.dep : Nat) : Int) :: r.map fun q => ((q.dep : Nat) : Int)).map PyData.int := by simp
        rw [e, okO_maxE, PySem.W.maxD_ints, deps_fold, Sg.deps]
        simp
        omega
end Mok05
set_option autoImplicit false
set_option maxHeartbeats 1000000
namespace Mok05
open PySem PySem.Spec PyProof.Rows L2
variable [Wd]
def Inf (a b : List Nat) : Prop := ∃ p q, b = p ++ a ++ q
theorem Inf.refl (a : List Nat) : Inf a a := ⟨[], [], by simp⟩
theorem Inf.trans {a b c : List Nat} (h : Inf a b) (k : Inf b c) : Inf a c := by
  obtain ⟨p, q, rfl⟩ := h
  obtain ⟨r, t, rfl⟩ := k
  exact ⟨r ++ p, q ++ t, by simp⟩
theorem inf_flat (c : Nat) {x : List Nat} : ∀ {L : List (List Nat)}, x ∈ L → Inf x (L.flatMap fun u => c :: u)
  | u :: L, h => by
    rcases List.mem_cons.mp h with rfl | h
    · exact ⟨[c], L.flatMap fun u => c :: u, by simp⟩
    · obtain ⟨p, q, e⟩ := inf_flat c h
      exact ⟨c :: u ++ p, q, by simp [e]⟩
theorem inf_many (w : Bool) {x : List Nat} : ∀ {L : List (List Nat)}, x ∈ L → Inf x (manyT w L)
  | [s], h => by
    have := List.mem_singleton.mp h
    subst this
    unfold manyT
    exact ⟨[40, sgC w], [41], by simp⟩
  | s :: t :: r, h => by
    unfold manyT
    rcases List.mem_cons.mp h with rfl | h
    · exact ⟨[40], ((t :: r).flatMap fun u => sgC w :: u) ++ [41], by simp⟩
    · obtain ⟨p, q, e⟩ := inf_flat (sgC w) h
      exact ⟨40 :: s ++ p, q ++ [41], by simp [e]⟩
theorem txt_inn {s y : Sg} (h : y ∈ s.inn) : Inf (txt y) (txt s) := by
  cases s with
  | lt x => simp [Sg.inn] at h
  | no s =>
    simp only [Sg.inn, List.mem_singleton] at h
    subst h
    exact ⟨[126], [], by simp [txt]⟩
  | many w l =>
    rw [txt, txtL_map]
    exact inf_many w (List.mem_map.mpr ⟨y, h, rfl⟩)
  | so a b =>
    simp only [Sg.inn, List.mem_cons, List.not_mem_nil, or_false] at h
    rcases h with rfl | rfl
    · exact ⟨[40], 62 :: (txt b ++ [41]), by simp [txt]⟩
    · exact ⟨40 :: (txt a ++ [62]), [41], by simp [txt]⟩
  | tl a b =>
    simp only [Sg.inn, List.mem_cons, List.not_mem_nil, or_false] at h
    rcases h with rfl | rfl
    · exact ⟨[123], 125 :: txt b, by simp [txt]⟩
    · exact ⟨123 :: (txt a ++ [125]), [], by simp [txt]⟩
  | mod w x s =>
    simp only [Sg.inn, List.mem_singleton] at h
    subst h
    exact ⟨(if w = true then 60 else 91) :: (cp x ++ [if w = true then 62 else 93]), [], by simp [txt]⟩
theorem txt_part : ∀ (n : Nat) {s x : Sg}, s.sz ≤ n → x ∈ allP s → Inf (txt x) (txt s)
  | 0, s, x, h, hx => by have := sz_inn s; omega
  | n + 1, s, x, h, hx => by
    rw [allP_inn] at hx
    rcases List.mem_cons.mp hx with rfl | hx
    · exact .refl _
    · obtain ⟨y, hy, hx⟩ := mem_allPs.mp hx
      have h1 := sz_inn s
      have h2 : y.sz ≤ Sg.szs s.inn := (allPs_sub (mem_allPs.mpr ⟨y, hy, by rw [allP_inn]; exact List.mem_cons_self⟩)).2.2.1
      exact (txt_part n (by omega) hx).trans (txt_inn hy)
theorem txS_inj {s t : Sg} (hs : s.sok) (ws : s.wn) (ls : (txt s).length ≤ 90000) (ht : t.sok) (wt : t.wn) (lt : (txt t).length ≤ 90000) (e : txS s = txS t) : s = t := by
  have a := saying_in_eq hs ws ls []
  have b := saying_in_eq ht wt lt []
  rw [e, b] at a
  simp only [Res.ok.injEq, W.d.injEq, and_true] at a
  exact (d_inj a).symm
theorem occ_part {s x : Sg} (h : x ∈ allP s) : occT (txS x) (txS s) = true := by
  obtain ⟨p, q, e⟩ := txt_part s.sz (Nat.le_refl _) h
  exact occT_of (p := p) (q := q) (by rw [txS_cp, txS_cp]; exact e)
end Mok05
set_option autoImplicit false
set_option maxHeartbeats 1000000
namespace Mok05
open PySem PySem.Spec PyProof.Rows L2
variable [Wd]
theorem ok_inn {t : Bool} {s y : Sg} (h : s.ok t) (hy : y ∈ s.inn) : y.ok t := by
  cases s with
  | lt x => simp [Sg.inn] at hy
  | no s =>
    simp only [Sg.inn, List.mem_singleton] at hy
    subst hy; exact h
  | many w l => exact oks_all.mp h.1 y hy
  | so a b =>
    simp only [Sg.inn, List.mem_cons, List.not_mem_nil, or_false] at hy
    rcases hy with rfl | rfl
    · exact h.1
    · exact h.2
  | tl a b =>
    simp only [Sg.inn, List.mem_cons, List.not_mem_nil, or_false] at hy
    rcases hy with rfl | rfl
    · exact h.2.1
    · exact h.2.2
  | mod w x s =>
    simp only [Sg.inn, List.mem_singleton] at hy
    subst hy; exact h.2
theorem ok_part {t : Bool} : ∀ (n : Nat) {s x : Sg}, s.sz ≤ n → s.ok t → x ∈ allP s → x.ok t
  | 0, s, x, h, _, hx => by have := sz_inn s; omega
  | n + 1, s, x, h, hs, hx => by
    rw [allP_inn] at hx
    rcases List.mem_cons.mp hx with rfl | hx
    · exact hs
    · obtain ⟨y, hy, hx⟩ := mem_allPs.mp hx
      have h1 := sz_inn s
      have h2 : y.sz ≤ Sg.szs s.inn := (allPs_sub (mem_allPs.mpr ⟨y, hy, by rw [allP_inn]; exact List.mem_cons_self⟩)).2.2.1
      exact ok_part n (by omega) (ok_inn hs hy) hx
theorem ok_lts {t : Bool} {s : Sg} (h : s.ok t) : ∀ a ∈ lts s, a ∈ (["a", "b", "p"] : List Str) := fun a ha => by
  have := ok_part s.sz (Nat.le_refl _) h ((mem_lts s a).mp ha)
  rcases this with rfl | rfl | rfl <;> simp
theorem ok_hds {t : Bool} {s : Sg} (h : s.ok t) : ∀ a ∈ hds s, a ∈ (["h", "k"] : List Str) := fun a ha => by
  obtain ⟨w, u, hu⟩ := (mem_hds s a).mp ha
  have := ok_part s.sz (Nat.le_refl _) h hu
  rcases this.1 with rfl | rfl <;> simp
theorem ok_ne5 {t : Bool} {s : Sg} (h : s.ok t) : ne s := ne_of s (fun a ha => by
  have := ok_lts h a ha
  simp only [List.mem_cons, List.not_mem_nil, or_false] at this
  rcases this with rfl | rfl | rfl <;> decide) fun a ha => by
  have := ok_hds h a ha
  simp only [List.mem_cons, List.not_mem_nil, or_false] at this
  rcases this with rfl | rfl <;> decide
theorem th_sg5 {s : Sg} (h : s.sok) (h1 : s.ht ≤ 31) (h2 : s.sz ≤ 3000) : Th 64 90000 s.d := by
  obtain ⟨a, b, c, d⟩ := sg_rp h
  exact ⟨a, by omega, c, by omega⟩
theorem sh_sg5 {s : Sg} (h : s.sok) (h1 : s.ht ≤ 29) : SeqAt.shaped s.d = true := by
  obtain ⟨a, b, _⟩ := sg_rp h
  exact shaped60 ⟨a, by omega⟩
theorem ne_refl5 {x : PyData} (h : SeqAt.shaped x = true) {μ : Mem} {P : W → Mem → Prop} : OkO (opEq true [.d x, .d x] μ) P = P (.d (.bool false)) μ := by
  simp only [okO_ne, h, and_self, or_true, true_and, (same_refl _ (shaped_lay h)).2, Bool.not_true]
theorem eq_refl5 {x : PyData} (h : SeqAt.shaped x = true) {μ : Mem} {P : W → Mem → Prop} : OkO (opEq false [.d x, .d x] μ) P = P (.d (.bool true)) μ := by
  simp only [okO_eq, h, and_self, or_true, true_and, (same_refl _ (shaped_lay h)).2]
theorem nes_refl5 {x : Str} {μ : Mem} {P : W → Mem → Prop} : OkO (opEq true [.d (.str x), .d (.str x)] μ) P = P (.d (.bool false)) μ := by
  simp [okO_ne, bothS]
structure Q5 (t : Bool) (s : Sg) : Prop where
  ok : s.ok t
  ht : s.ht ≤ 9
  sz : s.sz ≤ 19
section
variable {t : Bool} {s : Sg}
theorem Q5.part (h : Q5 t s) {x : Sg} (hx : x ∈ allP s) : Q5 t x := by
  obtain ⟨_, a, b, _⟩ := allP_sub hx
  exact ⟨ok_part _ (Nat.le_refl _) h.ok hx, by have := h.ht; omega, by have := h.sz; omega⟩
theorem Q5.text (h : Q5 t s) (μ : Mem) : callF F_saying_text [.d s.d] μ = .ok (.d (.str (txS s))) μ := (back_eq h.ok (by have := h.sz; omega) μ).1
theorem Q5.back (h : Q5 t s) (μ : Mem) : callF F_saying_readX [.d (.str (txS s))] μ = .ok (.d s.d) μ := (back_eq h.ok (by have := h.sz; omega) μ).2
theorem Q5.sho (h : Q5 t s) : SeqAt.shaped s.d = true := sh_sg5 h.ok.sok (by have := h.ht; omega)
theorem Q5.rp (h : Q5 t s) : Rp s.d := (th_sg5 h.ok.sok (by have := h.ht; omega) (by have := h.sz; omega)).rp (by omega) (by omega)
theorem Q5.dep (h : Q5 t s) : s.d.depth ≤ 19 := by
  obtain ⟨_, b, _⟩ := sg_rp h.ok.sok
  have := h.ht
  omega
theorem Q5.parts (h : Q5 t s) (μ : Mem) : callF partsF [.d s.d] μ = .ok (.d (.tuple (riseD (Sg.ds (allP s))))) μ := parts_eq h.ok.sok (by have := h.dep; omega) (by have := h.sz; omega) μ
theorem Q5.isy (h : Q5 t s) (μ : Mem) : callF F_is_saying [.d s.d] μ = .ok (.d (.bool true)) μ := by
  rw [is_saying_eq (th_sg5 h.ok.sok (by have := h.ht; omega) (by have := h.sz; omega)), say_sgT s h.ok.sok (ok_ne5 h.ok)]
theorem Q5.deps (h : Q5 t s) (μ : Mem) : callF (F_depth_of 30) [.d s.d] μ = .ok (.d (.int (s.dep : Nat))) μ := depth_eq 30 s (by have := h.ht; omega) (by have := h.sz; omega) μ
theorem Q5.ord (h : Q5 t s) : Ord (Sg.ds (allP s)) := ord_ds fun x hx => by
  have := h.part hx
  exact ⟨this.ok.sok, by have := this.ht; omega⟩
theorem Q5.all (h : Q5 t s) : ∃ l : List Sg, riseD (Sg.ds (allP s)) = l.map Sg.d ∧ (∀ x, x ∈ l ↔ x ∈ allP s) ∧ l.Nodup ∧ l.length ≤ 19 := by
  obtain ⟨l, e, hl⟩ := all_ds (P := fun x => x ∈ allP s) (xs := riseD (Sg.ds (allP s))) fun x hx => by
    obtain ⟨y, hy, e⟩ := mem_ds.mp (((rise_spec h.ord).2 x).mp hx)
    exact ⟨y, hy, e⟩
  refine ⟨l, by rw [e, ds_map], fun x => ⟨hl x, fun hx => ?_⟩, ?_, ?_⟩
  · have := ((rise_spec h.ord).2 x.d).mpr (mem_ds.mpr ⟨x, hx, rfl⟩)
    rw [e] at this
    obtain ⟨y, hy, ey⟩ := mem_ds.mp this
    rwa [← d_inj ey]
  · have := (rise_spec h.ord).1
    rw [e, ds_map, List.pairwise_map] at this
    refine this.imp fun {a b} q z => ?_
    rw [z] at q
    have := lt_asym _ _ q
    rw [q] at this
    cases this
  · have a := rise_len (Sg.ds (allP s))
    rw [e, ds_len, ds_len, allP_len] at a
    have := h.sz
    omega
end
end Mok05
set_option autoImplicit false
set_option maxHeartbeats 1000000
namespace Mok05
open PySem PySem.Spec PyProof.Rows L2
variable [Wd]
theorem okO_inTx {x y : Str} {μ : Mem} {P : W → Mem → Prop} : OkO (opInA true [.d (.str x), .d (.str y)] μ) P = P (.d (.bool (!occT x y))) μ := by
  simp [opInA, orO, opIn, peek, pB, occT]
theorem txts_lay {l L : List Str} {xs : List PyData} (h : TxtsD l xs) (hl : ∀ a ∈ l, a ∈ L) (hL : ∀ a ∈ L, PyData.strOk a = true) : PyData.canLayAll0 xs = true ∧ PyData.depthAll xs ≤ 0 := depth_all fun x hx => by
  obtain ⟨a, ha, rfl⟩ := txts_all h x hx
  exact ⟨hL a (hl a ha), by simp [PyData.depth]⟩
theorem txts_mem {l : List Str} {xs : List PyData} (h : TxtsD l xs) {x : PyData} : x ∈ xs ↔ ∃ a ∈ l, x = .str a := by
  obtain ⟨m, nd, mem, rfl⟩ := h
  rw [sort_mem, List.mem_map]
  constructor
  · rintro ⟨a, ha, rfl⟩
    exact ⟨a, (mem a).mp ha, rfl⟩
  · rintro ⟨a, ha, rfl⟩
    exact ⟨a, (mem a).mpr ha, rfl⟩
theorem txts_few {l L : List Str} {xs : List PyData} (h : TxtsD l xs) (hl : ∀ a ∈ l, a ∈ L) : xs.length ≤ L.length := by
  obtain ⟨m, nd, mem, rfl⟩ := h
  rw [(sortD_perm _).length_eq, List.length_map]
  exact sub_len nd fun a ha => hl a ((mem a).mp ha)
theorem any_self {x : PyData} {ys : List PyData} (hx : x ∈ ys) (l : x.canLay0 = true) : (ys.any fun y => PyData.eqv y x) = true := List.any_eq_true.mpr ⟨x, hx, (same_refl x l).2⟩
theorem lay_L : ∀ a ∈ (["a", "b", "p"] : List Str), PyData.strOk a = true := by
  intro a ha
  simp only [List.mem_cons, List.not_mem_nil, or_false] at ha
  rcases ha with rfl | rfl | rfl <;> decide +kernel
theorem lay_H : ∀ a ∈ (["h", "k"] : List Str), PyData.strOk a = true := by
  intro a ha
  simp only [List.mem_cons, List.not_mem_nil, or_false] at ha
  rcases ha with rfl | rfl <;> decide +kernel
section
variable {t : Bool} {s : Sg}
structure Al (s : Sg) (l : List Sg) (xs ys : List PyData) : Prop where
  ml : ∀ x, x ∈ l ↔ x ∈ allP s
  nd : l.Nodup
  ll : l.length ≤ 19
  hx : TxtsD (lts s) xs
  hy : TxtsD (hds s) ys
theorem Al.lay {l : List Sg} {xs ys : List PyData} (h : Q5 t s) (a : Al s l xs ys) : PyData.canLayAll0 (l.map Sg.d) = true ∧ PyData.depthAll (l.map Sg.d) ≤ 19 := depth_all fun x hx => by
  obtain ⟨y, hy, rfl⟩ := List.mem_map.mp hx
  have := h.part ((a.ml y).mp hy)
  exact ⟨(sg_rp this.ok.sok).1, this.dep⟩
theorem part5 (h : Q5 t s) {l : List Sg} {xs ys : List PyData} (A : Al s l xs ys) (p1 : ∀ μ, callF partsF [.d s.d] μ = .ok (.d (.tuple (l.map Sg.d))) μ) (lx : ∀ μ, callF lettersF [.d s.d] μ = .ok (.d (.tuple xs)) μ) {x : Sg} (hx : x ∈ allP s) {e3 e5 e6 : Option W} {N B C : Env → Mem → Prop} {R : W → Mem → Prop} {μ : Mem}
    (q : ∀ e5 e6, N [some (.d s.d), some (.d (.str (txS s))), some (.d (.tuple (l.map Sg.d))), e3, some (.d x.d), e5, e6] μ) :
    Oks (B_law_is_right_338 [some (.d s.d), some (.d (.str (txS s))), some (.d (.tuple (l.map Sg.d))), e3, some (.d x.d), e5, e6] μ) N R B C := by
  have hq := h.part hx
  obtain ⟨l2, el2, ml2, _, ll2⟩ := hq.all
  obtain ⟨xs2, hx2, lx2⟩ := letters_ex hq.ok.sok (by have := hq.sz; omega) ⟨["a", "b", "p"], by decide, ok_lts hq.ok⟩
  have p2 := fun μ => hq.parts μ
  rw [el2] at p2
  obtain ⟨lay1, dep1⟩ := A.lay h
  obtain ⟨lay2, dep2⟩ := txts_lay A.hx (ok_lts h.ok) lay_L
  have dp := dep_allP s.sz (Nat.le_refl _) hx
  have e0 : SeqAt.shaped (.list []) = true := by decide
  have z0 : (0 : Nat) ≤ sizeLine := Nat.zero_le _
  have sub : ∀ y ∈ l2, y ∈ l := fun y hy => (A.ml y).mpr ((allP_sub hx).2.2.2 y ((ml2 y).mp hy))
  rw [B_law_is_right_338, oks_seq, oks_if]
  simp only [ok_dOr, ok_dTb, ok_dP2, ok_dCall, ok_dCons, ok_dNil, ok_dVs, ok_dV0, List.map_nil, List.append_nil, hq.text, ok_ok, okO_inTx, occ_part hx, Bool.not_true, ok_asBl, Bool.false_eq_true, if_false, hq.deps, h.deps, okO_gt]
  rw [if_neg (by simp only [decide_eq_true_eq]; omega), oks_next, B_law_is_right_340, oks_seq, oks_if]
  simp only [ok_dTb, ok_dP2, ok_dLc, ok_dI, ok_dCall, ok_dCons, ok_dNil, ok_dVs, ok_dV0, List.map_nil, List.append_nil, p2, ok_ok, iV_t]
  refine lc_of (d := Sg.d) (xs := l2) (fun q => [some (.d s.d), some (.d (.str (txS s))), some (.d (.tuple (l.map Sg.d))), e3, some (.d x.d), some (.d q.d), e6]) (fun _ => false) Sg.d (by omega) (fun q hq => rfl) (fun y hy => ?_) ?_
  · have sy : SeqAt.shaped y.d = true := (hq.part ((ml2 y).mp hy)).sho
    have ay : ((l.map Sg.d).any fun z => PyData.eqv z y.d) = true := any_self (List.mem_map.mpr ⟨y, sub y hy, rfl⟩) (shaped_lay sy)
    simp only [ok_dTb, ok_dP2, ok_dVs, ok_dV0, okO_in2 sy lay1, ay, if_true, Bool.not_true, ok_asBl]
    exact ⟨trivial, trivial, fun z => nomatch z⟩
  · rw [lcEnd_f, List.filter_eq_nil_iff.mpr (fun _ _ => by decide), List.map_nil]
    simp only [ok_dPn, ok_dNil, okO_lst0, datas, List.length_nil, z0, true_and, ne_refl5 e0, ok_asBl, Bool.false_eq_true, if_false, oks_next]
    rw [B_law_is_right_342, oks_if]
    simp only [ok_dTb, ok_dP2, ok_dLc, ok_dI, ok_dCall, ok_dCons, ok_dNil, ok_dVs, ok_dV0, List.map_nil, List.append_nil, lx2, ok_ok, iV_t]
    refine lc_pure (fun _ => false) id rfl trivial (by have := txts_few hx2 (ok_lts hq.ok); simp only [List.length_cons, List.length_nil] at this; show xs2.length ≤ sizeLine; exact le_million (by omega)) (fun z hz => ?_) ?_
    · obtain ⟨a, ha, rfl⟩ := (txts_mem hx2).mp hz
      have ha2 : a ∈ lts s := (mem_lts s a).mpr ((allP_sub hx).2.2.2 _ ((mem_lts x a).mp ha))
      have sa : SeqAt.shaped (.str a) = true := shaped60 ⟨lay_L a (ok_lts h.ok a ha2), by simp [PyData.depth]⟩
      have ay : (xs.any fun z => PyData.eqv z (.str a)) = true := any_self ((txts_mem A.hx).mpr ⟨a, ha2, rfl⟩) (shaped_lay sa)
      refine ⟨_, rfl, ?_⟩
      simp only [wipeE, List.set, ok_dTb, ok_dP2, ok_dVs, ok_dV0, ok_dCall, ok_dCons, ok_dNil, List.map_nil, List.append_nil, lx, ok_ok, okO_in2 sa lay2, ay, if_true, Bool.not_true, ok_asBl]
      exact ⟨trivial, trivial, fun z => nomatch z⟩
    · rw [lcEnd_f, List.filter_eq_nil_iff.mpr (fun _ _ => by decide), List.map_nil]
      simp only [ok_dPn, ok_dNil, okO_lst0, datas, List.length_nil, z0, true_and, ne_refl5 e0, ok_asBl, Bool.false_eq_true, if_false, oks_next]
      exact q _ _
theorem is_right5 (h : Q5 t s) (μ : Mem) : callF F_law_is_right [.d s.d] μ = .ok (.d (.bool true)) μ := by
  refine call_pure rfl ?_
  obtain ⟨l, el, ml, nd, ll⟩ := h.all
  obtain ⟨xs, hx, lx⟩ := letters_ex h.ok.sok (by have := h.sz; omega) ⟨["a", "b", "p"], by decide, ok_lts h.ok⟩
  obtain ⟨ys, hy, ly⟩ := hands_ex h.ok.sok (by have := h.sz; omega) ⟨["h", "k"], by decide, ok_hds h.ok⟩
  have A : Al s l xs ys := ⟨ml, nd, ll, hx, hy⟩
  have p1 := fun μ => h.parts μ
  rw [el] at p1
  obtain ⟨lay1, dep1⟩ := A.lay h
  obtain ⟨lay2, dep2⟩ := txts_lay hx (ok_lts h.ok) lay_L
  obtain ⟨lay3, dep3⟩ := txts_lay hy (ok_hds h.ok) lay_H
  have z2 : (2 : Nat) ≤ sizeLine := by decide
  have z3 : (3 : Nat) ≤ sizeLine := by decide
  have sh3 : SeqAt.shaped (.list [.tuple (l.map Sg.d), .tuple xs, .tuple ys]) = true := shaped60 ⟨by simp [PyData.canLay0, PyData.canLayAll0, lay1, lay2, lay3], by simp only [PyData.depth, PyData.depthAll]; omega⟩
  have shT : SeqAt.shaped (.tuple (l.map Sg.d)) = true := shaped60 ⟨by simp [PyData.canLay0, lay1], by simp only [PyData.depth]; omega⟩
  have inj : ∀ a ∈ l, ∀ b ∈ l, txS a = txS b → a = b := fun a ha b hb e => by
    have qa := h.part ((ml a).mp ha)
    have qb := h.part ((ml b).mp hb)
    exact txS_inj qa.ok.sok (ok_wn a qa.ok) (by have := txt_len a qa.ok; have := qa.sz; omega) qb.ok.sok (ok_wn b qb.ok) (by have := txt_len b qb.ok; have := qb.sz; omega) e
  have ndt : (l.map txS).Nodup := List.pairwise_map.mpr (List.Pairwise.imp_of_mem (fun {a b} ha hb n e => n (inj a ha b hb e)) nd)
  have few : (nub (l.map txS)).length < 63 := by rw [nub_self ndt, List.length_map]; omega
  have rr : riseD (l.map Sg.d) = l.map Sg.d := by
    rw [← el]
    exact rise_congr h.ord fun x => (rise_spec h.ord).2 x
  have oo : Ord (l.map Sg.d) := by
    rw [← el]
    exact h.ord.sub fun y hy => ((rise_spec h.ord).2 y).mp hy
  rw [F_law_is_right, ok_fnF1, B_law_is_right, B_law_is_right_329, oks_seq, oks_asg]
  simp only [List.replicate, Nat.reduceSub, ok_dPn, ok_dCons, ok_dNil, ok_dCall, ok_dV0, List.map_nil, List.append_nil, h.text, ok_ok, p1, okO_tup, datas, Option.map, List.length_cons, List.length_nil, Nat.reduceAdd, z2, true_and, gT2, List.set]
  rw [B_law_is_right_330, oks_seq, oks_set]
  simp only [ok_dCall, ok_dCons, ok_dNil, ok_dVs, ok_dV0, List.map_nil, List.append_nil, h.back, ok_ok, List.set]
  rw [B_law_is_right_331, oks_seq, oks_if]
  simp only [ok_dOr, ok_dTb, ok_dP2, ok_dPn, ok_dCall, ok_dCons, ok_dNil, ok_dVs, ok_dV0, ok_dC, List.map_nil, List.append_nil, okO_repr h.rp, nes_refl5, h.text, h.isy, ok_ok, ok_asBl, Bool.false_eq_true, if_false, okO_isB, isBo, if_true, Bool.not_true, beq_self_eq_true, oks_next]
  rw [B_law_is_right_333, oks_seq, oks_if]
  simp only [ok_dTb, ok_dP2, ok_dPn, ok_dCall, ok_dCons, ok_dNil, ok_dVs, ok_dV0, List.map_nil, List.append_nil, p1, lx, ly, ok_ok, okO_lst0, datas, Option.map, List.length_cons, List.length_nil, Nat.reduceAdd, z3, true_and, ne_refl5 sh3, ok_asBl, Bool.false_eq_true, if_false, oks_next]
  rw [B_law_is_right_335, oks_seq, oks_if]
  simp only [ok_dOr, ok_dTb, ok_dP2, ok_dP1, ok_dCall, ok_dCons, ok_dNil, ok_dVs, ok_dV0, List.map_nil, List.append_nil, h.deps, ok_ok, ne_refl5 (show SeqAt.shaped (.int (s.dep : Nat)) = true from rfl), ok_asBl, Bool.false_eq_true, if_false, ok_dLc, ok_dI, iV_t]
  refine lc_of (d := Sg.d) (xs := l) (tt := dYes) (fun q => [some (.d s.d), some (.d (.str (txS s))), some (.d (.tuple (l.map Sg.d))), some (.d s.d), some (.d q.d), none, none]) (fun _ => true) (fun q => .str (txS q)) (by omega) (fun q hq => rfl) (fun q hq => ?_) ?_
  · have hq2 := h.part ((ml q).mp hq)
    simp [dYes, hq2.text]
  · have em : ((l.filter fun _ => true).map fun q => PyData.str (txS q)) = (l.map txS).map .str := by
      rw [List.filter_eq_self.mpr fun _ _ => rfl, List.map_map]
      rfl
    rw [em, lcEnd_f, okO_lenS few, nub_self ndt, List.length_map]
    simp only [ok_dPn, ok_dCons, ok_dNil, ok_dVs, ok_dV0, okO_lent, List.length_map, ne_refl5 (show SeqAt.shaped (.int (l.length : Nat)) = true from rfl), ok_asBl, Bool.false_eq_true, if_false, oks_next]
    rw [B_law_is_right_337, oks_seq, oks_for, ok_dI, dV_of (w := .d (.tuple (l.map Sg.d))) rfl, ok_ok, iV_t]
    refine for_each (fun ρ => ∃ e4 e5 e6, ρ = [some (.d s.d), some (.d (.str (txS s))), some (.d (.tuple (l.map Sg.d))), some (.d s.d), e4, e5, e6]) ⟨_, _, _, rfl⟩ ?_ ?_
    · rintro y hy ρ ⟨e4, e5, e6, rfl⟩
      obtain ⟨x, hx2, rfl⟩ := List.mem_map.mp hy
      refine ⟨_, rfl, ?_⟩
      exact part5 h A p1 lx ((ml x).mp hx2) fun e5 e6 => ⟨⟨_, _, _, rfl⟩, rfl⟩
    · rintro ρ ⟨e4, e5, e6, rfl⟩
      have on : ∀ μ, callF onceF [.d (.list (l.map Sg.d))] μ = .ok (.d (.list (l.map Sg.d))) μ := fun μ => by
        have := call_pure (μ := μ) (xs := [.list (l.map Sg.d)]) rfl (once_ok oo (by rw [List.length_map]; omega))
        rwa [rr] at this
      have zl : (l.map Sg.d).length ≤ sizeLine := by rw [List.length_map]; exact le_million (by omega)
      have ay : ((l.map Sg.d).any fun z => PyData.eqv z s.d) = true := any_self (List.mem_map.mpr ⟨s, (ml s).mpr (by rw [allP_inn]; exact List.mem_cons_self), rfl⟩) (shaped_lay h.sho)
      simp only [oks_ret, ok_dAndV, ok_dP2, ok_dPn, ok_dCons, ok_dNil, ok_dCall, ok_dVs, ok_dV0, okO_lst, zl, true_and, List.map_nil, List.append_nil, on, ok_ok, okO_tul, eq_refl5 shT, ok_asB, if_true, okO_in2 h.sho lay1, ay, Bool.false_eq_true, if_false]
end
end Mok05
set_option autoImplicit false
set_option maxHeartbeats 1000000
namespace Mok05
open PySem PySem.Spec PyProof.Rows L2
variable [Wd]
mutual
theorem ok_core {t : Bool} : ∀ s : Sg, s.ok t → (core s).ok t
  | .lt x, h => h
  | .no s, h => ok_core s h
  | .many w l, h => ⟨ok_cores l h.1, by rw [cores_map, List.length_map]; exact h.2⟩
  | .so a b, h => ⟨ok_core a h.1, ok_core b h.2⟩
  | .tl a b, h => ⟨h.1, ok_core a h.2.1, ok_core b h.2.2⟩
  | .mod w x s, h => by cases w <;> exact ⟨h.1, ok_core s h.2⟩
theorem ok_cores {t : Bool} : ∀ l : List Sg, Sg.oks t l → Sg.oks t (cores l)
  | [], _ => trivial
  | s :: r, h => ⟨ok_core s h.1, ok_cores r h.2⟩
end
mutual
theorem ok_pu {t : Bool} : ∀ (s : Sg) (k : Bool), s.ok t → (pu k s).ok t
  | .lt x, k, h => by cases k <;> exact h
  | .no s, k, h => ok_pu s (!k) h
  | .many w l, k, h => ⟨ok_pus l k h.1, by rw [pus_map, List.length_map]; exact h.2⟩
  | .so a b, k, h => ⟨⟨ok_pu a (!k) h.1, ok_pu b k h.2, trivial⟩, by simp⟩
  | .tl a b, k, h => h
  | .mod w x s, k, h => ⟨h.1, ok_pu s k h.2⟩
theorem ok_pus {t : Bool} : ∀ (l : List Sg) (k : Bool), Sg.oks t l → Sg.oks t (pus k l)
  | [], _, _ => trivial
  | s :: r, k, h => ⟨ok_pu s k h.1, ok_pus r k h.2⟩
end
mutual
theorem ok_few {t : Bool} : ∀ s : Sg, s.ok t → (few s).ok t
  | .lt x, h => h
  | .no s, h => ok_few s h
  | .many w l, h => by
    have := ok_fews l h.1
    cases w
    · exact ⟨this.1, by rw [fews_map, List.length_map]; exact h.2⟩
    · exact ⟨this.2, by rw [fewn_map, List.length_map, List.length_map]; exact h.2⟩
  | .so a b, h => ⟨⟨ok_few a h.1, ok_few b h.2, trivial⟩, by simp⟩
  | .tl a b, h => h
  | .mod w x s, h => by cases w <;> exact ⟨h.1, ok_few s h.2⟩
theorem ok_fews {t : Bool} : ∀ l : List Sg, Sg.oks t l → Sg.oks t (fews l) ∧ Sg.oks t (fewn l)
  | [], _ => ⟨trivial, trivial⟩
  | s :: r, h => ⟨⟨ok_few s h.1, (ok_fews r h.2).1⟩, ⟨ok_few s h.1, (ok_fews r h.2).2⟩⟩
end
structure B5 (s : Sg) : Prop where
  ok : s.ok false
  ht : s.ht ≤ 29
  sz : s.sz ≤ 100
theorem B5.back {s : Sg} (h : B5 s) (μ : Mem) : callF F_law_back [.d s.d] μ = .ok (.d s.d) μ := by
  refine call_pure rfl ?_
  have a := fun μ => (back_eq h.ok (by have := h.sz; omega) μ).1
  have b := fun μ => (back_eq h.ok (by have := h.sz; omega) μ).2
  rw [F_law_back, ok_fnF1, B_law_back, oks_ret]
  simp only [ok_dCall, ok_dCons, ok_dNil, ok_dV0, List.map_nil, List.append_nil, a, b, ok_ok]
theorem B5.rp {s : Sg} (h : B5 s) : Rp s.d := (th_sg5 h.ok.sok (by have := h.ht; omega) (by have := h.sz; omega)).rp (by omega) (by omega)
theorem B5.ispl {s : Sg} (h : B5 s) (μ : Mem) : callF F_is_plain_saying [.d s.d] μ = .ok (.d (.bool true)) μ := by
  rw [is_plain_eq (th_sg5 h.ok.sok (by have := h.ht; omega) (by have := h.sz; omega)), say_sg s (ok_pl h.ok) h.ok.sok (ok_ne5 h.ok)]
noncomputable abbrev T5 : List (Str × Fn) := [("core_of", (coreF 14)), ("pushed_in", F_pushed_in), ("in_few_words", (F_in_few_words 40)), ("told_out", (F_told_out 30))]
theorem make5 {s u : Sg} (hs : B5 s) (hu : B5 u) {x : Str} {F : Fn} (hF : fnOf x T5 = some F) (hc : ∀ μ, callF F [.d s.d] μ = .ok (.d u.d) μ) {e2 : Option W} {N B C : Env → Mem → Prop} {R : W → Mem → Prop} {μ : Mem} (q : N [some (.d s.d), some (.o (.gf x)), some (.d u.d)] μ) :
    Oks (B_law_plain_right_347 [some (.d s.d), some (.o (.gf x)), e2] μ) N R B C := by
  rw [B_law_plain_right_347, oks_seq, oks_set, ok_dCallW (x := x) (F := F) rfl hF]
  simp only [ok_dCons, ok_dNil, ok_dV0, hc, ok_ok, List.set]
  rw [B_law_plain_right_348, oks_seq, oks_if, ok_dOr, ok_dTb, ok_dP2, ok_dPn, ok_dCons, ok_dCallW (x := x) (F := F) rfl hF]
  simp only [ok_dCall, ok_dCons, ok_dNil, ok_dVs, ok_dV0, List.map_nil, List.append_nil, hs.back, hu.back, hc, ok_ok, okO_repr hu.rp, ok_dPn, nes_refl5, ok_asBl, Bool.false_eq_true, if_false, ok_dTb, ok_dP2, oks_next]
  rw [B_law_plain_right_350, oks_if]
  simp only [ok_dTb, ok_dP2, ok_dCall, ok_dCons, ok_dNil, ok_dVs, ok_dV0, ok_dC, List.map_nil, List.append_nil, hu.ispl, ok_ok, okO_isB, isBo, if_true, Bool.not_true, beq_self_eq_true, ok_asBl, Bool.false_eq_true, if_false, oks_next]
  exact q
theorem plain5 {s : Sg} (h : s.ok false) (h1 : s.ht ≤ 6) (h2 : s.sz ≤ 13) (μ : Mem) : callF F_law_plain_right [.d s.d] μ = .ok (.d (.bool true)) μ := by
  refine call_pure rfl ?_
  have sok := h.sok
  have pl := ok_pl h
  have c := core_sz s
  have p := pu_sz s true sok
  have f := few_sz s sok
  have rd : Rd s := fun a b hab => (allP_pl s pl _ hab).elim
  have bs : B5 s := ⟨h, by omega, by omega⟩
  have bc : B5 (core s) := ⟨ok_core s h, by omega, by omega⟩
  have bp : B5 (pu true s) := ⟨ok_pu s true h, by omega, by omega⟩
  have bf : B5 (few s) := ⟨ok_few s h, by omega, by omega⟩
  have k1 := fun μ => core_ok 14 s (by omega) sok μ
  have k2 := fun μ => pushin_eq (s := s) (by omega) sok pl μ
  have k3 := fun μ => few_eq (s := s) (by omega) sok pl μ
  have k4 := fun μ => tout_eq (s := s) (by omega) rd sok μ
  rw [tout_self s pl] at k4
  have cs : Cs 14 s := ⟨sok, by omega, by obtain ⟨_, b, _⟩ := sg_rp (c.2.2 sok); omega, by omega, by omega⟩
  have ha := fun μ => atoms_eq cs μ
  have sh : SeqAt.shaped (.tuple (atomsD s)) = true := by
    obtain ⟨A, e, _, _, _, hA⟩ := at_of2 cs pl
    have : PyData.canLayAll0 (atomsD s) = true ∧ PyData.depthAll (atomsD s) ≤ 40 := depth_all fun x hx => by
      rw [e] at hx
      obtain ⟨y, hy, rfl⟩ := mem_ds.mp hx
      obtain ⟨k, kt, _⟩ := allP_sub (hA y hy)
      obtain ⟨q1, q2, _⟩ := sg_rp (k (c.2.2 sok))
      exact ⟨q1, by omega⟩
    exact shaped60 ⟨by simpa [PyData.canLay0] using this.1, by simp only [PyData.depth]; omega⟩
  rw [F_law_plain_right, ok_fnF1, B_law_plain_right, B_law_plain_right_346, oks_seq, oks_sForW]
  simp only [List.replicate, Nat.reduceSub, ok_dCons, ok_dGf, ok_dNil, List.length_cons, List.length_nil, Nat.reduceAdd]
  rw [if_pos (by decide), oks_forW1]
  refine make5 bs bc (F := coreF 14) rfl k1 ?_
  rw [oks_forW1]
  refine make5 bs bp (F := F_pushed_in) rfl k2 ?_
  rw [oks_forW1]
  refine make5 bs bf (F := F_in_few_words 40) rfl k3 ?_
  rw [oks_forW1]
  refine make5 bs bs (F := F_told_out 30) rfl k4 ?_
  rw [oks_forW0, oks_ret]
  simp only [ok_dAndV, ok_dP2, ok_dPn, ok_dCall, ok_dCons, ok_dNil, ok_dV0, List.map_nil, List.append_nil, bs.back, ok_ok, ha, eq_refl5 sh, ok_asB, if_true, k4, okO_repr bs.rp, okO_eq, bothS, true_or, true_and]
  simp
end Mok05
set_option autoImplicit false
set_option maxHeartbeats 1000000
namespace Mok05
open PySem PySem.Spec PyProof.Rows L2
variable [Wd]
theorem nub_le : ∀ l : List Str, (nub l).length ≤ l.length
  | [] => Nat.le_refl _
  | a :: l => by
    have := nub_le l
    unfold nub
    split
    · rw [List.length_cons]; omega
    · rw [List.length_cons, List.length_cons]; omega
def All5 (S : List Sg) : Prop := ∀ s ∈ S, ∃ t, Q5 t s
theorem turn5 {ns : List Int} {v : Int} {S : List Sg} {K : Int} {μ : Mem} {e4 : Option W} {N B C : Env → Mem → Prop} {R : W → Mem → Prop} (hv : v % 2 = 0 ∨ v % 2 = 1) (hM : Mf K μ) (h1 : μ[1]? = some (.l (S.map Sg.d))) (hK : K ≤ 100000) (hS : S.length ≤ 100)
    (q : ∀ s μ', (∃ t, Q5 t s) → Mf (K + 60) μ' → μ'[1]? = some (.l ((S ++ [s]).map Sg.d)) → N [some (.s ns), some (.r 0), some (.r 1), some (.d (.int v)), some (.d s.d)] μ') :
    Oks (B_law_357 [some (.s ns), some (.r 0), some (.r 1), some (.d (.int v)), e4] μ) N R B C := by
  have zl : (S.map Sg.d).length + 1 ≤ sizeLine := by rw [List.length_map]; exact le_million (by omega)
  have hn := (List.getElem?_eq_some_iff.mp h1).1
  have fin : ∀ (t : Bool) (s : Sg) (μ' : Mem), (t = true ↔ v % 2 = 0) → Q5 t s → (t = false → s.ht ≤ 6 ∧ s.sz ≤ 13) → Mf (K + 60) μ' → Beh μ μ' →
      Oks (B_law_358 [some (.s ns), some (.r 0), some (.r 1), some (.d (.int v)), some (.d s.d)] μ') N R B C := by
    intro t s μ' ht hq hp m' b'
    have h1' := b' 1 _ (Nat.le_refl _) h1
    have hn' := (List.getElem?_eq_some_iff.mp h1').1
    have ap : ∀ (P : W → Mem → Prop), OkO (opAppend [.r 1, .d s.d] μ') P = P (.d .none) (μ'.set 1 (.l (S.map Sg.d ++ [s.d]))) := fun P => okO_app h1' zl
    have ty : tyW "list" (.r 1) μ' = true := by simp [tyW, h1']
    rw [B_law_358, oks_seq, oks_expr]
    simp only [ok_dMt, ok_dVs, ok_dV0, ty, true_and, ok_dCons, ok_dNil, ap]
    rw [B_law_359, oks_seq, oks_if]
    simp only [ok_dNot, ok_dTv, ok_dCall, ok_dCons, ok_dNil, ok_dVs, ok_dV0, List.map_nil, List.append_nil, is_right5 hq, ok_ok, ok_asB, Bool.not_true, Bool.false_eq_true, if_false, oks_next]
    have done := q s (μ'.set 1 (.l (S.map Sg.d ++ [s.d]))) ⟨t, hq⟩ (m'.set (Nat.le_refl _) _) (by rw [List.getElem?_set_self hn', List.map_append]; rfl)
    rw [B_law_361, oks_if]
    simp only [ok_dAnd, ok_dTb, ok_dP2, ok_dVs, ok_dV0, ok_dC, okO_mod]
    refine ⟨by decide, ?_⟩
    rw [okO_eq]
    refine ⟨.inr ⟨rfl, rfl⟩, ?_⟩
    rw [ok_asBl]
    by_cases e : v % 2 = 0
    · have e1 : PyData.eqv (.int (v % 2)) (.int 1) = false := by rw [e]; rfl
      rw [e1, if_neg (by decide), if_neg (by decide), oks_next]
      exact done
    · have e2 : v % 2 = 1 := by omega
      have e1 : PyData.eqv (.int (v % 2)) (.int 1) = true := by rw [e2]; rfl
      have tf : t = false := by
        cases t with
        | true => exact (e (ht.mp rfl)).elim
        | false => rfl
      subst tf
      obtain ⟨p1, p2⟩ := hp rfl
      rw [e1, if_pos rfl]
      simp only [ok_dNot, ok_dTv, ok_dCall, ok_dCons, ok_dNil, ok_dVs, ok_dV0, List.map_nil, List.append_nil, plain5 hq.ok p1 p2, ok_ok, ok_asB, Bool.not_true, Bool.false_eq_true, if_false, oks_next]
      exact done
  have cm : ∀ i : Int, i = 0 ∨ i = 1 → CMulX 3 i := fun i h => by rcases h with rfl | rfl <;> (unfold CMulX; decide)
  rw [B_law_357, oks_seq, oks_set]
  simp only [ok_dCall, ok_dCons, ok_dNil, ok_dPn, ok_dP2, ok_dVs, ok_dV0, ok_dC, okO_mod, okO_mul, okO_sub, okO_lst1, datas, Option.map, List.length_cons, List.length_nil, Nat.reduceAdd, cm _ hv, true_and, okO_eq, List.map_nil, List.append_nil, List.set]
  have z1 : (1 : Nat) ≤ sizeLine := by decide
  rcases hv with e | e
  · rw [e]
    refine ⟨by decide, z1, by decide, .inr ⟨rfl, rfl⟩, ?_⟩
    refine call_say (t := true) hM (by decide) (by decide) (by simp only [fL]; omega) fun s μ2 hs m2 b2 => ?_
    have i1 : s.int ≤ 9 := by have := hs.int; simp only [fL] at this; omega
    have i2 : s.lv ≤ 10 := hs.lv (by decide)
    have sz := lv_int s
    exact fin true s μ2 (by simp [e]) ⟨hs.ok, by omega, by omega⟩ (fun z => nomatch z) (m2.mono (by simp only [fL]; omega)) b2
  · rw [e]
    refine ⟨by decide, z1, by decide, .inr ⟨rfl, rfl⟩, ?_⟩
    refine call_say (t := false) hM (by decide) (by decide) (by simp only [fL]; omega) fun s μ2 hs m2 b2 => ?_
    have i1 : s.int ≤ 6 := by have := hs.int; simp only [fL] at this; omega
    have i2 : s.lv ≤ 7 := hs.lv (by decide)
    have sz := lv_int s
    exact fin false s μ2 (by simp [e]) ⟨hs.ok, by omega, by omega⟩ (fun _ => ⟨by omega, by omega⟩) (m2.mono (by simp only [fL]; omega)) b2
def Lo5 (ns : List Int) (done : List PyData) (ρ : Env) (μ : Mem) : Prop := ∃ e3 e4 S, ρ = [some (.s ns), some (.r 0), some (.r 1), e3, e4] ∧ Mf (60 * done.length) μ ∧ μ[1]? = some (.l (S.map Sg.d)) ∧ S.length = done.length ∧ All5 S
theorem law_true (ns : List Int) (hns : ns.length ≤ 63) (_hb : ∀ z ∈ ns, Builtin.Int.intBits z ≤ 1048576) : ∃ μ, F_law [.s ns] [] = .ok (.d (.bool true)) μ := by
  refine law_of ?_
  unfold F_law B_law B_law_354
  simp
  refine call_feed hns fun xs hm => ?_
  rw [B_law_355]
  simp
  rw [B_law_356]
  simp
  refine ⟨inR_lit (by decide), ?_⟩
  refine for_inv (xs := intsOf 0 8) (s := (intsOf 0 8, none)) (Lo5 ns) rfl (fun _ _ _ _ _ => trivial) ⟨none, none, [], rfl, ?_, rfl, rfl, fun _ h => nomatch h⟩ ?_ ?_
  · obtain ⟨ys, h1, h2⟩ := hm
    exact ⟨ys, mem_get _ h1, by simpa using h2⟩
  · rintro done x r ρ μ e ⟨e3, e4, S, rfl, hM, h1, hS, hA⟩
    obtain ⟨hd, rfl⟩ := done_at e
    refine turn5 (by omega) hM h1 (by omega) (by omega) fun s μ' hs m' h1' => ?_
    exact ⟨_, _, S ++ [s], rfl, by simpa [Int.mul_add] using m', h1', by simp [hS], fun z hz => by
      rcases List.mem_append.mp hz with hz | hz
      · exact hA z hz
      · rw [List.mem_singleton.mp hz]; exact hs⟩
  · rintro ρ μ ⟨e3, e4, S, rfl, hM, h1, hS, hA⟩
    rw [intsOf_len] at hS
    have ap : ∀ (x : Sg), x ∈ S → ∃ t, Q5 t x := hA
    have f1 : frzW (.r 1) μ = some (.list (S.map Sg.d), μ.set 1 .dead) := by simp [frzW, h1]
    rw [dV_of (w := .r 1) rfl, ok_ok, f1]
    dsimp only
    simp only [List.set, ok_dLc, ok_dI, ok_dVs, ok_dV0, iV_l]
    refine lc_of (d := Sg.d) (xs := S) (tt := dYes) (fun q => [some (.s ns), some (.r 0), some (.d (.list (S.map Sg.d))), e3, some (.d q.d)]) (fun _ => true) (fun q => .str (txS q)) (by omega) (fun q hq => rfl) (fun q hq => ?_) ?_
    · obtain ⟨t, hq2⟩ := hA q hq
      simp [dYes, hq2.text]
    · have em : ((S.filter fun _ => true).map fun q => PyData.str (txS q)) = (S.map txS).map .str := by
        rw [List.filter_eq_self.mpr fun _ _ => rfl, List.map_map]
        rfl
      rw [em, lcEnd_f, okO_lenS (by have := nub_le (S.map txS); rw [List.length_map] at this; omega)]
      refine lc_of (d := Sg.d) (xs := S) (tt := dYes) (fun q => [some (.s ns), some (.r 0), some (.d (.list (S.map Sg.d))), e3, some (.d q.d)]) (fun _ => true) (fun q => .str q.d.shown) (by omega) (fun q hq => rfl) (fun q hq => ?_) ?_
      · obtain ⟨t, hq2⟩ := hA q hq
        simp [dYes, okO_repr hq2.rp]
      · have em : ((S.filter fun _ => true).map fun q => PyData.str q.d.shown) = (S.map fun q => q.d.shown).map .str := by
          rw [List.filter_eq_self.mpr fun _ _ => rfl, List.map_map]
          rfl
        have en : (nub (S.map txS)).length = (nub (S.map fun q => q.d.shown)).length := nub_map fun a ha b hb => by
          obtain ⟨_, qa⟩ := hA a ha
          obtain ⟨_, qb⟩ := hA b hb
          constructor
          · intro e
            rw [txS_inj qa.ok.sok (ok_wn a qa.ok) (by have := txt_len a qa.ok; have := qa.sz; omega) qb.ok.sok (ok_wn b qb.ok) (by have := txt_len b qb.ok; have := qb.sz; omega) e]
          · intro e
            rw [repr_inj qa.ok.sok qb.ok.sok e]
        rw [em, lcEnd_f, okO_lenS (by have := nub_le (S.map fun q => q.d.shown); rw [List.length_map] at this; omega), en, eq_refl5 rfl]
end Mok05
set_option autoImplicit false
namespace Mok05
open PySem PySem.Spec PyProof.Rows L2
variable [Wd]
set_option maxHeartbeats 0 in
theorem all_mk {P : Program} {w : World} {K : PySem.W.Frag} {h base : Heap} {mg : Str → Option Value} (hP : Wd.P = P) (hW : Wd.w = w) (X : K.In h) (G : h.Ns mainGlobals mg)
    {f5 f6 f7 f8 f9 f10 f13 f14 f15_0 f15_1 f15_2 f15_3 f15_4 f15_5 f15_6 f15_7 f15_8 f15_9 f15_10 f17 f18 f19 f20 f21 f22 f23 f24 f26 f27 f29 f32 f33 f35 f36 f37 f39 f40 f42 f43 f44 f45 f46 f47 f48 f49 Kl15 Kx2 fx2 : Addr} {od5 an5 od6 an6 od7 an7 od8 an8 od9 an9 od10 an10 od13 an13 od14 an14 od15_0 an15_0 od15_1 an15_1 od15_2 an15_2 od15_3 an15_3 od15_4 an15_4 od15_5 an15_5 od15_6 an15_6 od15_7 an15_7 od15_8 an15_8 od15_9 an15_9 od15_10 an15_10 od17 an17 od18 an18 od19 an19 od20 an20 od21 an21 od22 an22 od23 an23 od24 an24 od26 an26 od27 an27 od29 an29 od32 an32 od33 an33 od35 an35 od36 an36 od37 an37 od39 an39 od40 an40 od42 an42 od43 an43 od44 an44 od45 an45 od46 an46 od47 an47 od48 an48 od49 an49 odx2 anx2 : Option Addr} {sl5 sl6 sl7 sl8 sl9 sl10 sl13 sl14 sl15_0 sl15_1 sl15_2 sl15_3 sl15_4 sl15_5 sl15_6 sl15_7 sl15_8 sl15_9 sl15_10 sl17 sl18 sl19 sl20 sl21 sl22 sl23 sl24 sl26 sl27 sl29 sl32 sl33 sl35 sl36 sl37 sl39 sl40 sl42 sl43 sl44 sl45 sl46 sl47 sl48 sl49 slx2 : Array (Option Value)} {oc5 kV5 dc5 pm5 cd5 ct5 oc6 kV6 dc6 pm6 cd6 ct6 oc7 kV7 dc7 pm7 cd7 ct7 oc8 kV8 dc8 pm8 cd8 ct8 oc9 kV9 dc9 pm9 cd9 ct9 oc10 kV10 dc10 pm10 cd10 ct10 oc13 kV13 dc13 pm13 cd13 ct13 oc14 kV14 dc14 pm14 cd14 ct14 oc15_0 kV15_0 dc15_0 pm15_0 cd15_0 ct15_0 oc15_1 kV15_1 dc15_1 pm15_1 cd15_1 ct15_1 oc15_2 kV15_2 dc15_2 pm15_2 cd15_2 ct15_2 oc15_3 kV15_3 dc15_3 pm15_3 cd15_3 ct15_3 oc15_4 kV15_4 dc15_4 pm15_4 cd15_4 ct15_4 oc15_5 kV15_5 dc15_5 pm15_5 cd15_5 ct15_5 oc15_6 kV15_6 dc15_6 pm15_6 cd15_6 ct15_6 oc15_7 kV15_7 dc15_7 pm15_7 cd15_7 ct15_7 oc15_8 kV15_8 dc15_8 pm15_8 cd15_8 ct15_8 oc15_9 kV15_9 dc15_9 pm15_9 cd15_9 ct15_9 oc15_10 kV15_10 dc15_10 pm15_10 cd15_10 ct15_10 oc17 kV17 dc17 pm17 cd17 ct17 oc18 kV18 dc18 pm18 cd18 ct18 oc19 kV19 dc19 pm19 cd19 ct19 oc20 kV20 dc20 pm20 cd20 ct20 oc21 kV21 dc21 pm21 cd21 ct21 oc22 kV22 dc22 pm22 cd22 ct22 oc23 kV23 dc23 pm23 cd23 ct23 oc24 kV24 dc24 pm24 cd24 ct24 oc26 kV26 dc26 pm26 cd26 ct26 oc27 kV27 dc27 pm27 cd27 ct27 oc29 kV29 dc29 pm29 cd29 ct29 oc32 kV32 dc32 pm32 cd32 ct32 oc33 kV33 dc33 pm33 cd33 ct33 oc35 kV35 dc35 pm35 cd35 ct35 oc36 kV36 dc36 pm36 cd36 ct36 oc37 kV37 dc37 pm37 cd37 ct37 oc39 kV39 dc39 pm39 cd39 ct39 oc40 kV40 dc40 pm40 cd40 ct40 oc42 kV42 dc42 pm42 cd42 ct42 oc43 kV43 dc43 pm43 cd43 ct43 oc44 kV44 dc44 pm44 cd44 ct44 oc45 kV45 dc45 pm45 cd45 ct45 oc46 kV46 dc46 pm46 cd46 ct46 oc47 kV47 dc47 pm47 cd47 ct47 oc48 kV48 dc48 pm48 cd48 ct48 oc49 kV49 dc49 pm49 cd49 ct49 ocx2 kVx2 dcx2 pmx2 cdx2 ctx2 : Value}
    (aC15 : PySem.W.nsIn K mainGlobals "TextReader" = some (some (.ref Kl15))) (pg15 : PySem.W.plainGet K Kl15 Str.empty = true) (hd15 : PySem.W.hasDictIn K Kl15 = true) (po15 : PySem.W.plainOver K Kl15 = true) (sa15 : PySem.W.findIn K (.ref Kl15) "__setattr__" = some (some (.builtin "object.__setattr__")))
    (mk15 : PySem.W.makesIn K Kl15 = true) (kC15 : PySem.W.keepIn K (.ref Kl15) = true)
    (n15_0 : PySem.W.findIn K (.ref Kl15) "text" = some none)
    (n15_1 : PySem.W.findIn K (.ref Kl15) "at" = some none)
    (n15_2 : PySem.W.findIn K (.ref Kl15) "begun" = some none)
    (n15_3 : PySem.W.findIn K (.ref Kl15) "failed" = some none)
    (a5 : PySem.W.nsIn K mainGlobals "is_word" = some (some (.ref f5))) (l5 : K.lookup f5 = some ⟨oc5, od5, .func (PySem.W.fnOf "is_word" "is_word" (C8.fnArgs (topS 5)) (C8.fnBody (topS 5)) (C8.fnScope (topS 5)) .none kV5 dc5 pm5 an5 cd5 ct5), sl5⟩) (c5 : PySem.W.codeIn K cd5 "is_word" = true) (k5 : PySem.W.keepIn K (.ref f5) = true)
    (a6 : PySem.W.nsIn K mainGlobals "is_saying" = some (some (.ref f6))) (l6 : K.lookup f6 = some ⟨oc6, od6, .func (PySem.W.fnOf "is_saying" "is_saying" (C8.fnArgs (topS 6)) (C8.fnBody (topS 6)) (C8.fnScope (topS 6)) .none kV6 dc6 pm6 an6 cd6 ct6), sl6⟩) (c6 : PySem.W.codeIn K cd6 "is_saying" = true) (k6 : PySem.W.keepIn K (.ref f6) = true)
    (a7 : PySem.W.nsIn K mainGlobals "is_plain_saying" = some (some (.ref f7))) (l7 : K.lookup f7 = some ⟨oc7, od7, .func (PySem.W.fnOf "is_plain_saying" "is_plain_saying" (C8.fnArgs (topS 7)) (C8.fnBody (topS 7)) (C8.fnScope (topS 7)) .none kV7 dc7 pm7 an7 cd7 ct7), sl7⟩) (c7 : PySem.W.codeIn K cd7 "is_plain_saying" = true) (k7 : PySem.W.keepIn K (.ref f7) = true)
    (a8 : PySem.W.nsIn K mainGlobals "is_built" = some (some (.ref f8))) (l8 : K.lookup f8 = some ⟨oc8, od8, .func (PySem.W.fnOf "is_built" "is_built" (C8.fnArgs (topS 8)) (C8.fnBody (topS 8)) (C8.fnScope (topS 8)) .none kV8 dc8 pm8 an8 cd8 ct8), sl8⟩) (c8 : PySem.W.codeIn K cd8 "is_built" = true) (k8 : PySem.W.keepIn K (.ref f8) = true)
    (a9 : PySem.W.nsIn K mainGlobals "things_within" = some (some (.ref f9))) (l9 : K.lookup f9 = some ⟨oc9, od9, .func (PySem.W.fnOf "things_within" "things_within" (C8.fnArgs (topS 9)) (C8.fnBody (topS 9)) (C8.fnScope (topS 9)) .none kV9 dc9 pm9 an9 cd9 ct9), sl9⟩) (c9 : PySem.W.codeIn K cd9 "things_within" = true) (k9 : PySem.W.keepIn K (.ref f9) = true)
    (a10 : PySem.W.nsIn K mainGlobals "things_within_pair" = some (some (.ref f10))) (l10 : K.lookup f10 = some ⟨oc10, od10, .func (PySem.W.fnOf "things_within_pair" "things_within_pair" (C8.fnArgs (topS 10)) (C8.fnBody (topS 10)) (C8.fnScope (topS 10)) .none kV10 dc10 pm10 an10 cd10 ct10), sl10⟩) (c10 : PySem.W.codeIn K cd10 "things_within_pair" = true) (k10 : PySem.W.keepIn K (.ref f10) = true)
    (a13 : PySem.W.nsIn K mainGlobals "saying_read" = some (some (.ref f13))) (l13 : K.lookup f13 = some ⟨oc13, od13, .func (PySem.W.fnOf "saying_read" "saying_read" (C8.fnArgs (topS 13)) (C8.fnBody (topS 13)) (C8.fnScope (topS 13)) .none kV13 dc13 pm13 an13 cd13 ct13), sl13⟩) (c13 : PySem.W.codeIn K cd13 "saying_read" = true) (k13 : PySem.W.keepIn K (.ref f13) = true)
    (a14 : PySem.W.nsIn K mainGlobals "saying_in" = some (some (.ref f14))) (l14 : K.lookup f14 = some ⟨oc14, od14, .func (PySem.W.fnOf "saying_in" "saying_in" (C8.fnArgs (topS 14)) (C8.fnBody (topS 14)) (C8.fnScope (topS 14)) .none kV14 dc14 pm14 an14 cd14 ct14), sl14⟩) (c14 : PySem.W.codeIn K cd14 "saying_in" = true) (k14 : PySem.W.keepIn K (.ref f14) = true)
    (a15_0 : PySem.W.findIn K (.ref Kl15) "__init__" = some (some (.ref f15_0))) (i15_0 : PySem.W.isFn K (.ref f15_0) = true) (l15_0 : K.lookup f15_0 = some ⟨oc15_0, od15_0, .func (PySem.W.fnOf "__init__" "TextReader.__init__" (C8.fnArgs (inClass (topS 15) 0)) (C8.fnBody (inClass (topS 15) 0)) (C8.fnScope (inClass (topS 15) 0)) .none kV15_0 dc15_0 pm15_0 an15_0 cd15_0 ct15_0), sl15_0⟩) (c15_0 : PySem.W.codeIn K cd15_0 "TextReader.__init__" = true) (k15_0 : PySem.W.keepIn K (.ref f15_0) = true)
    (a15_1 : PySem.W.findIn K (.ref Kl15) "read_on" = some (some (.ref f15_1))) (i15_1 : PySem.W.isFn K (.ref f15_1) = true) (l15_1 : K.lookup f15_1 = some ⟨oc15_1, od15_1, .func (PySem.W.fnOf "read_on" "TextReader.read_on" (C8.fnArgs (inClass (topS 15) 1)) (C8.fnBody (inClass (topS 15) 1)) (C8.fnScope (inClass (topS 15) 1)) .none kV15_1 dc15_1 pm15_1 an15_1 cd15_1 ct15_1), sl15_1⟩) (c15_1 : PySem.W.codeIn K cd15_1 "TextReader.read_on" = true) (k15_1 : PySem.W.keepIn K (.ref f15_1) = true)
    (a15_2 : PySem.W.findIn K (.ref Kl15) "begin" = some (some (.ref f15_2))) (i15_2 : PySem.W.isFn K (.ref f15_2) = true) (l15_2 : K.lookup f15_2 = some ⟨oc15_2, od15_2, .func (PySem.W.fnOf "begin" "TextReader.begin" (C8.fnArgs (inClass (topS 15) 2)) (C8.fnBody (inClass (topS 15) 2)) (C8.fnScope (inClass (topS 15) 2)) .none kV15_2 dc15_2 pm15_2 an15_2 cd15_2 ct15_2), sl15_2⟩) (c15_2 : PySem.W.codeIn K cd15_2 "TextReader.begin" = true) (k15_2 : PySem.W.keepIn K (.ref f15_2) = true)
    (a15_3 : PySem.W.findIn K (.ref Kl15) "letter_from" = some (some (.ref f15_3))) (i15_3 : PySem.W.isFn K (.ref f15_3) = true) (l15_3 : K.lookup f15_3 = some ⟨oc15_3, od15_3, .func (PySem.W.fnOf "letter_from" "TextReader.letter_from" (C8.fnArgs (inClass (topS 15) 3)) (C8.fnBody (inClass (topS 15) 3)) (C8.fnScope (inClass (topS 15) 3)) .none kV15_3 dc15_3 pm15_3 an15_3 cd15_3 ct15_3), sl15_3⟩) (c15_3 : PySem.W.codeIn K cd15_3 "TextReader.letter_from" = true) (k15_3 : PySem.W.keepIn K (.ref f15_3) = true)
    (a15_4 : PySem.W.findIn K (.ref Kl15) "begin_brackets" = some (some (.ref f15_4))) (i15_4 : PySem.W.isFn K (.ref f15_4) = true) (l15_4 : K.lookup f15_4 = some ⟨oc15_4, od15_4, .func (PySem.W.fnOf "begin_brackets" "TextReader.begin_brackets" (C8.fnArgs (inClass (topS 15) 4)) (C8.fnBody (inClass (topS 15) 4)) (C8.fnScope (inClass (topS 15) 4)) .none kV15_4 dc15_4 pm15_4 an15_4 cd15_4 ct15_4), sl15_4⟩) (c15_4 : PySem.W.codeIn K cd15_4 "TextReader.begin_brackets" = true) (k15_4 : PySem.W.keepIn K (.ref f15_4) = true)
    (a15_5 : PySem.W.findIn K (.ref Kl15) "begin_hand" = some (some (.ref f15_5))) (i15_5 : PySem.W.isFn K (.ref f15_5) = true) (l15_5 : K.lookup f15_5 = some ⟨oc15_5, od15_5, .func (PySem.W.fnOf "begin_hand" "TextReader.begin_hand" (C8.fnArgs (inClass (topS 15) 5)) (C8.fnBody (inClass (topS 15) 5)) (C8.fnScope (inClass (topS 15) 5)) .none kV15_5 dc15_5 pm15_5 an15_5 cd15_5 ct15_5), sl15_5⟩) (c15_5 : PySem.W.codeIn K cd15_5 "TextReader.begin_hand" = true) (k15_5 : PySem.W.keepIn K (.ref f15_5) = true)
    (a15_6 : PySem.W.findIn K (.ref Kl15) "end_with" = some (some (.ref f15_6))) (i15_6 : PySem.W.isFn K (.ref f15_6) = true) (l15_6 : K.lookup f15_6 = some ⟨oc15_6, od15_6, .func (PySem.W.fnOf "end_with" "TextReader.end_with" (C8.fnArgs (inClass (topS 15) 6)) (C8.fnBody (inClass (topS 15) 6)) (C8.fnScope (inClass (topS 15) 6)) .none kV15_6 dc15_6 pm15_6 an15_6 cd15_6 ct15_6), sl15_6⟩) (c15_6 : PySem.W.codeIn K cd15_6 "TextReader.end_with" = true) (k15_6 : PySem.W.keepIn K (.ref f15_6) = true)
    (a15_7 : PySem.W.findIn K (.ref Kl15) "end_brackets" = some (some (.ref f15_7))) (i15_7 : PySem.W.isFn K (.ref f15_7) = true) (l15_7 : K.lookup f15_7 = some ⟨oc15_7, od15_7, .func (PySem.W.fnOf "end_brackets" "TextReader.end_brackets" (C8.fnArgs (inClass (topS 15) 7)) (C8.fnBody (inClass (topS 15) 7)) (C8.fnScope (inClass (topS 15) 7)) .none kV15_7 dc15_7 pm15_7 an15_7 cd15_7 ct15_7), sl15_7⟩) (c15_7 : PySem.W.codeIn K cd15_7 "TextReader.end_brackets" = true) (k15_7 : PySem.W.keepIn K (.ref f15_7) = true)
    (a15_8 : PySem.W.findIn K (.ref Kl15) "next_sign" = some (some (.ref f15_8))) (i15_8 : PySem.W.isFn K (.ref f15_8) = true) (l15_8 : K.lookup f15_8 = some ⟨oc15_8, od15_8, .func (PySem.W.fnOf "next_sign" "TextReader.next_sign" (C8.fnArgs (inClass (topS 15) 8)) (C8.fnBody (inClass (topS 15) 8)) (C8.fnScope (inClass (topS 15) 8)) .none kV15_8 dc15_8 pm15_8 an15_8 cd15_8 ct15_8), sl15_8⟩) (c15_8 : PySem.W.codeIn K cd15_8 "TextReader.next_sign" = true) (k15_8 : PySem.W.keepIn K (.ref f15_8) = true)
    (a15_9 : PySem.W.findIn K (.ref Kl15) "take_sign" = some (some (.ref f15_9))) (i15_9 : PySem.W.isFn K (.ref f15_9) = true) (l15_9 : K.lookup f15_9 = some ⟨oc15_9, od15_9, .func (PySem.W.fnOf "take_sign" "TextReader.take_sign" (C8.fnArgs (inClass (topS 15) 9)) (C8.fnBody (inClass (topS 15) 9)) (C8.fnScope (inClass (topS 15) 9)) .none kV15_9 dc15_9 pm15_9 an15_9 cd15_9 ct15_9), sl15_9⟩) (c15_9 : PySem.W.codeIn K cd15_9 "TextReader.take_sign" = true) (k15_9 : PySem.W.keepIn K (.ref f15_9) = true)
    (a15_10 : PySem.W.findIn K (.ref Kl15) "pass_sign" = some (some (.ref f15_10))) (i15_10 : PySem.W.isFn K (.ref f15_10) = true) (l15_10 : K.lookup f15_10 = some ⟨oc15_10, od15_10, .func (PySem.W.fnOf "pass_sign" "TextReader.pass_sign" (C8.fnArgs (inClass (topS 15) 10)) (C8.fnBody (inClass (topS 15) 10)) (C8.fnScope (inClass (topS 15) 10)) .none kV15_10 dc15_10 pm15_10 an15_10 cd15_10 ct15_10), sl15_10⟩) (c15_10 : PySem.W.codeIn K cd15_10 "TextReader.pass_sign" = true) (k15_10 : PySem.W.keepIn K (.ref f15_10) = true)
    (a17 : PySem.W.nsIn K mainGlobals "parts_of_saying" = some (some (.ref f17))) (l17 : K.lookup f17 = some ⟨oc17, od17, .func (PySem.W.fnOf "parts_of_saying" "parts_of_saying" (C8.fnArgs (topS 17)) (C8.fnBody (topS 17)) (C8.fnScope (topS 17)) .none kV17 dc17 pm17 an17 cd17 ct17), sl17⟩) (c17 : PySem.W.codeIn K cd17 "parts_of_saying" = true) (k17 : PySem.W.keepIn K (.ref f17) = true)
    (a18 : PySem.W.nsIn K mainGlobals "letters_of" = some (some (.ref f18))) (l18 : K.lookup f18 = some ⟨oc18, od18, .func (PySem.W.fnOf "letters_of" "letters_of" (C8.fnArgs (topS 18)) (C8.fnBody (topS 18)) (C8.fnScope (topS 18)) .none kV18 dc18 pm18 an18 cd18 ct18), sl18⟩) (c18 : PySem.W.codeIn K cd18 "letters_of" = true) (k18 : PySem.W.keepIn K (.ref f18) = true)
    (a19 : PySem.W.nsIn K mainGlobals "hands_of" = some (some (.ref f19))) (l19 : K.lookup f19 = some ⟨oc19, od19, .func (PySem.W.fnOf "hands_of" "hands_of" (C8.fnArgs (topS 19)) (C8.fnBody (topS 19)) (C8.fnScope (topS 19)) .none kV19 dc19 pm19 an19 cd19 ct19), sl19⟩) (c19 : PySem.W.codeIn K cd19 "hands_of" = true) (k19 : PySem.W.keepIn K (.ref f19) = true)
    (a20 : PySem.W.nsIn K mainGlobals "depth_of" = some (some (.ref f20))) (l20 : K.lookup f20 = some ⟨oc20, od20, .func (PySem.W.fnOf "depth_of" "depth_of" (C8.fnArgs (topS 20)) (C8.fnBody (topS 20)) (C8.fnScope (topS 20)) .none kV20 dc20 pm20 an20 cd20 ct20), sl20⟩) (c20 : PySem.W.codeIn K cd20 "depth_of" = true) (k20 : PySem.W.keepIn K (.ref f20) = true)
    (a21 : PySem.W.nsIn K mainGlobals "inner_sayings" = some (some (.ref f21))) (l21 : K.lookup f21 = some ⟨oc21, od21, .func (PySem.W.fnOf "inner_sayings" "inner_sayings" (C8.fnArgs (topS 21)) (C8.fnBody (topS 21)) (C8.fnScope (topS 21)) .none kV21 dc21 pm21 an21 cd21 ct21), sl21⟩) (c21 : PySem.W.codeIn K cd21 "inner_sayings" = true) (k21 : PySem.W.keepIn K (.ref f21) = true)
    (a22 : PySem.W.nsIn K mainGlobals "with_inner" = some (some (.ref f22))) (l22 : K.lookup f22 = some ⟨oc22, od22, .func (PySem.W.fnOf "with_inner" "with_inner" (C8.fnArgs (topS 22)) (C8.fnBody (topS 22)) (C8.fnScope (topS 22)) .none kV22 dc22 pm22 an22 cd22 ct22), sl22⟩) (c22 : PySem.W.codeIn K cd22 "with_inner" = true) (k22 : PySem.W.keepIn K (.ref f22) = true)
    (a23 : PySem.W.nsIn K mainGlobals "every_part" = some (some (.ref f23))) (l23 : K.lookup f23 = some ⟨oc23, od23, .func (PySem.W.fnOf "every_part" "every_part" (C8.fnArgs (topS 23)) (C8.fnBody (topS 23)) (C8.fnScope (topS 23)) .none kV23 dc23 pm23 an23 cd23 ct23), sl23⟩) (c23 : PySem.W.codeIn K cd23 "every_part" = true) (k23 : PySem.W.keepIn K (.ref f23) = true)
    (a24 : PySem.W.nsIn K mainGlobals "rising" = some (some (.ref f24))) (l24 : K.lookup f24 = some ⟨oc24, od24, .func (PySem.W.fnOf "rising" "rising" (C8.fnArgs (topS 24)) (C8.fnBody (topS 24)) (C8.fnScope (topS 24)) .none kV24 dc24 pm24 an24 cd24 ct24), sl24⟩) (c24 : PySem.W.codeIn K cd24 "rising" = true) (k24 : PySem.W.keepIn K (.ref f24) = true)
    (a26 : PySem.W.nsIn K mainGlobals "core_of" = some (some (.ref f26))) (l26 : K.lookup f26 = some ⟨oc26, od26, .func (PySem.W.fnOf "core_of" "core_of" (C8.fnArgs (topS 26)) (C8.fnBody (topS 26)) (C8.fnScope (topS 26)) .none kV26 dc26 pm26 an26 cd26 ct26), sl26⟩) (c26 : PySem.W.codeIn K cd26 "core_of" = true) (k26 : PySem.W.keepIn K (.ref f26) = true)
    (a27 : PySem.W.nsIn K mainGlobals "atoms_of" = some (some (.ref f27))) (l27 : K.lookup f27 = some ⟨oc27, od27, .func (PySem.W.fnOf "atoms_of" "atoms_of" (C8.fnArgs (topS 27)) (C8.fnBody (topS 27)) (C8.fnScope (topS 27)) .none kV27 dc27 pm27 an27 cd27 ct27), sl27⟩) (c27 : PySem.W.codeIn K cd27 "atoms_of" = true) (k27 : PySem.W.keepIn K (.ref f27) = true)
    (a29 : PySem.W.nsIn K mainGlobals "in_few_words" = some (some (.ref f29))) (l29 : K.lookup f29 = some ⟨oc29, od29, .func (PySem.W.fnOf "in_few_words" "in_few_words" (C8.fnArgs (topS 29)) (C8.fnBody (topS 29)) (C8.fnScope (topS 29)) .none kV29 dc29 pm29 an29 cd29 ct29), sl29⟩) (c29 : PySem.W.codeIn K cd29 "in_few_words" = true) (k29 : PySem.W.keepIn K (.ref f29) = true)
    (a32 : PySem.W.nsIn K mainGlobals "pushed_in" = some (some (.ref f32))) (l32 : K.lookup f32 = some ⟨oc32, od32, .func (PySem.W.fnOf "pushed_in" "pushed_in" (C8.fnArgs (topS 32)) (C8.fnBody (topS 32)) (C8.fnScope (topS 32)) .none kV32 dc32 pm32 an32 cd32 ct32), sl32⟩) (c32 : PySem.W.codeIn K cd32 "pushed_in" = true) (k32 : PySem.W.keepIn K (.ref f32) = true)
    (a33 : PySem.W.nsIn K mainGlobals "pushed" = some (some (.ref f33))) (l33 : K.lookup f33 = some ⟨oc33, od33, .func (PySem.W.fnOf "pushed" "pushed" (C8.fnArgs (topS 33)) (C8.fnBody (topS 33)) (C8.fnScope (topS 33)) .none kV33 dc33 pm33 an33 cd33 ct33), sl33⟩) (c33 : PySem.W.codeIn K cd33 "pushed" = true) (k33 : PySem.W.keepIn K (.ref f33) = true)
    (a35 : PySem.W.nsIn K mainGlobals "saying_text" = some (some (.ref f35))) (l35 : K.lookup f35 = some ⟨oc35, od35, .func (PySem.W.fnOf "saying_text" "saying_text" (C8.fnArgs (topS 35)) (C8.fnBody (topS 35)) (C8.fnScope (topS 35)) .none kV35 dc35 pm35 an35 cd35 ct35), sl35⟩) (c35 : PySem.W.codeIn K cd35 "saying_text" = true) (k35 : PySem.W.keepIn K (.ref f35) = true)
    (a36 : PySem.W.nsIn K mainGlobals "written_things" = some (some (.ref f36))) (l36 : K.lookup f36 = some ⟨oc36, od36, .func (PySem.W.fnOf "written_things" "written_things" (C8.fnArgs (topS 36)) (C8.fnBody (topS 36)) (C8.fnScope (topS 36)) .none kV36 dc36 pm36 an36 cd36 ct36), sl36⟩) (c36 : PySem.W.codeIn K cd36 "written_things" = true) (k36 : PySem.W.keepIn K (.ref f36) = true)
    (a37 : PySem.W.nsIn K mainGlobals "joined_things" = some (some (.ref f37))) (l37 : K.lookup f37 = some ⟨oc37, od37, .func (PySem.W.fnOf "joined_things" "joined_things" (C8.fnArgs (topS 37)) (C8.fnBody (topS 37)) (C8.fnScope (topS 37)) .none kV37 dc37 pm37 an37 cd37 ct37), sl37⟩) (c37 : PySem.W.codeIn K cd37 "joined_things" = true) (k37 : PySem.W.keepIn K (.ref f37) = true)
    (a39 : PySem.W.nsIn K mainGlobals "told_out" = some (some (.ref f39))) (l39 : K.lookup f39 = some ⟨oc39, od39, .func (PySem.W.fnOf "told_out" "told_out" (C8.fnArgs (topS 39)) (C8.fnBody (topS 39)) (C8.fnScope (topS 39)) .none kV39 dc39 pm39 an39 cd39 ct39), sl39⟩) (c39 : PySem.W.codeIn K cd39 "told_out" = true) (k39 : PySem.W.keepIn K (.ref f39) = true)
    (a40 : PySem.W.nsIn K mainGlobals "said_behind" = some (some (.ref f40))) (l40 : K.lookup f40 = some ⟨oc40, od40, .func (PySem.W.fnOf "said_behind" "said_behind" (C8.fnArgs (topS 40)) (C8.fnBody (topS 40)) (C8.fnScope (topS 40)) .none kV40 dc40 pm40 an40 cd40 ct40), sl40⟩) (c40 : PySem.W.codeIn K cd40 "said_behind" = true) (k40 : PySem.W.keepIn K (.ref f40) = true)
    (a42 : PySem.W.nsIn K mainGlobals "_law_feed" = some (some (.ref f42))) (l42 : K.lookup f42 = some ⟨oc42, od42, .func (PySem.W.fnOf "_law_feed" "_law_feed" (C8.fnArgs (topS 42)) (C8.fnBody (topS 42)) (C8.fnScope (topS 42)) .none kV42 dc42 pm42 an42 cd42 ct42), sl42⟩) (c42 : PySem.W.codeIn K cd42 "_law_feed" = true) (k42 : PySem.W.keepIn K (.ref f42) = true)
    (a43 : PySem.W.nsIn K mainGlobals "_law_draw" = some (some (.ref f43))) (l43 : K.lookup f43 = some ⟨oc43, od43, .func (PySem.W.fnOf "_law_draw" "_law_draw" (C8.fnArgs (topS 43)) (C8.fnBody (topS 43)) (C8.fnScope (topS 43)) .none kV43 dc43 pm43 an43 cd43 ct43), sl43⟩) (c43 : PySem.W.codeIn K cd43 "_law_draw" = true) (k43 : PySem.W.keepIn K (.ref f43) = true)
    (a44 : PySem.W.nsIn K mainGlobals "_law_saying" = some (some (.ref f44))) (l44 : K.lookup f44 = some ⟨oc44, od44, .func (PySem.W.fnOf "_law_saying" "_law_saying" (C8.fnArgs (topS 44)) (C8.fnBody (topS 44)) (C8.fnScope (topS 44)) .none kV44 dc44 pm44 an44 cd44 ct44), sl44⟩) (c44 : PySem.W.codeIn K cd44 "_law_saying" = true) (k44 : PySem.W.keepIn K (.ref f44) = true)
    (a45 : PySem.W.nsIn K mainGlobals "_law_back" = some (some (.ref f45))) (l45 : K.lookup f45 = some ⟨oc45, od45, .func (PySem.W.fnOf "_law_back" "_law_back" (C8.fnArgs (topS 45)) (C8.fnBody (topS 45)) (C8.fnScope (topS 45)) .none kV45 dc45 pm45 an45 cd45 ct45), sl45⟩) (c45 : PySem.W.codeIn K cd45 "_law_back" = true) (k45 : PySem.W.keepIn K (.ref f45) = true)
    (a46 : PySem.W.nsIn K mainGlobals "_law_once" = some (some (.ref f46))) (l46 : K.lookup f46 = some ⟨oc46, od46, .func (PySem.W.fnOf "_law_once" "_law_once" (C8.fnArgs (topS 46)) (C8.fnBody (topS 46)) (C8.fnScope (topS 46)) .none kV46 dc46 pm46 an46 cd46 ct46), sl46⟩) (c46 : PySem.W.codeIn K cd46 "_law_once" = true) (k46 : PySem.W.keepIn K (.ref f46) = true)
    (a47 : PySem.W.nsIn K mainGlobals "_law_is_right" = some (some (.ref f47))) (l47 : K.lookup f47 = some ⟨oc47, od47, .func (PySem.W.fnOf "_law_is_right" "_law_is_right" (C8.fnArgs (topS 47)) (C8.fnBody (topS 47)) (C8.fnScope (topS 47)) .none kV47 dc47 pm47 an47 cd47 ct47), sl47⟩) (c47 : PySem.W.codeIn K cd47 "_law_is_right" = true) (k47 : PySem.W.keepIn K (.ref f47) = true)
    (a48 : PySem.W.nsIn K mainGlobals "_law_plain_right" = some (some (.ref f48))) (l48 : K.lookup f48 = some ⟨oc48, od48, .func (PySem.W.fnOf "_law_plain_right" "_law_plain_right" (C8.fnArgs (topS 48)) (C8.fnBody (topS 48)) (C8.fnScope (topS 48)) .none kV48 dc48 pm48 an48 cd48 ct48), sl48⟩) (c48 : PySem.W.codeIn K cd48 "_law_plain_right" = true) (k48 : PySem.W.keepIn K (.ref f48) = true)
    (a49 : PySem.W.nsIn K mainGlobals "law" = some (some (.ref f49))) (l49 : K.lookup f49 = some ⟨oc49, od49, .func (PySem.W.fnOf "law" "law" (C8.fnArgs (topS 49)) (C8.fnBody (topS 49)) (C8.fnScope (topS 49)) .none kV49 dc49 pm49 an49 cd49 ct49), sl49⟩) (c49 : PySem.W.codeIn K cd49 "law" = true) (k49 : PySem.W.keepIn K (.ref f49) = true)
    (aX2 : PySem.W.nsIn K mainGlobals "NoText" = some (some (.ref Kx2))) (qX2 : oexB K Kx2 = true) (saX2 : PySem.W.findIn K (.ref Kx2) "__setattr__" = some (some (.builtin "object.__setattr__"))) (eX2 : PySem.W.subIn K (.ref Kx2) (.type "BaseException") = some true) (tX2 : PySem.W.typeIn K (.ref Kx2) = some (.type "type")) (kX2 : PySem.W.keepIn K (.ref Kx2) = true)
    (iX2 : PySem.W.findIn K (.ref Kx2) "__init__" = some (some (.ref fx2))) (uX2 : PySem.W.typeIn K (.ref fx2) = some (.type "function")) (lX2 : K.lookup fx2 = some ⟨ocx2, odx2, .func (PySem.W.fnOf "__init__" "NoText.__init__" (C8.fnArgs (inClass (topS 2) 0)) (C8.fnBody (inClass (topS 2) 0)) (C8.fnScope (inClass (topS 2) 0)) .none kVx2 dcx2 pmx2 anx2 cdx2 ctx2), slx2⟩) (cX2 : PySem.W.codeIn K cdx2 "NoText.__init__" = true)
    (gaX2 : PySem.W.findIn K (.ref Kx2) "__getattribute__" = some (some (.builtin "BaseException.__getattribute__"))) (ggX2 : PySem.W.findIn K (.ref Kx2) "__getattr__" = some none) (hdX2 : PySem.W.hasDictIn K Kx2 = true)
    (nX2_0 : PySem.W.findIn K (.ref Kx2) "line" = some none)
    (nX2_1 : PySem.W.findIn K (.ref Kx2) "word" = some none)
    {tM : Nat} {pO : Addr} {esO : Array DictEntry} {nO : Nat} {t1 t2 t3 t4 : Nat} {pG : Addr} {esG : Array DictEntry} {nG : Nat} {t5 t6 : Nat}
    (aO : PySem.W.nsIn K mainGlobals "OTHER_WORDS" = some (some (.ref pO))) (lO : K.lookup pO = some ⟨.type "dict", none, .dict esO nO, #[]⟩) (kO : PySem.W.KeysLit w.params esO.toList) (o1 : PySem.W.nsIn K pO "and" = some (some (.str "or" t1))) (o2 : PySem.W.nsIn K pO "or" = some (some (.str "and" t2))) (o3 : PySem.W.nsIn K pO "must" = some (some (.str "may" t3))) (o4 : PySem.W.nsIn K pO "may" = some (some (.str "must" t4)))
    (aM : PySem.W.nsIn K mainGlobals "MOST_SIGNS" = some (some (.int 8 tM)))
    (aG : PySem.W.nsIn K mainGlobals "WORDS_OF_SIGNS" = some (some (.ref pG))) (lG : K.lookup pG = some ⟨.type "dict", none, .dict esG nG, #[]⟩) (kG : PySem.W.KeysLit w.params esG.toList) (g1 : PySem.W.nsIn K pG "&" = some (some (.str "and" t5))) (g2 : PySem.W.nsIn K pG "|" = some (some (.str "or" t6)))
    (z_all : PySem.W.nsIn K mainGlobals "all" = some none) (z_isinstance : PySem.W.nsIn K mainGlobals "isinstance" = some none) (z_len : PySem.W.nsIn K mainGlobals "len" = some none) (z_list : PySem.W.nsIn K mainGlobals "list" = some none) (z_max : PySem.W.nsIn K mainGlobals "max" = some none) (z_range : PySem.W.nsIn K mainGlobals "range" = some none) (z_repr : PySem.W.nsIn K mainGlobals "repr" = some none) (z_set : PySem.W.nsIn K mainGlobals "set" = some none) (z_sorted : PySem.W.nsIn K mainGlobals "sorted" = some none) (z_str : PySem.W.nsIn K mainGlobals "str" = some none) (z_tuple : PySem.W.nsIn K mainGlobals "tuple" = some none) : Facts P w K mg base :=
  { hP := hP,
    hW := hW,
    gf_core_of := gfAt_of X G a26,
    gf_in_few_words := gfAt_of X G a29,
    gf_pushed_in := gfAt_of X G a32,
    gf_told_out := gfAt_of X G a39,
    c15 := class_mk X G aC15 ⟨pg15, hd15, po15, sa15⟩ (by intro f hf; simp only [List.mem_cons, List.not_mem_nil, or_false] at hf; rcases hf with rfl | rfl | rfl | rfl; exact n15_0; exact n15_1; exact n15_2; exact n15_3),
    d5 := def_at X G a5 l5 c5 k5 fun _ _ _ _ _ _ us hl => match us, hl with | [_], _ => rfl,
    d6 := def_at X G a6 l6 c6 k6 fun _ _ _ _ _ _ us hl => match us, hl with | [_], _ => rfl,
    d7 := def_at X G a7 l7 c7 k7 fun _ _ _ _ _ _ us hl => match us, hl with | [_], _ => rfl,
    d8 := def_at X G a8 l8 c8 k8 fun _ _ _ _ _ _ us hl => match us, hl with | [_, _], _ => rfl,
    d9 := def_at X G a9 l9 c9 k9 fun _ _ _ _ _ _ us hl => match us, hl with | [_, _], _ => rfl,
    d10 := def_at X G a10 l10 c10 k10 fun _ _ _ _ _ _ us hl => match us, hl with | [_, _], _ => rfl,
    d13 := def_at X G a13 l13 c13 k13 fun _ _ _ _ _ _ us hl => match us, hl with | [_], _ => rfl,
    d14 := def_at X G a14 l14 c14 k14 fun _ _ _ _ _ _ us hl => match us, hl with | [_], _ => rfl,
    i15 := ini_mk X G aC15 mk15 a15_0 i15_0 l15_0 c15_0 kC15 (fun _ _ _ _ _ _ us hl => match us, hl with | [_, _], _ => rfl),
    m15_1 := mth_mk aC15 ⟨pg15, hd15, po15, sa15⟩ a15_1 i15_1 l15_1 c15_1 k15_1 (fun _ _ _ _ _ _ us hl => match us, hl with | [_], _ => rfl),
    m15_2 := mth_mk aC15 ⟨pg15, hd15, po15, sa15⟩ a15_2 i15_2 l15_2 c15_2 k15_2 (fun _ _ _ _ _ _ us hl => match us, hl with | [_], _ => rfl),
    m15_3 := mth_mk aC15 ⟨pg15, hd15, po15, sa15⟩ a15_3 i15_3 l15_3 c15_3 k15_3 (fun _ _ _ _ _ _ us hl => match us, hl with | [_, _], _ => rfl),
    m15_4 := mth_mk aC15 ⟨pg15, hd15, po15, sa15⟩ a15_4 i15_4 l15_4 c15_4 k15_4 (fun _ _ _ _ _ _ us hl => match us, hl with | [_], _ => rfl),
    m15_5 := mth_mk aC15 ⟨pg15, hd15, po15, sa15⟩ a15_5 i15_5 l15_5 c15_5 k15_5 (fun _ _ _ _ _ _ us hl => match us, hl with | [_, _, _], _ => rfl),
    m15_6 := mth_mk aC15 ⟨pg15, hd15, po15, sa15⟩ a15_6 i15_6 l15_6 c15_6 k15_6 (fun _ _ _ _ _ _ us hl => match us, hl with | [_, _], _ => rfl),
    m15_7 := mth_mk aC15 ⟨pg15, hd15, po15, sa15⟩ a15_7 i15_7 l15_7 c15_7 k15_7 (fun _ _ _ _ _ _ us hl => match us, hl with | [_, _, _], _ => rfl),
    m15_8 := mth_mk aC15 ⟨pg15, hd15, po15, sa15⟩ a15_8 i15_8 l15_8 c15_8 k15_8 (fun _ _ _ _ _ _ us hl => match us, hl with | [_], _ => rfl),
    m15_9 := mth_mk aC15 ⟨pg15, hd15, po15, sa15⟩ a15_9 i15_9 l15_9 c15_9 k15_9 (fun _ _ _ _ _ _ us hl => match us, hl with | [_], _ => rfl),
    m15_10 := mth_mk aC15 ⟨pg15, hd15, po15, sa15⟩ a15_10 i15_10 l15_10 c15_10 k15_10 (fun _ _ _ _ _ _ us hl => match us, hl with | [_, _], _ => rfl),
    d17 := def_at X G a17 l17 c17 k17 fun _ _ _ _ _ _ us hl => match us, hl with | [_], _ => rfl,
    d18 := def_at X G a18 l18 c18 k18 fun _ _ _ _ _ _ us hl => match us, hl with | [_], _ => rfl,
    d19 := def_at X G a19 l19 c19 k19 fun _ _ _ _ _ _ us hl => match us, hl with | [_], _ => rfl,
    d20 := def_at X G a20 l20 c20 k20 fun _ _ _ _ _ _ us hl => match us, hl with | [_], _ => rfl,
    d21 := def_at X G a21 l21 c21 k21 fun _ _ _ _ _ _ us hl => match us, hl with | [_], _ => rfl,
    d22 := def_at X G a22 l22 c22 k22 fun _ _ _ _ _ _ us hl => match us, hl with | [_, _], _ => rfl,
    d23 := def_at X G a23 l23 c23 k23 fun _ _ _ _ _ _ us hl => match us, hl with | [_], _ => rfl,
    d24 := def_at X G a24 l24 c24 k24 fun _ _ _ _ _ _ us hl => match us, hl with | [_], _ => rfl,
    d26 := def_at X G a26 l26 c26 k26 fun _ _ _ _ _ _ us hl => match us, hl with | [_], _ => rfl,
    d27 := def_at X G a27 l27 c27 k27 fun _ _ _ _ _ _ us hl => match us, hl with | [_], _ => rfl,
    d29 := def_at X G a29 l29 c29 k29 fun _ _ _ _ _ _ us hl => match us, hl with | [_], _ => rfl,
    d32 := def_at X G a32 l32 c32 k32 fun _ _ _ _ _ _ us hl => match us, hl with | [_], _ => rfl,
    d33 := def_at X G a33 l33 c33 k33 fun _ _ _ _ _ _ us hl => match us, hl with | [_, _], _ => rfl,
    d35 := def_at X G a35 l35 c35 k35 fun _ _ _ _ _ _ us hl => match us, hl with | [_], _ => rfl,
    d36 := def_at X G a36 l36 c36 k36 fun _ _ _ _ _ _ us hl => match us, hl with | [_], _ => rfl,
    d37 := def_at X G a37 l37 c37 k37 fun _ _ _ _ _ _ us hl => match us, hl with | [_, _, _], _ => rfl,
    d39 := def_at X G a39 l39 c39 k39 fun _ _ _ _ _ _ us hl => match us, hl with | [_], _ => rfl,
    d40 := def_at X G a40 l40 c40 k40 fun _ _ _ _ _ _ us hl => match us, hl with | [_, _], _ => rfl,
    d42 := def_at X G a42 l42 c42 k42 fun _ _ _ _ _ _ us hl => match us, hl with | [_], _ => rfl,
    d43 := def_at X G a43 l43 c43 k43 fun _ _ _ _ _ _ us hl => match us, hl with | [_, _], _ => rfl,
    d44 := def_at X G a44 l44 c44 k44 fun _ _ _ _ _ _ us hl => match us, hl with | [_, _, _], _ => rfl,
    d45 := def_at X G a45 l45 c45 k45 fun _ _ _ _ _ _ us hl => match us, hl with | [_], _ => rfl,
    d46 := def_at X G a46 l46 c46 k46 fun _ _ _ _ _ _ us hl => match us, hl with | [_], _ => rfl,
    d47 := def_at X G a47 l47 c47 k47 fun _ _ _ _ _ _ us hl => match us, hl with | [_], _ => rfl,
    d48 := def_at X G a48 l48 c48 k48 fun _ _ _ _ _ _ us hl => match us, hl with | [_], _ => rfl,
    d49 := def_at X G a49 l49 c49 k49 fun _ _ _ _ _ _ us hl => match us, hl with | [_], _ => rfl,
    x2 := xc_mk X G aX2 qX2 saX2 eX2 tX2 kX2 iX2 uX2 lX2 cX2 gaX2 ggX2 hdX2 (by intro f hf; simp only [List.mem_cons, List.not_mem_nil, or_false] at hf; rcases hf with rfl | rfl; exact nX2_0; exact nX2_1) (fun _ _ _ _ _ _ us hl => match us, hl with | [_, _, _], _ => rfl),
    z_all := PySem.W.mg_none_of X G z_all,
    z_isinstance := PySem.W.mg_none_of X G z_isinstance,
    z_len := PySem.W.mg_none_of X G z_len,
    z_list := PySem.W.mg_none_of X G z_list,
    z_max := PySem.W.mg_none_of X G z_max,
    z_range := PySem.W.mg_none_of X G z_range,
    z_repr := PySem.W.mg_none_of X G z_repr,
    z_set := PySem.W.mg_none_of X G z_set,
    z_sorted := PySem.W.mg_none_of X G z_sorted,
    z_str := PySem.W.mg_none_of X G z_str,
    z_tuple := PySem.W.mg_none_of X G z_tuple,
    g_MOST_SIGNS := glob_int X G aM,
    g_OTHER_WORDS := gdict_of X G aO lO kO fun z y e => by
      unfold otherW at e
      split at e
      · rename_i h; cases e; subst h; exact ⟨_, .str _, o1, ⟨_, rfl⟩, fun _ _ => .str _⟩
      split at e
      · rename_i h; cases e; subst h; exact ⟨_, .str _, o2, ⟨_, rfl⟩, fun _ _ => .str _⟩
      split at e
      · rename_i h; cases e; subst h; exact ⟨_, .str _, o3, ⟨_, rfl⟩, fun _ _ => .str _⟩
      split at e
      · rename_i h; cases e; subst h; exact ⟨_, .str _, o4, ⟨_, rfl⟩, fun _ _ => .str _⟩
      (cases e),
    g_WORDS_OF_SIGNS := gdict_of X G aG lG kG fun z y e => by
      unfold signsW at e
      split at e
      · rename_i h; cases e; subst h; exact ⟨_, .str _, g1, ⟨_, rfl⟩, fun _ _ => .str _⟩
      split at e
      · rename_i h; cases e; subst h; exact ⟨_, .str _, g2, ⟨_, rfl⟩, fun _ _ => .str _⟩
      (cases e) }
end Mok05
open PySem PySem.W PyProof.Rows
set_option maxRecDepth 100000 in
set_option maxHeartbeats 0 in
theorem PySem.Challenge.cw_mustmays_k05_whole_texts_there_and_back_holds : PySem.Challenge.rw_mustmays_k05_whole_texts_there_and_back.Holds := by
  w_on; o_law; k_head; (case hw => w_witness2)
  k_fill
  refine Mok05.walkU (l := PySem.Challenge.rw_mustmays_k05_whole_texts_there_and_back) (k := 73) (F := Mok05.F_law) (nm := "law") (p := "_law_script") (names := []) rfl rfl (fun w h Y => PySem.W.kIn_of Y) (by decide) rfl ?REC ?TAB ?DIS ?F Mok05.law_true
  case REC => decide +kernel
  case TAB =>
    exact fun w x hx => nomatch hx
  case DIS =>
    exact fun w x hx => nomatch hx
  case F =>
    intro WI w mg h base hP hW KX G lm
    refine' Mok05.c_law (Mok05.all_mk hP hW KX G ?aC15 ?pg15 ?hd15 ?po15 ?sa15 ?mk15 ?kC15 ?n15_0 ?n15_1 ?n15_2 ?n15_3 ?a5 ?l5 ?c5 ?k5 ?a6 ?l6 ?c6 ?k6 ?a7 ?l7 ?c7 ?k7 ?a8 ?l8 ?c8 ?k8 ?a9 ?l9 ?c9 ?k9 ?a10 ?l10 ?c10 ?k10 ?a13 ?l13 ?c13 ?k13 ?a14 ?l14 ?c14 ?k14 ?a15_0 ?i15_0 ?l15_0 ?c15_0 ?k15_0 ?a15_1 ?i15_1 ?l15_1 ?c15_1 ?k15_1 ?a15_2 ?i15_2 ?l15_2 ?c15_2 ?k15_2 ?a15_3 ?i15_3 ?l15_3 ?c15_3 ?k15_3 ?a15_4 ?i15_4 ?l15_4 ?c15_4 ?k15_4 ?a15_5 ?i15_5 ?l15_5 ?c15_5 ?k15_5 ?a15_6 ?i15_6 ?l15_6 ?c15_6 ?k15_6 ?a15_7 ?i15_7 ?l15_7 ?c15_7 ?k15_7 ?a15_8 ?i15_8 ?l15_8 ?c15_8 ?k15_8 ?a15_9 ?i15_9 ?l15_9 ?c15_9 ?k15_9 ?a15_10 ?i15_10 ?l15_10 ?c15_10 ?k15_10 ?a17 ?l17 ?c17 ?k17 ?a18 ?l18 ?c18 ?k18 ?a19 ?l19 ?c19 ?k19 ?a20 ?l20 ?c20 ?k20 ?a21 ?l21 ?c21 ?k21 ?a22 ?l22 ?c22 ?k22 ?a23 ?l23 ?c23 ?k23 ?a24 ?l24 ?c24 ?k24 ?a26 ?l26 ?c26 ?k26 ?a27 ?l27 ?c27 ?k27 ?a29 ?l29 ?c29 ?k29 ?a32 ?l32 ?c32 ?k32 ?a33 ?l33 ?c33 ?k33 ?a35 ?l35 ?c35 ?k35 ?a36 ?l36 ?c36 ?k36 ?a37 ?l37 ?c37 ?k37 ?a39 ?l39 ?c39 ?k39 ?a40 ?l40 ?c40 ?k40 ?a42 ?l42 ?c42 ?k42 ?a43 ?l43 ?c43 ?k43 ?a44 ?l44 ?c44 ?k44 ?a45 ?l45 ?c45 ?k45 ?a46 ?l46 ?c46 ?k46 ?a47 ?l47 ?c47 ?k47 ?a48 ?l48 ?c48 ?k48 ?a49 ?l49 ?c49 ?k49 ?aX2 ?qX2 ?saX2 ?eX2 ?tX2 ?kX2 ?iX2 ?uX2 ?lX2 ?cX2 ?gaX2 ?ggX2 ?hdX2 ?nX2_0 ?nX2_1 ?aO ?lO ?kO ?o1 ?o2 ?o3 ?o4 ?aM ?aG ?lG ?kG ?g1 ?g2 ?z_all ?z_isinstance ?z_len ?z_list ?z_max ?z_range ?z_repr ?z_set ?z_sorted ?z_str ?z_tuple)
    (case aC15 => k_is)
    (case pg15 => k_is)
    (case hd15 => k_is)
    (case po15 => k_is)
    (case sa15 => k_is)
    (case mk15 => k_is)
    (case kC15 => k_is)
    (case n15_0 => k_is)
    (case n15_1 => k_is)
    (case n15_2 => k_is)
    (case n15_3 => k_is)
    (case a5 => k_is)
    (case l5 => k_is)
    (case c5 => k_is)
    (case k5 => k_is)
    (case a6 => k_is)
    (case l6 => k_is)
    (case c6 => k_is)
    (case k6 => k_is)
    (case a7 => k_is)
    (case l7 => k_is)
    (case c7 => k_is)
    (case k7 => k_is)
    (case a8 => k_is)
    (case l8 => k_is)
    (case c8 => k_is)
    (case k8 => k_is)
    (case a9 => k_is)
    (case l9 => k_is)
    (case c9 => k_is)
    (case k9 => k_is)
    (case a10 => k_is)
    (case l10 => k_is)
    (case c10 => k_is)
    (case k10 => k_is)
    (case a13 => k_is)
    (case l13 => k_is)
    (case c13 => k_is)
    (case k13 => k_is)
    (case a14 => k_is)
    (case l14 => k_is)
    (case c14 => k_is)
    (case k14 => k_is)
    (case a15_0 => k_is)
    (case i15_0 => k_is)
    (case l15_0 => k_is)
    (case c15_0 => k_is)
    (case k15_0 => k_is)
    (case a15_1 => k_is)
    (case i15_1 => k_is)
    (case l15_1 => k_is)
    (case c15_1 => k_is)
    (case k15_1 => k_is)
    (case a15_2 => k_is)
    (case i15_2 => k_is)
    (case l15_2 => k_is)
    (case c15_2 => k_is)
    (case k15_2 => k_is)
    (case a15_3 => k_is)
    (case i15_3 => k_is)
    (case l15_3 => k_is)
    (case c15_3 => k_is)
    (case k15_3 => k_is)
    (case a15_4 => k_is)
    (case i15_4 => k_is)
    (case l15_4 => k_is)
    (case c15_4 => k_is)
    (case k15_4 => k_is)
    (case a15_5 => k_is)
    (case i15_5 => k_is)
    (case l15_5 => k_is)
    (case c15_5 => k_is)
    (case k15_5 => k_is)
    (case a15_6 => k_is)
    (case i15_6 => k_is)
    (case l15_6 => k_is)
    (case c15_6 => k_is)
    (case k15_6 => k_is)
    (case a15_7 => k_is)
    (case i15_7 => k_is)
    (case l15_7 => k_is)
    (case c15_7 => k_is)
    (case k15_7 => k_is)
    (case a15_8 => k_is)
    (case i15_8 => k_is)
    (case l15_8 => k_is)
    (case c15_8 => k_is)
    (case k15_8 => k_is)
    (case a15_9 => k_is)
    (case i15_9 => k_is)
    (case l15_9 => k_is)
    (case c15_9 => k_is)
    (case k15_9 => k_is)
    (case a15_10 => k_is)
    (case i15_10 => k_is)
    (case l15_10 => k_is)
    (case c15_10 => k_is)
    (case k15_10 => k_is)
    (case a17 => k_is)
    (case l17 => k_is)
    (case c17 => k_is)
    (case k17 => k_is)
    (case a18 => k_is)
    (case l18 => k_is)
    (case c18 => k_is)
    (case k18 => k_is)
    (case a19 => k_is)
    (case l19 => k_is)
    (case c19 => k_is)
    (case k19 => k_is)
    (case a20 => k_is)
    (case l20 => k_is)
    (case c20 => k_is)
    (case k20 => k_is)
    (case a21 => k_is)
    (case l21 => k_is)
    (case c21 => k_is)
    (case k21 => k_is)
    (case a22 => k_is)
    (case l22 => k_is)
    (case c22 => k_is)
    (case k22 => k_is)
    (case a23 => k_is)
    (case l23 => k_is)
    (case c23 => k_is)
    (case k23 => k_is)
    (case a24 => k_is)
    (case l24 => k_is)
    (case c24 => k_is)
    (case k24 => k_is)
    (case a26 => k_is)
    (case l26 => k_is)
    (case c26 => k_is)
    (case k26 => k_is)
    (case a27 => k_is)
    (case l27 => k_is)
    (case c27 => k_is)
    (case k27 => k_is)
    (case a29 => k_is)
    (case l29 => k_is)
    (case c29 => k_is)
    (case k29 => k_is)
    (case a32 => k_is)
    (case l32 => k_is)
    (case c32 => k_is)
    (case k32 => k_is)
    (case a33 => k_is)
    (case l33 => k_is)
    (case c33 => k_is)
    (case k33 => k_is)
    (case a35 => k_is)
    (case l35 => k_is)
    (case c35 => k_is)
    (case k35 => k_is)
    (case a36 => k_is)
    (case l36 => k_is)
    (case c36 => k_is)
    (case k36 => k_is)
    (case a37 => k_is)
    (case l37 => k_is)
    (case c37 => k_is)
    (case k37 => k_is)
    (case a39 => k_is)
    (case l39 => k_is)
    (case c39 => k_is)
    (case k39 => k_is)
    (case a40 => k_is)
    (case l40 => k_is)
    (case c40 => k_is)
    (case k40 => k_is)
    (case a42 => k_is)
    (case l42 => k_is)
    (case c42 => k_is)
    (case k42 => k_is)
    (case a43 => k_is)
    (case l43 => k_is)
    (case c43 => k_is)
    (case k43 => k_is)
    (case a44 => k_is)
    (case l44 => k_is)
    (case c44 => k_is)
    (case k44 => k_is)
    (case a45 => k_is)
    (case l45 => k_is)
    (case c45 => k_is)
    (case k45 => k_is)
    (case a46 => k_is)
    (case l46 => k_is)
    (case c46 => k_is)
    (case k46 => k_is)
    (case a47 => k_is)
    (case l47 => k_is)
    (case c47 => k_is)
    (case k47 => k_is)
    (case a48 => k_is)
    (case l48 => k_is)
    (case c48 => k_is)
    (case k48 => k_is)
    (case a49 => k_is)
    (case l49 => k_is)
    (case c49 => k_is)
    (case k49 => k_is)
    (case aX2 => k_is)
    (case qX2 => first | k_is | exact rfl | decide +kernel)
    (case saX2 => k_is)
    (case eX2 => k_is)
    (case tX2 => k_is)
    (case kX2 => k_is)
    (case iX2 => k_is)
    (case uX2 => k_is)
    (case lX2 => k_is)
    (case cX2 => k_is)
    (case gaX2 => k_is)
    (case ggX2 => k_is)
    (case hdX2 => k_is)
    (case nX2_0 => k_is)
    (case nX2_1 => k_is)
    (case aO => k_is)
    (case lO => k_is)
    (case kO => exact ⟨⟨_, _, rfl, rfl⟩, ⟨_, _, rfl, rfl⟩, ⟨_, _, rfl, rfl⟩, ⟨_, _, rfl, rfl⟩, trivial⟩)
    (case o1 => k_is)
    (case o2 => k_is)
    (case o3 => k_is)
    (case o4 => k_is)
    (case aM => k_is)
    (case aG => k_is)
    (case lG => k_is)
    (case kG => exact ⟨⟨_, _, rfl, rfl⟩, ⟨_, _, rfl, rfl⟩, trivial⟩)
    (case g1 => k_is)
    (case g2 => k_is)
    (case z_all => k_is)
    (case z_isinstance => k_is)
    (case z_len => k_is)
    (case z_list => k_is)
    (case z_max => k_is)
    (case z_range => k_is)
    (case z_repr => k_is)
    (case z_set => k_is)
    (case z_sorted => k_is)
    (case z_str => k_is)
    (case z_tuple => k_is)