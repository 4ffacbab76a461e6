import PyProof.Rows.All
import Wide.All
import OpenK.AllK
import Wide.FinOn
import HandS.ForMost
import PySem.Challenge.RW_knotsorts_k02_rules_from_ballots
import HandS.Wide
import HandS.WideBits
import HandS.Deep
import HandS.Lambda
import HandS.IsInst
import HandS.Sort
import HandS.Conv
import HandS.Defaults
import HandS.MakeKwOnly
import HandS.RaiseMore
import HandS.Ends
import HandS.SortInts
import HandS.Exc
import HandS.ExcOwn
import HandS.WordsExc
import HandS.ExcInit
import HandS.ExcField
import HandS.CallSlots
import HandS.Dict
import KE.KExcIs
import HandS.ExcIs
import HandS.SortRule
import HandS.Iter
import HandS.Style
import HandS.SetFor
import HandS.CallLocal
import HandS.More
import HandS.TryOnly
import HandS.Property
import KE.KDictZip
import HandS.TupSets
import KE.KDictWalk
import KE.KDictSum
import PyProof.SumAny
import PyProof.ListOps
import HandS.FStr
import HandS.Text
import KE.GoesEnum
import HandS.Replace
import PyProof.ExcBaseAll.LookupError
import KE.KExcInit
import HandS.SortKw
import KE.DatumOrd
import HandS.GenList
import HandS.Rev
import HandS.EndTab
set_option Elab.async false
set_option linter.all false
set_option maxRecDepth 100000
set_option maxHeartbeats 4000000
/-! Trees: Python's values as trees of data, the lists that a def changes by what holds them, and when a reading keeps to a plain function over them. -/
namespace Tr
open PySem PySem.Spec PyProof.Rows L2

/-! ### two lists side by side -/
inductive All2 {α β : Type} (R : α → β → Prop) : List α → List β → Prop
  | nil : All2 R [] []
  | cons {a : α} {b : β} {as : List α} {bs : List β} : R a b → All2 R as bs → All2 R (a :: as) (b :: bs)
namespace All2
variable {α β : Type} {R S : α → β → Prop}
theorem len : ∀ {as : List α} {bs : List β}, All2 R as bs → as.length = bs.length
  | _, _, .nil => rfl
  | _, _, .cons _ t => by simp [t.len]
theorem mono (h : ∀ a b, R a b → S a b) : ∀ {as : List α} {bs : List β}, All2 R as bs → All2 S as bs
  | _, _, .nil => .nil
  | _, _, .cons r t => .cons (h _ _ r) (t.mono h)
theorem monoM : ∀ {as : List α} {bs : List β}, All2 R as bs → (∀ a b, a ∈ as → b ∈ bs → R a b → S a b) → All2 S as bs
  | _, _, .nil, _ => .nil
  | _, _, .cons r t, h => .cons (h _ _ (by simp) (by simp) r) (t.monoM fun a b x y => h a b (by simp [x]) (by simp [y]))
theorem get : ∀ {as : List α} {bs : List β} {i : Nat} {a : α}, All2 R as bs → as[i]? = some a → ∃ b, bs[i]? = some b ∧ R a b
  | _, _, _, _, .nil, h => by simp at h
  | _, _, 0, _, .cons r t, h => by simp at h; subst h; exact ⟨_, rfl, r⟩
  | _, _, i + 1, a, .cons r t, h => by
    rw [List.getElem?_cons_succ] at h
    obtain ⟨b, e, x⟩ := t.get h
    exact ⟨b, by rw [List.getElem?_cons_succ]; exact e, x⟩
theorem getR : ∀ {as : List α} {bs : List β} {i : Nat} {b : β}, All2 R as bs → bs[i]? = some b → ∃ a, as[i]? = some a ∧ R a b
  | _, _, _, _, .nil, h => by simp at h
  | _, _, 0, _, .cons r t, h => by simp at h; subst h; exact ⟨_, rfl, r⟩
  | _, _, i + 1, b, .cons r t, h => by
    rw [List.getElem?_cons_succ] at h
    obtain ⟨a, e, x⟩ := t.getR h
    exact ⟨a, by rw [List.getElem?_cons_succ]; exact e, x⟩
theorem app : ∀ {as as' : List α} {bs bs' : List β}, All2 R as bs → All2 R as' bs' → All2 R (as ++ as') (bs ++ bs')
  | _, _, _, _, .nil, s => s
  | _, _, _, _, .cons r t, s => .cons r (t.app s)
theorem take : ∀ {as : List α} {bs : List β} (n : Nat), All2 R as bs → All2 R (as.take n) (bs.take n)
  | _, _, 0, _ => .nil
  | _, _, _ + 1, .nil => .nil
  | _, _, n + 1, .cons r t => .cons r (t.take n)
theorem drop : ∀ {as : List α} {bs : List β} (n : Nat), All2 R as bs → All2 R (as.drop n) (bs.drop n)
  | _, _, 0, h => h
  | _, _, _ + 1, .nil => .nil
  | _, _, n + 1, .cons _ t => t.drop n
theorem set : ∀ {as : List α} {bs : List β} (n : Nat) {a : α} {b : β}, All2 R as bs → R a b → All2 R (as.set n a) (bs.set n b)
  | _, _, _, _, _, .nil, _ => .nil
  | _, _, 0, _, _, .cons _ t, x => .cons x t
  | _, _, n + 1, _, _, .cons r t, x => .cons r (t.set n x)
theorem erase : ∀ {as : List α} {bs : List β} (n : Nat), All2 R as bs → All2 R (as.eraseIdx n) (bs.eraseIdx n)
  | _, _, _, .nil => .nil
  | _, _, 0, .cons _ t => t
  | _, _, n + 1, .cons r t => .cons r (t.erase n)
theorem rep {as : List α} {bs : List β} (h : All2 R as bs) : ∀ n : Nat, All2 R (List.replicate n as).flatten (List.replicate n bs).flatten
  | 0 => .nil
  | n + 1 => by rw [List.replicate_succ, List.replicate_succ, List.flatten_cons, List.flatten_cons]; exact h.app (h.rep n)
theorem dropLast : ∀ {as : List α} {bs : List β}, All2 R as bs → All2 R as.dropLast bs.dropLast
  | _, _, h => by rw [List.dropLast_eq_take, List.dropLast_eq_take, ← h.len]; exact h.take _
theorem snoc {as : List α} {bs : List β} {a : α} {b : β} (h : All2 R as bs) (r : R a b) : All2 R (as ++ [a]) (bs ++ [b]) := h.app (.cons r .nil)
end All2

/-! ### data held by what never changes any more -/
mutual
/-- v is the data d, all of whose lists stand in F -/
def Rp (F : Hp) : PyData → V → Prop
  | .none, v => v = .non
  | .bool b, v => v = .bl b
  | .int i, v => v = .int i
  | .str s, v => v = .str s
  | .list ds, v => ∃ a vs, v = .ref a ∧ F a = some (.lst vs) ∧ Rps F ds vs
  | .tuple ds, v => ∃ a vs, v = .ref a ∧ F a = some (.tup vs) ∧ Rps F ds vs
  | .dict kvs, v => kvs = [] ∧ ∃ a, v = .ref a ∧ F a = some (.dK [])
def Rps (F : Hp) : List PyData → List V → Prop
  | [], vs => vs = []
  | d :: ds, vs => ∃ v r, vs = v :: r ∧ Rp F d v ∧ Rps F ds r
end
/-- what H has stands in H' -/
def Ex (H H' : Hp) : Prop := ∀ a o, H a = some o → H' a = some o
theorem Ex.refl (H : Hp) : Ex H H := fun _ _ h => h
theorem Ex.trans {H H1 H2 : Hp} (a : Ex H H1) (b : Ex H1 H2) : Ex H H2 := fun x o h => b x o (a x o h)
theorem Ex.new {H : Hp} {p : Addr} {o : HO} (h : H p = none) : Ex H (upd H p o) := fun a u e => by
  rw [upd_ne (ne_of_none e h)]
  exact e
theorem Ex.none {H H' : Hp} (e : Ex H H') {p : Addr} (h : H' p = Option.none) : H p = Option.none := by
  cases q : H p with
  | none => rfl
  | some o => rw [e p o q] at h; cases h

theorem rps_iff {F : Hp} : ∀ {ds : List PyData} {vs : List V}, Rps F ds vs ↔ All2 (Rp F) ds vs
  | [], vs => by
    constructor
    · intro h; have h' : vs = [] := h; subst h'; exact .nil
    · intro h; cases h; rfl
  | d :: ds, vs => by
    constructor
    · intro h
      obtain ⟨v, r, rfl, h1, h2⟩ := h
      exact .cons h1 (rps_iff.mp h2)
    · intro h
      cases h with
      | cons h1 h2 => exact ⟨_, _, rfl, h1, rps_iff.mpr h2⟩
theorem rp_list {F : Hp} {ds : List PyData} {v : V} : Rp F (.list ds) v ↔ ∃ a vs, v = .ref a ∧ F a = some (.lst vs) ∧ All2 (Rp F) ds vs := by
  constructor
  · rintro ⟨a, vs, e, h, r⟩; exact ⟨a, vs, e, h, rps_iff.mp r⟩
  · rintro ⟨a, vs, e, h, r⟩; exact ⟨a, vs, e, h, rps_iff.mpr r⟩
theorem rp_tuple {F : Hp} {ds : List PyData} {v : V} : Rp F (.tuple ds) v ↔ ∃ a vs, v = .ref a ∧ F a = some (.tup vs) ∧ All2 (Rp F) ds vs := by
  constructor
  · rintro ⟨a, vs, e, h, r⟩; exact ⟨a, vs, e, h, rps_iff.mp r⟩
  · rintro ⟨a, vs, e, h, r⟩; exact ⟨a, vs, e, h, rps_iff.mpr r⟩
mutual
theorem Rp.mono {F F' : Hp} (e : Ex F F') : ∀ {d : PyData} {v : V}, Rp F d v → Rp F' d v
  | .none, _, h => h
  | .bool _, _, h => h
  | .int _, _, h => h
  | .str _, _, h => h
  | .list ds, v, h => by
    obtain ⟨a, vs, q, h1, h2⟩ := h
    exact ⟨a, vs, q, e _ _ h1, Rps.mono e h2⟩
  | .tuple ds, v, h => by
    obtain ⟨a, vs, q, h1, h2⟩ := h
    exact ⟨a, vs, q, e _ _ h1, Rps.mono e h2⟩
  | .dict _, v, h => by
    obtain ⟨z, a, q, h1⟩ := h
    exact ⟨z, a, q, e _ _ h1⟩
theorem Rps.mono {F F' : Hp} (e : Ex F F') : ∀ {ds : List PyData} {vs : List V}, Rps F ds vs → Rps F' ds vs
  | [], _, h => h
  | d :: ds, _, h => by
    obtain ⟨v, r, q, h1, h2⟩ := h
    exact ⟨v, r, q, Rp.mono e h1, Rps.mono e h2⟩
end
theorem all_mono {F F' : Hp} (e : Ex F F') {ds : List PyData} {vs : List V} (h : All2 (Rp F) ds vs) : All2 (Rp F') ds vs := h.mono fun _ _ => Rp.mono e
mutual
theorem Rp.dp {K : PySem.W.Frag} {F H : Hp} (e : Ex F H) : ∀ {d : PyData} {v : V}, Rp F d v → d.canLay0 = true → Dp K H v d
  | .none, _, h, _ => by have h' : _ = _ := h; subst h'; exact .non
  | .bool _, _, h, _ => by have h' : _ = _ := h; subst h'; exact .bl _
  | .int _, _, h, _ => by have h' : _ = _ := h; subst h'; exact .int _
  | .str _, _, h, _ => by have h' : _ = _ := h; subst h'; exact .str _
  | .list ds, v, h, c => by
    obtain ⟨a, vs, rfl, h1, h2⟩ := h
    exact .lst (SqL.of (e _ _ h1)) (Rps.dp e h2 (by simpa [PyData.canLay0] using c))
  | .tuple ds, v, h, c => by
    obtain ⟨a, vs, rfl, h1, h2⟩ := h
    exact .tup (SqT.of (e _ _ h1)) (Rps.dp e h2 (by simpa [PyData.canLay0] using c))
  | .dict _, _, _, c => nomatch c
theorem Rps.dp {K : PySem.W.Frag} {F H : Hp} (e : Ex F H) : ∀ {ds : List PyData} {vs : List V}, Rps F ds vs → PyData.canLayAll0 ds = true → DpAll K H vs ds
  | [], _, h, _ => by have h' : _ = _ := h; subst h'; exact .nil
  | d :: ds, _, h, c => by
    obtain ⟨v, r, rfl, h1, h2⟩ := h
    have c' : d.canLay0 = true ∧ PyData.canLayAll0 ds = true := by simpa [PyData.canLayAll0] using c
    exact .cons (Rp.dp e h1 c'.1) (Rps.dp e h2 c'.2)
end
/-! ### what a name holds -/
inductive O where
  /-- data that never change any more -/
  | fz (d : PyData)
  /-- a range object -/
  | rg (lo hi : Int)
  /-- a list that this name alone holds; a list of such lists -/
  | ow (ds : List PyData) | ow2 (rows : List (List PyData))
  /-- the script, of the written part K or not -/
  | sc (K : PySem.W.Frag) (ns : List Int)
  /-- a tuple of texts of the module's top -/
  | kt (K : PySem.W.Frag) (xs : List Str)
  /-- an instance of the class at C: attributes that never change, and at most one list that it alone holds -/
  | ob (C : Addr) (fs : List (Str × PyData)) (g : Option (Str × List PyData))
  /-- a tuple of such lists -/
  | tp (rows : List (List PyData))
  /-- a dict (keys: ints and texts) that this name alone holds -/
  | dk (kvs : List (Key × PyData))
  /-- a dict (keys: tuples of ints and texts) that this name alone holds -/
  | dt (kvs : List (List Key × PyData))
  /-- data all of whose places this name alone holds -/
  | dd (d : PyData)
  /-- an instance none of whose parts changes any more -/
  | ro (C : Addr) (fs : List (Str × PyData))
abbrev En := List (Option O)
def Own (F H : Hp) (o : O) (v : V) (S : Addr → Prop) : Prop := match o with
  | .fz d => Rp F d v
  | .rg lo hi => ∃ a, v = .ref a ∧ F a = some (.rng lo hi)
  | .sc K ns => ∃ a, v = .ref a ∧ SqL K F a (ns.map V.int)
  | .kt K xs => ∃ a, v = .ref a ∧ SqT K F a (xs.map V.str)
  | .ow ds => ∃ a vs, v = .ref a ∧ S a ∧ H a = some (.lst vs) ∧ All2 (Rp F) ds vs
  | .ow2 rows => ∃ a rs, v = .ref a ∧ S a ∧ H a = some (.lst (rs.map V.ref)) ∧ a ∉ rs ∧ rs.Nodup ∧ All2 (fun row r => S r ∧ ∃ vs, H r = some (.lst vs) ∧ All2 (Rp F) row vs) rows rs
  | .ob C fs none => ∃ a dx fvs, v = .ref a ∧ S a ∧ S dx ∧ H a = some (.ins C dx fvs) ∧ H dx = some (.own a) ∧ All2 (fun (p : Str × PyData) (q : Str × V) => p.1 = q.1 ∧ Rp F p.2 q.2) fs fvs
  | .ob C fs (some (g, ds)) => ∃ a dx fvs r vs, v = .ref a ∧ S a ∧ S dx ∧ S r ∧ H a = some (.ins C dx (fvs ++ [(g, .ref r)])) ∧ H dx = some (.own a) ∧ H r = some (.lst vs) ∧ All2 (fun (p : Str × PyData) (q : Str × V) => p.1 = q.1 ∧ Rp F p.2 q.2) fs fvs ∧ All2 (Rp F) ds vs
  | .tp rows => ∃ a rs, v = .ref a ∧ S a ∧ H a = some (.tup (rs.map V.ref)) ∧ a ∉ rs ∧ rs.Nodup ∧ All2 (fun row r => S r ∧ ∃ vs, H r = some (.lst vs) ∧ All2 (Rp F) row vs) rows rs
  | .dk kvs => ∃ a kws, v = .ref a ∧ S a ∧ H a = some (.dK kws) ∧ All2 (fun (p : Key × PyData) (q : Key × V) => p.1 = q.1 ∧ Rp F p.2 q.2) kvs kws
  | .dt kvs => ∃ a kws, v = .ref a ∧ S a ∧ H a = some (.dT kws) ∧ All2 (fun (p : List Key × PyData) (q : List Key × V) => p.1 = q.1 ∧ Rp F p.2 q.2) kvs kws
  | .dd d => ∃ G : Hp, (∀ a u, G a = some u → S a ∧ H a = some u) ∧ Rp G d v
  | .ro C fs => ∃ a dx fvs, v = .ref a ∧ F a = some (.ins C dx fvs) ∧ F dx = some (.own a) ∧ All2 (fun (p : Str × PyData) (q : Str × V) => p.1 = q.1 ∧ Rp F p.2 q.2) fs fvs
theorem ex_sq {K : PySem.W.Frag} {F F' : Hp} {a : Addr} {xs : List V} (e : Ex F F') (h : SqL K F a xs) : SqL K F' a xs := by
  rcases h with (h | ⟨o, h⟩) | h
  · exact .inl (.inl (e _ _ h))
  · exact .inl (.inr ⟨o, e _ _ h⟩)
  · exact .inr h
theorem ex_sqT {K : PySem.W.Frag} {F F' : Hp} {a : Addr} {xs : List V} (e : Ex F F') (h : SqT K F a xs) : SqT K F' a xs := by
  rcases h with (h | ⟨o, h⟩) | h
  · exact .inl (.inl (e _ _ h))
  · exact .inl (.inr ⟨o, e _ _ h⟩)
  · exact .inr h
/-- tables of code objects that lambdas fill: where they stand, and whose they are -/
class TC where
  T : List (Addr × Str)
variable [TC]
def isTab (a : Addr) : Prop := ∃ q, (a, q) ∈ TC.T
/-- the tables stand, neither fixed nor held by a name -/
structure TBk (F H : Hp) (Sl : Nat → Addr → Prop) : Prop where
  tabs : LamX.Tabs TC.T H
  nF : ∀ a, isTab a → F a = none
  nS : ∀ a i, isTab a → ¬ Sl i a
structure REnv (F H : Hp) (σ : L2.St) (env : En) (Sl : Nat → Addr → Prop) : Prop where
  ex : Ex F H
  len : σ.length = env.length
  at_ : ∀ i o, env[i]? = some (some o) → ∃ v, σ[i]? = some (some v) ∧ Own F H o v (Sl i)
  dj : ∀ i j a, Sl i a → Sl j a → i = j
  tr : ∀ i a, Sl i a → F a = none ∧ ∃ o, H a = some o
  tb : TBk F H Sl
/-- neither a table nor a code object -/
def Slo (o : HO) : Prop := (∀ ps, o ≠ .tbl ps) ∧ ∀ f, o ≠ .ext f
theorem tabs_some {H H' : Hp} (k : ∀ b o, H b = some o → ¬ Slo o → H' b = some o) (t : LamX.Tabs TC.T H) : LamX.Tabs TC.T H' := fun p hp => by
  obtain ⟨ps, h1, h2, h3⟩ := t p hp
  refine ⟨ps, k _ _ h1 (fun z => z.1 ps rfl), h2, fun pos cv hc => ?_⟩
  obtain ⟨c, e, hc'⟩ := h3 pos cv hc
  exact ⟨c, e, k _ _ hc' (fun z => z.2 _ rfl)⟩
/-- a place that is free, or a thing that is no table, changes -/
theorem tabs_put {H : Hp} {a : Addr} {u : HO} (h : ∀ o, H a = some o → Slo o) (t : LamX.Tabs TC.T H) : LamX.Tabs TC.T (upd H a u) := tabs_some (fun b w e n => by
  by_cases hb : b = a
  · rw [hb] at e
    exact absurd (h w e) n
  · rw [upd_ne hb]
    exact e) t
theorem slo_none {H : Hp} {a : Addr} (h : H a = none) : ∀ o, H a = some o → Slo o := fun o e => by rw [h] at e; cases e
theorem slo_of {H : Hp} {a : Addr} {u : HO} (h : H a = some u) (s : Slo u := by exact ⟨fun _ z => (nomatch z), fun _ z => (nomatch z)⟩) : ∀ o, H a = some o → Slo o := fun o e => by rw [h] at e; cases e; exact s
theorem tabs_ex {H H' : Hp} (e : Ex H H') (t : LamX.Tabs TC.T H) : LamX.Tabs TC.T H' := t.ext e
theorem isTab_some {H : Hp} {a : Addr} (t : LamX.Tabs TC.T H) (h : isTab a) : ∃ ps, H a = some (.tbl ps) := by
  obtain ⟨q, hq⟩ := h
  obtain ⟨ps, h1, _⟩ := t _ hq
  exact ⟨ps, h1⟩
/-- what is something else is no table -/
theorem notT0 {H : Hp} {a : Addr} (t : LamX.Tabs TC.T H) (h : H a = none) : ¬ isTab a := fun z => by
  obtain ⟨ps, e⟩ := isTab_some t z
  rw [h] at e
  cases e
theorem notT {H : Hp} {a : Addr} {o : HO} (t : LamX.Tabs TC.T H) (h : H a = some o) (s : Slo o := by exact ⟨fun _ z => (nomatch z), fun _ z => (nomatch z)⟩) : ¬ isTab a := fun z => by
  obtain ⟨ps, e⟩ := isTab_some t z
  rw [h] at e
  cases e
  exact s.1 ps rfl
structure Step (F H : Hp) (Sl : Nat → Addr → Prop) (F' H' : Hp) (Sl' : Nat → Addr → Prop) : Prop where
  exF : Ex F F'
  fr : ∀ b o, H b = some o → (∀ i, ¬ Sl i b) → ¬ isTab b → H' b = some o
  tk : ∀ b o, H b = some o → ∃ o', H' b = some o'
  own : ∀ i b, Sl' i b → Sl i b ∨ H b = none
  fz : ∀ b o, F' b = some o → F b = some o ∨ H b = none ∨ ∃ i, Sl i b
  tb : LamX.Tabs TC.T H → LamX.Tabs TC.T H'
theorem TBk.step {F H F' H' : Hp} {Sl Sl' : Nat → Addr → Prop} (b : TBk F H Sl) (s : Step F H Sl F' H' Sl') : TBk F' H' Sl' := by
  refine ⟨s.tb b.tabs, fun a ha => ?_, fun a i ha z => ?_⟩
  · cases q : F' a with
    | none => rfl
    | some o =>
      rcases s.fz a o q with y | y | ⟨i, y⟩
      · rw [b.nF a ha] at y; cases y
      · obtain ⟨ps, e⟩ := isTab_some b.tabs ha
        rw [y] at e; cases e
      · exact (b.nS a i ha y).elim
  · rcases s.own i a z with y | y
    · exact b.nS a i ha y
    · obtain ⟨ps, e⟩ := isTab_some b.tabs ha
      rw [y] at e; cases e
/-- nothing more is held or fixed -/
theorem TBk.fewer {F H : Hp} {Sl Sl' : Nat → Addr → Prop} (b : TBk F H Sl) (k : ∀ i a, Sl' i a → ∃ j, Sl j a) : TBk F H Sl' := ⟨b.tabs, b.nF, fun a i ha z => (k i a z).elim fun j y => b.nS a j ha y⟩
theorem Step.refl {F H : Hp} {Sl : Nat → Addr → Prop} : Step F H Sl F H Sl := ⟨Ex.refl F, fun _ _ h _ _ => h, fun _ _ h => ⟨_, h⟩, fun _ _ h => .inl h, fun _ _ h => .inl h, fun t => t⟩
theorem Step.trans {F H F1 H1 F2 H2 : Hp} {Sl Sl1 Sl2 : Nat → Addr → Prop} (a : Step F H Sl F1 H1 Sl1) (b : Step F1 H1 Sl1 F2 H2 Sl2) : Step F H Sl F2 H2 Sl2 := by
  have back : ∀ c, H1 c = none → H c = none := fun c h => by
    cases q : H c with
    | none => rfl
    | some o => obtain ⟨o', e⟩ := a.tk c o q; rw [e] at h; cases h
  refine ⟨a.exF.trans b.exF, fun c o h n nt => b.fr c o (a.fr c o h n nt) (fun i z => ?_) nt, fun c o h => ?_, fun i c h => ?_, fun c o h => ?_, fun t => b.tb (a.tb t)⟩
  · rcases a.own i c z with z | z
    · exact n i z
    · rw [h] at z; cases z
  · obtain ⟨o', e⟩ := a.tk c o h
    exact b.tk c o' e
  · rcases b.own i c h with z | z
    · exact a.own i c z
    · exact .inr (back c z)
  · rcases b.fz c o h with z | z | ⟨i, z⟩
    · exact a.fz c o z
    · exact .inr (.inl (back c z))
    · rcases a.own i c z with y | y
      · exact .inr (.inr ⟨i, y⟩)
      · exact .inr (.inl y)
/-- only new things, tracked and fixed or not -/
theorem Step.grow {F H F' H' : Hp} {Sl : Nat → Addr → Prop} (a : Ex F F') (b : Ex H H') (c : ∀ x o, F' x = some o → F x = some o ∨ H x = none) : Step F H Sl F' H' Sl :=
  ⟨a, fun x o h _ _ => b x o h, fun x o h => ⟨o, b x o h⟩, fun _ _ h => .inl h, fun x o h => (c x o h).elim .inl fun z => .inr (.inl z), tabs_ex b⟩
theorem Own.ext {F H F' H' : Hp} {o : O} {v : V} {S : Addr → Prop} (h : Own F H o v S) (e : Ex F F') (k : ∀ a u, S a → H a = some u → H' a = some u) : Own F' H' o v S := by
  cases o with
  | fz d => exact Rp.mono e h
  | rg lo hi => obtain ⟨a, q, h⟩ := h; exact ⟨a, q, e _ _ h⟩
  | sc K ns => obtain ⟨a, q, h⟩ := h; exact ⟨a, q, ex_sq e h⟩
  | kt K xs => obtain ⟨a, q, h⟩ := h; exact ⟨a, q, ex_sqT e h⟩
  | ow ds => obtain ⟨a, vs, q, s, h, r⟩ := h; exact ⟨a, vs, q, s, k _ _ s h, all_mono e r⟩
  | ow2 rows =>
    obtain ⟨a, rs, q, s, h, n, nd, r⟩ := h
    exact ⟨a, rs, q, s, k _ _ s h, n, nd, r.mono fun row x ⟨s', vs, h', r'⟩ => ⟨s', vs, k _ _ s' h', all_mono e r'⟩⟩
  | tp rows =>
    obtain ⟨a, rs, q, s, h, n, nd, r⟩ := h
    exact ⟨a, rs, q, s, k _ _ s h, n, nd, r.mono fun row x ⟨s', vs, h', r'⟩ => ⟨s', vs, k _ _ s' h', all_mono e r'⟩⟩
  | dk kvs => obtain ⟨a, kws, q, s, h, r⟩ := h; exact ⟨a, kws, q, s, k _ _ s h, r.mono fun _ _ z => ⟨z.1, Rp.mono e z.2⟩⟩
  | dt kvs => obtain ⟨a, kws, q, s, h, r⟩ := h; exact ⟨a, kws, q, s, k _ _ s h, r.mono fun _ _ z => ⟨z.1, Rp.mono e z.2⟩⟩
  | dd d => obtain ⟨G, g, r⟩ := h; exact ⟨G, fun a u z => ⟨(g a u z).1, k a u (g a u z).1 (g a u z).2⟩, r⟩
  | ro C fs => obtain ⟨a, dx, fvs, q, h, h', r⟩ := h; exact ⟨a, dx, fvs, q, e _ _ h, e _ _ h', r.mono fun _ _ z => ⟨z.1, Rp.mono e z.2⟩⟩
  | ob C fs g =>
    cases g with
    | none =>
      obtain ⟨a, dx, fvs, q, s, s', h, h', r⟩ := h
      exact ⟨a, dx, fvs, q, s, s', k _ _ s h, k _ _ s' h', r.mono fun _ _ z => ⟨z.1, Rp.mono e z.2⟩⟩
    | some g =>
      obtain ⟨a, dx, fvs, p, vs, q, s, s', s2, h, h', h2, r, r2⟩ := h
      exact ⟨a, dx, fvs, p, vs, q, s, s', s2, k _ _ s h, k _ _ s' h', k _ _ s2 h2, r.mono fun _ _ z => ⟨z.1, Rp.mono e z.2⟩, all_mono e r2⟩
theorem Own.sub {F H : Hp} {o : O} {v : V} {S T : Addr → Prop} (h : Own F H o v S) (k : ∀ a, S a → T a) : Own F H o v T := by
  cases o with
  | fz d => exact h
  | rg lo hi => exact h
  | sc K ns => exact h
  | kt K xs => exact h
  | ow ds => obtain ⟨a, vs, q, s, h, r⟩ := h; exact ⟨a, vs, q, k _ s, h, r⟩
  | ow2 rows =>
    obtain ⟨a, rs, q, s, h, n, nd, r⟩ := h
    exact ⟨a, rs, q, k _ s, h, n, nd, r.mono fun row x ⟨s', z⟩ => ⟨k _ s', z⟩⟩
  | tp rows =>
    obtain ⟨a, rs, q, s, h, n, nd, r⟩ := h
    exact ⟨a, rs, q, k _ s, h, n, nd, r.mono fun row x ⟨s', z⟩ => ⟨k _ s', z⟩⟩
  | dk kvs => obtain ⟨a, kws, q, s, h, r⟩ := h; exact ⟨a, kws, q, k _ s, h, r⟩
  | dt kvs => obtain ⟨a, kws, q, s, h, r⟩ := h; exact ⟨a, kws, q, k _ s, h, r⟩
  | dd d => obtain ⟨G, g, r⟩ := h; exact ⟨G, fun a u z => ⟨k a (g a u z).1, (g a u z).2⟩, r⟩
  | ro C fs => exact h
  | ob C fs g =>
    cases g with
    | none =>
      obtain ⟨a, dx, fvs, q, s, s', z⟩ := h
      exact ⟨a, dx, fvs, q, k _ s, k _ s', z⟩
    | some g =>
      obtain ⟨a, dx, fvs, p, vs, q, s, s', s2, z⟩ := h
      exact ⟨a, dx, fvs, p, vs, q, k _ s, k _ s', k _ s2, z⟩
/-- what the names hold stands where only new things came -/
theorem REnv.grow {F H F' H' : Hp} {σ : L2.St} {env : En} {Sl : Nat → Addr → Prop} (R : REnv F H σ env Sl) (a : Ex F F') (b : Ex H H') (d : Ex F' H') (c : ∀ x o, F' x = some o → F x = some o ∨ H x = none) : REnv F' H' σ env Sl := by
  refine ⟨d, R.len, fun i o h => ?_, R.dj, fun i x h => ?_, R.tb.step (Step.grow a b c)⟩
  · obtain ⟨v, e, w⟩ := R.at_ i o h
    exact ⟨v, e, w.ext a fun x u _ q => b x u q⟩
  · obtain ⟨h1, o, h2⟩ := R.tr i x h
    refine ⟨?_, o, b _ _ h2⟩
    cases q : F' x with
    | none => rfl
    | some u =>
      rcases c x u q with z | z
      · rw [h1] at z; cases z
      · rw [h2] at z; cases z

/-! ### what an expression gives: data, or the very list that a name holds -/
inductive P where | val (d : PyData) | var (i : Nat) | k (K : PySem.W.Frag) (xs : List Str)
def RP (F : Hp) (σ : L2.St) (v : V) : P → Prop
  | .val d => Rp F d v
  | .var i => σ[i]? = some (some v)
  | .k K xs => ∃ a, v = .ref a ∧ SqT K F a (xs.map V.str)
theorem RP.mono {F F' : Hp} {σ : L2.St} {v : V} {p : P} (e : Ex F F') (h : RP F σ v p) : RP F' σ v p := by
  cases p with
  | val d => exact Rp.mono e h
  | var i => exact h
  | k K xs => obtain ⟨a, q, h⟩ := h; exact ⟨a, q, ex_sqT e h⟩
def vw (env : En) : P → Option PyData
  | .val d => some d
  | .var i => match env[i]? with
    | some (some (.fz d)) => some d
    | some (some (.ow ds)) => some (.list ds)
    | some (some (.ow2 rows)) => some (.list (rows.map .list))
    | _ => none
  | .k _ _ => none
/-- a list whose items are fixed -/
def sq (env : En) : P → Option (List PyData)
  | .val (.list ds) => some ds
  | .var i => match env[i]? with
    | some (some (.fz (.list ds))) => some ds
    | some (some (.ow ds)) => some ds
    | _ => none
  | _ => none
theorem vw_rp {F H : Hp} {σ : L2.St} {env : En} {Sl : Nat → Addr → Prop} {v : V} {p : P} {d : PyData} (R : REnv F H σ env Sl) (h : RP F σ v p) (e : vw env p = some d) : Rp H d v := by
  cases p with
  | val d' =>
    have e' : some d' = some d := e
    cases e'
    exact Rp.mono R.ex h
  | var i =>
    simp only [vw] at e
    split at e
    · rename_i d' he
      cases e
      obtain ⟨v', e1, w⟩ := R.at_ i _ he
      rw [show σ[i]? = some (some v) from h] at e1
      cases e1
      exact Rp.mono R.ex w
    · rename_i ds he
      cases e
      obtain ⟨v', e1, a, vs, q, s, hH, r⟩ := R.at_ i _ he
      rw [show σ[i]? = some (some v) from h] at e1
      cases e1
      exact rp_list.mpr ⟨a, vs, q, hH, all_mono R.ex r⟩
    · rename_i rows he
      cases e
      obtain ⟨v', e1, a, rs, q, s, hH, n, nd, r⟩ := R.at_ i _ he
      rw [show σ[i]? = some (some v) from h] at e1
      cases e1
      refine rp_list.mpr ⟨a, _, q, hH, ?_⟩
      clear hH n nd s he h
      induction r with
      | nil => exact .nil
      | cons x t ih =>
        obtain ⟨_, vs, h1, h2⟩ := x
        exact .cons (rp_list.mpr ⟨_, vs, rfl, h1, all_mono R.ex h2⟩) ih
    · cases e
  | k K xs => cases e
theorem vw_dp {K : PySem.W.Frag} {F H : Hp} {σ : L2.St} {env : En} {Sl : Nat → Addr → Prop} {v : V} {p : P} {d : PyData} (R : REnv F H σ env Sl) (h : RP F σ v p) (e : vw env p = some d) (c : d.canLay0 = true) : Dp K H v d := Rp.dp (Ex.refl H) (vw_rp R h e) c
theorem sq_of {F H : Hp} {σ : L2.St} {env : En} {Sl : Nat → Addr → Prop} {v : V} {p : P} {ds : List PyData} (R : REnv F H σ env Sl) (h : RP F σ v p) (e : sq env p = some ds) : ∃ a vs, v = .ref a ∧ H a = some (.lst vs) ∧ All2 (Rp F) ds vs := by
  unfold sq at e
  split at e
  · cases e
    obtain ⟨a, vs, q, h1, h2⟩ := rp_list.mp h
    exact ⟨a, vs, q, R.ex _ _ h1, h2⟩
  · rename_i i
    split at e
    · rename_i ds' he
      cases e
      obtain ⟨v', e1, w⟩ := R.at_ i _ he
      rw [show σ[i]? = some (some v) from h] at e1
      cases e1
      obtain ⟨a, vs, q, h1, h2⟩ := rp_list.mp w
      exact ⟨a, vs, q, R.ex _ _ h1, h2⟩
    · rename_i ds' he
      cases e
      obtain ⟨v', e1, a, vs, q, s, hH, r⟩ := R.at_ i _ he
      rw [show σ[i]? = some (some v) from h] at e1
      cases e1
      exact ⟨a, vs, q, hH, r⟩
    · cases e
  · cases e
end Tr
namespace Tr
open PySem PySem.Spec PyProof.Rows L2
variable [TC]

/-! ### a held list is let go: it never changes from now on -/
def fzP (env : En) : P → Option (PyData × En)
  | .val d => some (d, env)
  | .var i => match env[i]? with
    | some (some (.fz d)) => some (d, env)
    | some (some (.ow ds)) => some (.list ds, env.set i (some (.fz (.list ds))))
    | some (some (.ow2 rows)) => some (.list (rows.map .list), env.set i (some (.fz (.list (rows.map .list)))))
    | _ => none
  | .k _ _ => none
theorem set_at {α : Type} {l : List α} {i j : Nat} {a b : α} (h : (l.set i a)[j]? = some b) : (j = i ∧ b = a ∧ i < l.length) ∨ (j ≠ i ∧ l[j]? = some b) := by
  by_cases e : j = i
  · subst e
    rw [List.getElem?_set] at h
    simp only [if_true] at h
    split at h
    · rename_i hl
      exact .inl ⟨rfl, (Option.some.inj h).symm, hl⟩
    · cases h
  · rw [List.getElem?_set_ne (Ne.symm e)] at h
    exact .inr ⟨e, h⟩
open Classical in
/-- what the places at S hold is fixed -/
noncomputable def fixed (F H : Hp) (S : Addr → Prop) : Hp := fun b => if S b then H b else F b
theorem fixed_in {F H : Hp} {S : Addr → Prop} {b : Addr} (h : S b) : fixed F H S b = H b := by unfold fixed; rw [if_pos h]
theorem fixed_out {F H : Hp} {S : Addr → Prop} {b : Addr} (h : ¬ S b) : fixed F H S b = F b := by unfold fixed; rw [if_neg h]
/-- the data of a held thing, as a list that is let go -/
def O.dat : O → Option PyData
  | .fz d => some d
  | .ow ds => some (.list ds)
  | .ow2 rows => some (.list (rows.map .list))
  | .rg _ _ => none
  | .sc _ _ => none
  | .kt _ _ => none
  | .ob _ _ _ => none
  | .tp rows => some (.tuple (rows.map .list))
  | .dk _ => none
  | .dt _ => none
  | .dd d => some d
  | .ro _ _ => none
theorem Own.fix {F H : Hp} {o : O} {v : V} {S : Addr → Prop} {d : PyData} (h : Own F H o v S) (tr : ∀ a, S a → F a = none) (e : o.dat = some d) : Rp (fixed F H S) d v := by
  have ex : Ex F (fixed F H S) := fun a u q => by
    rw [fixed_out (fun z => by rw [tr a z] at q; cases q)]
    exact q
  cases o with
  | fz d' => cases e; exact Rp.mono ex h
  | rg _ _ => cases e
  | sc _ _ => cases e
  | kt _ _ => cases e
  | ow ds =>
    cases e
    obtain ⟨a, vs, q, s, hH, r⟩ := h
    exact rp_list.mpr ⟨a, vs, q, by rw [fixed_in s]; exact hH, all_mono ex r⟩
  | ow2 rows =>
    cases e
    obtain ⟨a, rs, q, s, hH, n, nd, r⟩ := h
    refine rp_list.mpr ⟨a, _, q, by rw [fixed_in s]; exact hH, ?_⟩
    clear hH n nd
    induction r with
    | nil => exact .nil
    | cons x t ih =>
      obtain ⟨s', vs, h1, h2⟩ := x
      exact .cons (rp_list.mpr ⟨_, vs, rfl, by rw [fixed_in s']; exact h1, all_mono ex h2⟩) ih
  | ob _ _ _ => cases e
  | dk _ => cases e
  | dt _ => cases e
  | ro _ _ => cases e
  | dd d =>
    cases e
    obtain ⟨G, g, r⟩ := h
    exact Rp.mono (fun a u z => by rw [fixed_in (g a u z).1]; exact (g a u z).2) r
  | tp rows =>
    cases e
    obtain ⟨a, rs, q, s, hH, n, nd, r⟩ := h
    refine rp_tuple.mpr ⟨a, _, q, by rw [fixed_in s]; exact hH, ?_⟩
    clear hH n nd
    induction r with
    | nil => exact .nil
    | cons x t ih =>
      obtain ⟨s', vs, h1, h2⟩ := x
      exact .cons (rp_list.mpr ⟨_, vs, rfl, by rw [fixed_in s']; exact h1, all_mono ex h2⟩) ih
/-- the set of the place i is let go -/
def lose (Sl : Nat → Addr → Prop) (i : Nat) : Nat → Addr → Prop := fun j a => j ≠ i ∧ Sl j a
theorem REnv.fix {F H : Hp} {σ : L2.St} {env : En} {Sl : Nat → Addr → Prop} {i : Nat} {o : O} {v : V} {d : PyData} (R : REnv F H σ env Sl) (hi : env[i]? = some (some o)) (hv : σ[i]? = some (some v))
    (e : o.dat = some d) :
    Step F H Sl (fixed F H (Sl i)) H (lose Sl i) ∧ REnv (fixed F H (Sl i)) H σ (env.set i (some (.fz d))) (lose Sl i) ∧ Rp (fixed F H (Sl i)) d v := by
  have ex : Ex F (fixed F H (Sl i)) := fun a u q => by
    rw [fixed_out (fun z => by rw [(R.tr i a z).1] at q; cases q)]
    exact q
  obtain ⟨v', e1, w⟩ := R.at_ i _ hi
  rw [hv] at e1
  cases e1
  have rp := w.fix (fun a s => (R.tr i a s).1) e
  have st : Step F H Sl (fixed F H (Sl i)) H (lose Sl i) := by
    refine ⟨ex, fun _ _ h _ _ => h, fun _ _ h => ⟨_, h⟩, fun j b h => .inl h.2, fun b o h => ?_, fun t => t⟩
    by_cases z : Sl i b
    · exact .inr (.inr ⟨i, z⟩)
    · rw [fixed_out z] at h
      exact .inl h
  refine ⟨st, ⟨fun b u q => ?_, by rw [List.length_set]; exact R.len, fun j u h => ?_, fun j k a x y => R.dj j k a x.2 y.2, fun j a x => ?_, R.tb.step st⟩, rp⟩
  · by_cases z : Sl i b
    · rw [fixed_in z] at q
      exact q
    · rw [fixed_out z] at q
      exact R.ex _ _ q
  · rcases set_at h with ⟨rfl, e2, _⟩ | ⟨ne, h'⟩
    · cases e2
      exact ⟨v, hv, rp⟩
    · obtain ⟨v2, e2, w2⟩ := R.at_ j u h'
      exact ⟨v2, e2, (w2.ext ex fun _ _ _ q => q).sub fun a s => ⟨ne, s⟩⟩
  · obtain ⟨h1, h2⟩ := R.tr j a x.2
    refine ⟨?_, h2⟩
    rw [fixed_out fun z => x.1 (R.dj j i a x.2 z)]
    exact h1
theorem fz_ok {F H : Hp} {σ : L2.St} {env env' : En} {Sl : Nat → Addr → Prop} {v : V} {p : P} {d : PyData} (R : REnv F H σ env Sl) (h : RP F σ v p) (e : fzP env p = some (d, env')) :
    ∃ F' Sl', Step F H Sl F' H Sl' ∧ REnv F' H σ env' Sl' ∧ Rp F' d v := by
  cases p with
  | val d' =>
    simp only [fzP] at e
    cases e
    exact ⟨F, Sl, Step.refl, R, h⟩
  | var i =>
    have hv : σ[i]? = some (some v) := h
    simp only [fzP] at e
    split at e
    · rename_i d' he
      cases e
      obtain ⟨v', e1, w⟩ := R.at_ i _ he
      rw [hv] at e1
      cases e1
      exact ⟨F, Sl, Step.refl, R, w⟩
    · rename_i ds he
      cases e
      obtain ⟨a, b, c⟩ := R.fix he hv rfl
      exact ⟨_, _, a, b, c⟩
    · rename_i rows he
      cases e
      obtain ⟨a, b, c⟩ := R.fix he hv rfl
      exact ⟨_, _, a, b, c⟩
    · cases e
  | k K xs => cases e

/-! ### readings and plain functions -/
/-- a reading t keeps to the plain function m; pu: nothing is let go, nothing changes -/
def RG {ρ α : Type} (pu : Bool) (rel : Hp → L2.St → ρ → α → Prop) (t : L2.St → Hp → (ρ → Hp → Prop) → Prop) (m : En → Option (α × En)) : Prop :=
  ∀ F H σ env Sl, REnv F H σ env Sl → ∀ a env', m env = some (a, env') → ∀ Q : ρ → Hp → Prop, (∀ r F' H' Sl', Step F H Sl F' H' Sl' → (pu = true → env' = env ∧ Ex H H' ∧ Sl' = Sl) → REnv F' H' σ env' Sl' → rel F' σ r a → Q r H') → t σ H Q
def Mono {ρ α : Type} (rel : Hp → L2.St → ρ → α → Prop) : Prop := ∀ F F' σ r a, Ex F F' → rel F σ r a → rel F' σ r a
abbrev ME := En → Option (P × En)
abbrev MT := En → Option (Bool × En)
abbrev MA := En → Option (List P × En)
def relP : Hp → L2.St → V → P → Prop := RP
def relB : Hp → L2.St → Bool → Bool → Prop := fun _ _ b c => b = c
def relA : Hp → L2.St → List V → List P → Prop := fun F σ vs ps => All2 (fun p v => RP F σ v p) ps vs
theorem monoP : Mono relP := fun _ _ _ _ _ e h => RP.mono e h
theorem monoA : Mono relA := fun _ _ _ _ _ e h => h.mono fun _ _ => RP.mono e
abbrev RE (pu : Bool) (t : TE) (m : ME) : Prop := RG pu relP t m
abbrev RT (pu : Bool) (t : TT) (m : MT) : Prop := RG pu relB t m
abbrev RA (pu : Bool) (t : TA) (m : MA) : Prop := RG pu relA t m
/-- one after the other -/
def bnd {α β : Type} (m : En → Option (α × En)) (k : α → En → Option (β × En)) : En → Option (β × En) := fun env => match m env with
  | some (a, e) => k a e
  | none => none
theorem bnd_of {α β : Type} {m : En → Option (α × En)} {k : α → En → Option (β × En)} {env e' : En} {b : β} (h : bnd m k env = some (b, e')) : ∃ a e, m env = some (a, e) ∧ k a e = some (b, e') := by
  unfold bnd at h
  split at h
  · rename_i a e he
    exact ⟨a, e, he, h⟩
  · cases h
theorem bnd_eq {α β : Type} {m : En → Option (α × En)} {k : α → En → Option (β × En)} {env e : En} {a : α} (h : m env = some (a, e)) : bnd m k env = k a e := by
  unfold bnd
  rw [h]
section
variable {ρ ρ' ρ'' α β γ : Type} {rel : Hp → L2.St → ρ → α → Prop} {rel' : Hp → L2.St → ρ' → β → Prop} {rel'' : Hp → L2.St → ρ'' → γ → Prop} {pu pv : Bool}
theorem pu_step {F H F1 H1 F2 H2 : Hp} {env e1 e2 : En} {Sl Sl1 Sl2 : Nat → Addr → Prop} (a : pu = true → e1 = env ∧ Ex H H1 ∧ Sl1 = Sl) (b : pv = true → e2 = e1 ∧ Ex H1 H2 ∧ Sl2 = Sl1) : (pu && pv) = true → e2 = env ∧ Ex H H2 ∧ Sl2 = Sl := fun h => by
  rw [Bool.and_eq_true] at h
  obtain ⟨a0, a1, a2⟩ := a h.1
  obtain ⟨b0, b1, b2⟩ := b h.2
  exact ⟨b0.trans a0, a1.trans b1, b2.trans a2⟩
/-- a last step that only adds new things -/
theorem rg_fin {t : L2.St → Hp → (ρ → Hp → Prop) → Prop} {k : ρ → Hp → (ρ' → Hp → Prop) → Prop} {m : En → Option (α × En)} {g : En → α → Option β} (h : RG pu rel t m)
    (hk : ∀ F H σ env Sl r a b, REnv F H σ env Sl → rel F σ r a → g env a = some b → ∀ Q : ρ' → Hp → Prop, (∀ v F' H', Ex F F' → Ex H H' → Ex F' H' → (∀ b o, F' b = some o → F b = some o ∨ H b = none) → rel' F' σ v b → Q v H') → k r H Q) :
    RG pu rel' (fun σ H Q => t σ H fun r H1 => k r H1 Q) (bnd m fun a e => (g e a).map fun b => (b, e)) := by
  intro F H σ env Sl R b env' e Q q
  obtain ⟨a, e1, h1, h2⟩ := bnd_of e
  cases h3 : g e1 a with
  | none => rw [h3] at h2; cases h2
  | some b' =>
    rw [h3] at h2
    cases h2
    refine h F H σ env Sl R a _ h1 _ fun r F1 H1 Sl1 s1 pu1 R1 r1 => ?_
    refine hk F1 H1 σ _ Sl1 r a _ R1 r1 h3 Q fun v F' H' x y z n rr => ?_
    refine q v F' H' Sl1 (s1.trans (Step.grow x y n)) (fun hp => ?_) (R1.grow x y z n) rr
    obtain ⟨x1, x2, x3⟩ := pu1 hp
    exact ⟨x1, x2.trans y, x3⟩
/-- a pair, from the left -/
theorem rg_pair {t : L2.St → Hp → (ρ → Hp → Prop) → Prop} {u : L2.St → Hp → (ρ' → Hp → Prop) → Prop} {m : En → Option (α × En)} {n : En → Option (β × En)} (h : RG pu rel t m) (h' : RG pv rel' u n) (mo : Mono rel) :
    RG (pu && pv) (fun F σ (r : ρ × ρ') (a : α × β) => rel F σ r.1 a.1 ∧ rel' F σ r.2 a.2) (fun σ H Q => t σ H fun x H1 => u σ H1 fun y H2 => Q (x, y) H2) (bnd m fun a e => bnd n (fun b e2 => some ((a, b), e2)) e) := by
  intro F H σ env Sl R ab env' e Q q
  obtain ⟨a, e1, h1, h2⟩ := bnd_of e
  obtain ⟨b, e2, h3, h4⟩ := bnd_of h2
  cases h4
  refine h F H σ env Sl R a _ h1 _ fun r F1 H1 Sl1 s1 pu1 R1 r1 => ?_
  refine h' F1 H1 σ e1 Sl1 R1 b _ h3 _ fun r' F2 H2 Sl2 s2 pu2 R2 r2 => ?_
  exact q (r, r') F2 H2 Sl2 (s1.trans s2) (pu_step (F := F) (F1 := F1) (F2 := F2) pu1 pu2) R2 ⟨mo _ _ _ _ _ s2.exF r1, r2⟩
end
section
variable {pu pv : Bool} {t u ta tb : TE} {m ma mb : ME}
/-- a name -/
def mVar (i : Nat) : ME := fun env => match env[i]? with
  | some (some (.fz d)) => some (.val d, env)
  | some (some (.ow _)) => some (.var i, env)
  | some (some (.ow2 _)) => some (.var i, env)
  | some (some (.ob _ _ _)) => some (.var i, env)
  | some (some (.dk _)) => some (.var i, env)
  | some (some (.kt K xs)) => some (.k K xs, env)
  | _ => none
theorem re_var {i : Nat} : RE true (tVar i) (mVar i) := by
  intro F H σ env Sl R p env' e Q q
  unfold mVar at e
  split at e
  · rename_i d he
    cases e
    obtain ⟨v, e1, w⟩ := R.at_ i _ he
    exact ⟨v, e1, q v F H Sl Step.refl (fun _ => ⟨rfl, Ex.refl H, rfl⟩) R w⟩
  · rename_i ds he
    cases e
    obtain ⟨v, e1, w⟩ := R.at_ i _ he
    exact ⟨v, e1, q v F H Sl Step.refl (fun _ => ⟨rfl, Ex.refl H, rfl⟩) R e1⟩
  · rename_i ds he
    cases e
    obtain ⟨v, e1, w⟩ := R.at_ i _ he
    exact ⟨v, e1, q v F H Sl Step.refl (fun _ => ⟨rfl, Ex.refl H, rfl⟩) R e1⟩
  · rename_i he
    cases e
    obtain ⟨v, e1, w⟩ := R.at_ i _ he
    exact ⟨v, e1, q v F H Sl Step.refl (fun _ => ⟨rfl, Ex.refl H, rfl⟩) R e1⟩
  · rename_i he
    cases e
    obtain ⟨v, e1, w⟩ := R.at_ i _ he
    exact ⟨v, e1, q v F H Sl Step.refl (fun _ => ⟨rfl, Ex.refl H, rfl⟩) R e1⟩
  · rename_i K xs he
    cases e
    obtain ⟨v, e1, w⟩ := R.at_ i _ he
    exact ⟨v, e1, q v F H Sl Step.refl (fun _ => ⟨rfl, Ex.refl H, rfl⟩) R w⟩
  · cases e
/-- a constant -/
def mC (d : PyData) : ME := fun env => some (.val d, env)
theorem re_c {v : V} {d : PyData} (h : ∀ F, Rp F d v) : RE true (tC v) (mC d) := by
  intro F H σ env Sl R p env' e Q q
  cases e
  exact q v F H Sl Step.refl (fun _ => ⟨rfl, Ex.refl H, rfl⟩) R (h F)
theorem re_int {i : Int} : RE true (tC (.int i)) (mC (.int i)) := re_c fun _ => rfl
theorem re_bl {b : Bool} : RE true (tC (.bl b)) (mC (.bool b)) := re_c fun _ => rfl
theorem re_str {x : Str} : RE true (tC (.str x)) (mC (.str x)) := re_c fun _ => rfl
theorem re_non : RE true (tC .non) (mC .none) := re_c fun _ => rfl

/-- a plain function of two operands -/
def mBin (g : En → P → P → Option P) (ma mb : ME) : ME := bnd ma fun p e => bnd mb (fun q e2 => (g e2 p q).map fun r => (r, e2)) e
def BinK (k : V → V → Hp → VK → Prop) (g : En → P → P → Option P) : Prop := ∀ F H σ env Sl x y p1 p2 p, REnv F H σ env Sl → RP F σ x p1 → RP F σ y p2 → g env p1 p2 = some p → ∀ Q : VK,
  (∀ v F' H', Ex F F' → Ex H H' → Ex F' H' → (∀ b o, F' b = some o → F b = some o ∨ H b = none) → RP F' σ v p → Q v H') → k x y H Q
theorem re_bin {k : V → V → Hp → VK → Prop} {g : En → P → P → Option P} (ha : RE pu ta ma) (hb : RE pv tb mb) (hk : BinK k g) : RE (pu && pv) (tOp k ta tb) (mBin g ma mb) := by
  have h := rg_fin (rel' := relP) (k := fun r H Q => k r.1 r.2 H Q) (g := fun env (ab : P × P) => g env ab.1 ab.2) (rg_pair ha hb monoP) (fun F H σ env Sl r a b R rr e Q q => hk F H σ env Sl r.1 r.2 a.1 a.2 b R rr.1 rr.2 e Q q)
  intro F H σ env Sl R p env' e
  refine h F H σ env Sl R p env' ?_
  unfold mBin at e
  obtain ⟨a, e1, h1, h2⟩ := bnd_of e
  obtain ⟨b, e2, h3, h4⟩ := bnd_of h2
  rw [bnd_eq (a := (a, b)) (e := e2) (by rw [bnd_eq h1, bnd_eq h3])]
  exact h4
def mUn (g : En → P → Option P) (ma : ME) : ME := bnd ma fun p e => (g e p).map fun r => (r, e)
def UnK (k : V → Hp → VK → Prop) (g : En → P → Option P) : Prop := ∀ F H σ env Sl x p1 p, REnv F H σ env Sl → RP F σ x p1 → g env p1 = some p → ∀ Q : VK,
  (∀ v F' H', Ex F F' → Ex H H' → Ex F' H' → (∀ b o, F' b = some o → F b = some o ∨ H b = none) → RP F' σ v p → Q v H') → k x H Q
theorem re_un {k : V → Hp → VK → Prop} {g : En → P → Option P} (ha : RE pu ta ma) (hk : UnK k g) : RE pu (tUn k ta) (mUn g ma) := rg_fin (rel := relP) (rel' := relP) (k := k) ha hk
def mFn (g : En → List P → Option P) (ma : MA) : ME := bnd ma fun p e => (g e p).map fun r => (r, e)
def FnK (k : List V → Hp → VK → Prop) (g : En → List P → Option P) : Prop := ∀ F H σ env Sl xs ps p, REnv F H σ env Sl → relA F σ xs ps → g env ps = some p → ∀ Q : VK,
  (∀ v F' H', Ex F F' → Ex H H' → Ex F' H' → (∀ b o, F' b = some o → F b = some o ∨ H b = none) → RP F' σ v p → Q v H') → k xs H Q
theorem re_fn {k : List V → Hp → VK → Prop} {g : En → List P → Option P} {ta : TA} {ma : MA} (ha : RA pu ta ma) (hk : FnK k g) : RE pu (tCB k ta) (mFn g ma) := rg_fin (rel := relA) (rel' := relP) (k := k) ha hk
/-! arguments -/
def mNil : MA := fun env => some ([], env)
theorem ra_nil : RA true tNil mNil := by
  intro F H σ env Sl R p env' e Q q
  cases e
  exact q [] F H Sl Step.refl (fun _ => ⟨rfl, Ex.refl H, rfl⟩) R .nil
def mCons (ma : ME) (mb : MA) : MA := bnd ma fun p e => bnd mb (fun ps e2 => some (p :: ps, e2)) e
theorem ra_cons {tr : TA} {mr : MA} (ha : RE pu ta ma) (hb : RA pv tr mr) : RA (pu && pv) (tCons ta tr) (mCons ma mr) := by
  intro F H σ env Sl R ps env' e Q q
  obtain ⟨a, e1, h1, h2⟩ := bnd_of e
  obtain ⟨b, e2, h3, h4⟩ := bnd_of h2
  cases h4
  refine ha F H σ env Sl R a _ h1 _ fun r F1 H1 Sl1 s1 pu1 R1 r1 => ?_
  refine hb F1 H1 σ e1 Sl1 R1 b _ h3 _ fun r' F2 H2 Sl2 s2 pu2 R2 r2 => ?_
  exact q (r :: r') F2 H2 Sl2 (s1.trans s2) (pu_step (F := F) (F1 := F1) (F2 := F2) pu1 pu2) R2 (.cons (r1.mono s2.exF) r2)
end
end Tr
namespace Tr
open PySem PySem.Spec PyProof.Rows L2
variable [TC]

/-! ### whole numbers -/
def gI (C : Int → Int → Bool) (f : Int → Int → PyData) : En → P → P → Option P
  | _, .val (.int i), .val (.int j) => if C i j then some (.val (f i j)) else none
  | _, _, _ => none
def gI0 (f : Int → Int → PyData) : En → P → P → Option P
  | _, .val (.int i), .val (.int j) => some (.val (f i j))
  | _, _, _ => none
theorem pr_val {F : Hp} {σ : L2.St} {v : V} {d : PyData} (h : RP F σ v (.val d)) : Rp F d v := h
theorem rp_int {F : Hp} {i : Int} {v : V} (h : Rp F (.int i) v) : v = .int i := h
theorem pint {F : Hp} {σ : L2.St} {i : Int} {v : V} (h : RP F σ v (.val (.int i))) : v = .int i := h
theorem pbool {F : Hp} {σ : L2.St} {i : Bool} {v : V} (h : RP F σ v (.val (.bool i))) : v = .bl i := h
theorem pstr {F : Hp} {σ : L2.St} {i : Str} {v : V} (h : RP F σ v (.val (.str i))) : v = .str i := h
theorem rp_bool {F : Hp} {b : Bool} {v : V} (h : Rp F (.bool b) v) : v = .bl b := h
theorem rp_str {F : Hp} {x : Str} {v : V} (h : Rp F (.str x) v) : v = .str x := h
theorem rp_none {F : Hp} {v : V} (h : Rp F .none v) : v = .non := h
theorem bin_I {C : Int → Int → Prop} {D : Int → Int → Bool} {g : Int → Int → V} {f : Int → Int → PyData} (hc : ∀ i j, D i j = true → C i j) (hf : ∀ i j F, Rp F (f i j) (g i j)) : BinK (rI C g) (gI D f) := by
  intro F H σ env Sl x y p1 p2 p R h1 h2 e Q q
  unfold gI at e
  split at e
  · rename_i i j
    split at e
    · rename_i hd
      cases e
      exact ⟨i, j, pint h1, pint h2, hc i j hd, q _ F H (Ex.refl F) (Ex.refl H) R.ex (fun _ _ z => .inl z) (hf i j F)⟩
    · cases e
  · cases e
theorem bin_I0 {g : Int → Int → V} {f : Int → Int → PyData} (hf : ∀ i j F, Rp F (f i j) (g i j)) : BinK (rI0 g) (gI0 f) := by
  intro F H σ env Sl x y p1 p2 p R h1 h2 e Q q
  unfold gI0 at e
  split at e
  · rename_i i j
    cases e
    exact ⟨i, j, pint h1, pint h2, q _ F H (Ex.refl F) (Ex.refl H) R.ex (fun _ _ z => .inl z) (hf i j F)⟩
  · cases e
theorem b_add : BinK (rI0 fun i j => .int (i + j)) (gI0 fun i j => .int (i + j)) := bin_I0 fun _ _ _ => rfl
theorem b_sub : BinK (rI0 fun i j => .int (i - j)) (gI0 fun i j => .int (i - j)) := bin_I0 fun _ _ _ => rfl
theorem b_mul : BinK (rI CMulW fun i j => .int (i * j)) (gI (fun i j => decide (i.natAbs.log2 + j.natAbs.log2 < 1000000)) fun i j => .int (i * j)) := bin_I (fun i j h => show i.natAbs.log2 + j.natAbs.log2 < 1000000 from of_decide_eq_true h) fun _ _ _ => rfl
theorem b_fdiv : BinK (rI CDivN fun i j => .int (i.fdiv j)) (gI (fun _ j => decide (j ≠ 0 ∧ j.natAbs < 1073741824)) fun i j => .int (i.fdiv j)) := bin_I (fun _ j h => show j ≠ 0 ∧ j.natAbs < 1073741824 from of_decide_eq_true h) fun _ _ _ => rfl
theorem b_mod : BinK (rI (fun _ j => j ≠ 0) fun i j => .int (i.fmod j)) (gI (fun _ j => decide (j ≠ 0)) fun i j => .int (i.fmod j)) := bin_I (fun _ _ h => of_decide_eq_true h) fun _ _ _ => rfl
theorem b_lt : BinK (rI0 fun i j => .bl (decide (i < j))) (gI0 fun i j => .bool (decide (i < j))) := bin_I0 fun _ _ _ => rfl
theorem b_le : BinK (rI0 fun i j => .bl (decide (i ≤ j))) (gI0 fun i j => .bool (decide (i ≤ j))) := bin_I0 fun _ _ _ => rfl
theorem b_gt : BinK (rI0 fun i j => .bl (decide (j < i))) (gI0 fun i j => .bool (decide (j < i))) := bin_I0 fun _ _ _ => rfl
theorem b_ge : BinK (rI0 fun i j => .bl (decide (j ≤ i))) (gI0 fun i j => .bool (decide (j ≤ i))) := bin_I0 fun _ _ _ => rfl
/-! ### ==, != of data -/
def gEq (neg : Bool) : En → P → P → Option P := fun env p q => match vw env p, vw env q with
  | some d, some e => if SeqAt.shaped d && SeqAt.shaped e then some (.val (.bool (neg ^^ PyData.eqv d e))) else none
  | _, _ => none
theorem b_eq {K : PySem.W.Frag} : BinK (rEqD K) (gEq false) := by
  intro F H σ env Sl x y p1 p2 p R h1 h2 e Q q
  unfold gEq at e
  split at e
  · rename_i d d' e1 e2
    split at e
    · rename_i hs
      cases e
      rw [Bool.and_eq_true] at hs
      exact ⟨d, d', vw_dp R h1 e1 (SeqAt.canLay_of_shaped hs.1), vw_dp R h2 e2 (SeqAt.canLay_of_shaped hs.2), hs.1, hs.2, q _ F H (Ex.refl F) (Ex.refl H) R.ex (fun _ _ z => .inl z) (by show V.bl _ = V.bl _; rw [Bool.false_xor])⟩
    · cases e
  · cases e
theorem b_ne {K : PySem.W.Frag} : BinK (rNeD K) (gEq true) := by
  intro F H σ env Sl x y p1 p2 p R h1 h2 e Q q
  unfold gEq at e
  split at e
  · rename_i d d' e1 e2
    split at e
    · rename_i hs
      cases e
      rw [Bool.and_eq_true] at hs
      exact ⟨d, d', vw_dp R h1 e1 (SeqAt.canLay_of_shaped hs.1), vw_dp R h2 e2 (SeqAt.canLay_of_shaped hs.2), hs.1, hs.2, q _ F H (Ex.refl F) (Ex.refl H) R.ex (fun _ _ z => .inl z) (by show V.bl _ = V.bl _; rw [Bool.true_xor])⟩
    · cases e
  · cases e
/-! ### x is None -/
/-! ### an item, a cut -/
/-- a list's or a tuple's fixed items -/
def sqT (env : En) : P → Option (List PyData)
  | .val (.tuple ds) => some ds
  | p => sq env p
theorem ixN_len {α β : Type} {as : List α} {bs : List β} (h : as.length = bs.length) (i : Int) : ixN as.length i = ixN bs.length i := by rw [h]
theorem atI_all {α β : Type} {R : α → β → Prop} {as : List α} {bs : List β} {i : Int} {a : α} (h : All2 R as bs) (e : atI as i = some a) : ∃ b, atI bs i = some b ∧ R a b := by
  unfold atI at e ⊢
  rw [← ixN_len h.len]
  cases q : ixN as.length i with
  | none => rw [q] at e; cases e
  | some j =>
    rw [q] at e
    exact h.get e
def gIx : En → P → P → Option P := fun env p q => match p, q with
  | .val (.str z), .val (.int i) => if z.length ≤ sizeLine then (atI z.cps.toList i).map fun c => .val (.str ⟨#[c]⟩) else none
  | p, .val (.int i) => (sqT env p).bind fun ds => (atI ds i).map .val
  | _, _ => none
theorem b_ix {K : PySem.W.Frag} : BinK (rIx K) gIx := by
  intro F H σ env Sl x y p1 p2 p R h1 h2 e Q q
  unfold gIx at e
  split at e
  · rename_i z i
    split at e
    · rename_i hz
      cases h3 : atI z.cps.toList i with
      | none => rw [h3] at e; cases e
      | some c =>
        rw [h3] at e
        cases e
        exact .inr (.inr ⟨z, i, c, pstr h1, pint h2, hz, h3, q _ F H (Ex.refl F) (Ex.refl H) R.ex (fun _ _ z => .inl z) rfl⟩)
    · cases e
  · rename_i i _
    cases h3 : sqT env p1 with
    | none => rw [h3] at e; cases e
    | some ds =>
      rw [h3] at e
      cases h4 : atI ds i with
      | none => simp only [Option.bind_some, h4] at e; cases e
      | some d =>
        simp only [Option.bind_some, h4, Option.map_some] at e
        cases e
        unfold sqT at h3
        split at h3
        · cases h3
          obtain ⟨a, vs, rfl, hH, r⟩ := rp_tuple.mp (pr_val h1)
          obtain ⟨v, hv, rv⟩ := atI_all r h4
          exact .inr (.inl ⟨a, vs, i, v, rfl, pint h2, SqT.of (R.ex _ _ hH), hv, q _ F H (Ex.refl F) (Ex.refl H) R.ex (fun _ _ z => .inl z) rv⟩)
        · obtain ⟨a, vs, rfl, hH, r⟩ := sq_of R h1 h3
          obtain ⟨v, hv, rv⟩ := atI_all r h4
          exact .inl ⟨a, vs, i, v, rfl, pint h2, SqL.of hH, hv, q _ F H (Ex.refl F) (Ex.refl H) R.ex (fun _ _ z => .inl z) rv⟩
  · cases e
/-- what comes new is fixed at once, or held -/
theorem new_lst {F H : Hp} {p : Addr} {vs : List V} {ds : List PyData} (ex : Ex F H) (hp : H p = none) (r : All2 (Rp F) ds vs) :
    Ex F (upd F p (.lst vs)) ∧ Ex H (upd H p (.lst vs)) ∧ Ex (upd F p (.lst vs)) (upd H p (.lst vs)) ∧ (∀ b o, upd F p (.lst vs) b = some o → F b = some o ∨ H b = none) ∧ Rp (upd F p (.lst vs)) (.list ds) (.ref p) := by
  have fp := ex.none hp
  refine ⟨Ex.new fp, Ex.new hp, fun b o h => ?_, fun b o h => ?_, rp_list.mpr ⟨p, vs, rfl, upd_same, all_mono (Ex.new fp) r⟩⟩
  · by_cases e : b = p
    · subst e; rw [upd_same] at h ⊢; exact h
    · rw [upd_ne e] at h ⊢; exact ex _ _ h
  · by_cases e : b = p
    · subst e; exact .inr hp
    · rw [upd_ne e] at h; exact .inl h
theorem new_tup {F H : Hp} {p : Addr} {vs : List V} {ds : List PyData} (ex : Ex F H) (hp : H p = none) (r : All2 (Rp F) ds vs) :
    Ex F (upd F p (.tup vs)) ∧ Ex H (upd H p (.tup vs)) ∧ Ex (upd F p (.tup vs)) (upd H p (.tup vs)) ∧ (∀ b o, upd F p (.tup vs) b = some o → F b = some o ∨ H b = none) ∧ Rp (upd F p (.tup vs)) (.tuple ds) (.ref p) := by
  have fp := ex.none hp
  refine ⟨Ex.new fp, Ex.new hp, fun b o h => ?_, fun b o h => ?_, rp_tuple.mpr ⟨p, vs, rfl, upd_same, all_mono (Ex.new fp) r⟩⟩
  · by_cases e : b = p
    · subst e; rw [upd_same] at h ⊢; exact h
    · rw [upd_ne e] at h ⊢; exact ex _ _ h
  · by_cases e : b = p
    · subst e; exact .inr hp
    · rw [upd_ne e] at h; exact .inl h
/-! a reading that ends in one new list -/
def RL (pu : Bool) (t : L2.St → Hp → (V → Hp → Prop) → Prop) (m : En → Option (List PyData × En)) : Prop :=
  ∀ F H σ env Sl, REnv F H σ env Sl → ∀ ds env', m env = some (ds, env') → ∀ Q : VK, (∀ p vs F' H' Sl', Step F H Sl F' H' Sl' → (pu = true → env' = env ∧ Ex H H' ∧ Sl' = Sl) → REnv F' H' σ env' Sl' → All2 (Rp F') ds vs → H' p = none → Q (.ref p) (upd H' p (.lst vs))) → t σ H Q
end Tr
namespace Tr
open PySem PySem.Spec PyProof.Rows L2
variable [TC]
abbrev ML := En → Option (List PyData × En)
abbrev MO := En → Option (O × En)
/-- what a new thing is: of its own, apart from all that the names hold -/
structure New (F H0 H : Hp) (Sl : Nat → Addr → Prop) (o : O) (v : V) (T : Addr → Prop) : Prop where
  own : Own F H o v T
  dj : ∀ i a, T a → ¬ Sl i a
  tr : ∀ a, T a → F a = none ∧ ∃ u, H a = some u
  nw : ∀ a, T a → H0 a = none
def RO (t : TE) (m : MO) : Prop := ∀ F H σ env Sl, REnv F H σ env Sl → ∀ o env', m env = some (o, env') →
  ∀ Q : VK, (∀ v F' H' Sl' T, Step F H Sl F' H' Sl' → REnv F' H' σ env' Sl' → New F' H H' Sl' o v T → Q v H') → t σ H Q
def mLE (m : ML) : ME := bnd m fun ds e => some (.val (.list ds), e)
def mLO (m : ML) : MO := bnd m fun ds e => some (.ow ds, e)
theorem Step.tkb {F H F' H' : Hp} {Sl Sl' : Nat → Addr → Prop} (s : Step F H Sl F' H' Sl') {p : Addr} (h : H' p = none) : H p = none := by
  cases q : H p with
  | none => rfl
  | some o => obtain ⟨o', e⟩ := s.tk p o q; rw [e] at h; cases h
theorem re_l {pu : Bool} {t : TE} {m : ML} (h : RL pu t m) : RE pu t (mLE m) := by
  intro F H σ env Sl R p env' e Q q
  obtain ⟨ds, e1, h1, h2⟩ := bnd_of e
  cases h2
  refine h F H σ env Sl R ds _ h1 Q fun p vs F1 H1 Sl1 s1 pu1 R1 r np => ?_
  obtain ⟨x, y, z, n, rr⟩ := new_lst R1.ex np r
  refine q _ _ _ Sl1 (s1.trans (Step.grow x y n)) (fun hp => ?_) (R1.grow x y z n) rr
  obtain ⟨a, b, c⟩ := pu1 hp
  exact ⟨a, b.trans y, c⟩
theorem ro_l {pu : Bool} {t : TE} {m : ML} (h : RL pu t m) : RO t (mLO m) := by
  intro F H σ env Sl R o env' e Q q
  obtain ⟨ds, e1, h1, h2⟩ := bnd_of e
  cases h2
  refine h F H σ env Sl R ds _ h1 Q fun p vs F1 H1 Sl1 s1 pu1 R1 r np => ?_
  have ex : Ex H1 (upd H1 p (.lst vs)) := Ex.new np
  have n : ∀ b o, F1 b = some o → F1 b = some o ∨ H1 b = none := fun _ _ z => .inl z
  refine q _ F1 _ Sl1 (fun a => a = p) (s1.trans (Step.grow (Ex.refl F1) ex n)) (R1.grow (Ex.refl F1) ex (R1.ex.trans ex) n) ⟨⟨p, vs, rfl, rfl, upd_same, r⟩, fun i a e s => ?_, fun a e => ?_, fun a e => ?_⟩
  · subst e
    obtain ⟨_, o, z⟩ := R1.tr i a s
    rw [np] at z
    cases z
  · subst e
    exact ⟨R1.ex.none np, _, upd_same⟩
  · subst e
    exact s1.tkb np
/-- a plain function of two operands that makes a list -/
def mBinL (g : En → P → P → Option (List PyData)) (ma mb : ME) : ML := bnd ma fun p e => bnd mb (fun q e2 => (g e2 p q).map fun r => (r, e2)) e
def BinL (k : V → V → Hp → VK → Prop) (g : En → P → P → Option (List PyData)) : Prop := ∀ F H σ env Sl x y p1 p2 ds, REnv F H σ env Sl → RP F σ x p1 → RP F σ y p2 → g env p1 p2 = some ds → ∀ Q : VK,
  (∀ p vs, All2 (Rp F) ds vs → H p = none → Q (.ref p) (upd H p (.lst vs))) → k x y H Q
theorem rl_bin {pu pv : Bool} {ta tb : TE} {ma mb : ME} {k : V → V → Hp → VK → Prop} {g : En → P → P → Option (List PyData)} (ha : RE pu ta ma) (hb : RE pv tb mb) (hk : BinL k g) : RL (pu && pv) (tOp k ta tb) (mBinL g ma mb) := by
  intro F H σ env Sl R ds env' e Q q
  obtain ⟨a, e1, h1, h2⟩ := bnd_of e
  obtain ⟨b, e2, h3, h4⟩ := bnd_of h2
  cases h5 : g e2 a b with
  | none => rw [h5] at h4; cases h4
  | some ds' =>
    rw [h5] at h4
    cases h4
    refine ha F H σ env Sl R a _ h1 _ fun r F1 H1 Sl1 s1 pu1 R1 r1 => ?_
    refine hb F1 H1 σ e1 Sl1 R1 b _ h3 _ fun r' F2 H2 Sl2 s2 pu2 R2 r2 => ?_
    exact hk F2 H2 σ _ Sl2 r r' a b ds R2 (r1.mono s2.exF) r2 h5 Q fun p vs rr np => q p vs F2 H2 Sl2 (s1.trans s2) (pu_step (F := F) (F1 := F1) (F2 := F2) pu1 pu2) R2 rr np
def gCat : En → P → P → Option (List PyData) := fun env p q => match sq env p, sq env q with
  | some a, some b => if a.length + b.length ≤ sizeLine then some (a ++ b) else none
  | _, _ => none
theorem b_cat : BinL rCat gCat := by
  intro F H σ env Sl x y p1 p2 ds R h1 h2 e Q q
  unfold gCat at e
  split at e
  · rename_i a b ea eb
    split at e
    · rename_i hz
      cases e
      obtain ⟨l, vs, rfl, hl, r1⟩ := sq_of R h1 ea
      obtain ⟨l2, vs2, rfl, hl2, r2⟩ := sq_of R h2 eb
      exact ⟨l, l2, vs, vs2, rfl, rfl, hl, hl2, by rw [← r1.len, ← r2.len]; exact hz, fun p np => q p _ (r1.app r2) np⟩
    · cases e
  · cases e
def gRep : En → P → P → Option (List PyData) := fun env p q => match sq env p, q with
  | some a, .val (.int k) => if -(2 ^ 63) ≤ k ∧ k < 2 ^ 63 ∧ a.length * k.toNat ≤ sizeLine then some (List.replicate k.toNat a).flatten else none
  | _, _ => none
theorem b_rep : BinL rRep gRep := by
  intro F H σ env Sl x y p1 p2 ds R h1 h2 e Q q
  unfold gRep at e
  split at e
  · rename_i a k ea
    split at e
    · rename_i hz
      cases e
      obtain ⟨l, vs, rfl, hl, r1⟩ := sq_of R h1 ea
      exact ⟨l, k, vs, rfl, pint h2, hl, hz.1, hz.2.1, by rw [← r1.len]; exact hz.2.2, fun p np => q p _ (r1.rep _) np⟩
    · cases e
  · cases e
/-! ### a cut -/
abbrev MP := En → Option (Option Int × En)
def relO : Hp → L2.St → Option Int → Option Int → Prop := fun _ _ a b => a = b
abbrev RQ (pu : Bool) (t : TO) (m : MP) : Prop := RG pu relO t m
def mNoPart : MP := fun env => some (none, env)
theorem rq_none : RQ true tNoPart mNoPart := by
  intro F H σ env Sl R p env' e Q q
  cases e
  exact q _ F H Sl Step.refl (fun _ => ⟨rfl, Ex.refl H, rfl⟩) R rfl
def gPart : P → Option (Option Int)
  | .val (.int i) => some (some i)
  | _ => none
def mPart (ma : ME) : MP := bnd ma fun p e => (gPart p).map fun r => (r, e)
theorem rq_some {pu : Bool} {te : TE} {me : ME} (h : RE pu te me) : RQ pu (tPart te) (mPart me) :=
  rg_fin (rel := relP) (rel' := relO) (k := fun x H Q => ∃ i, x = .int i ∧ Q (some i) H) (g := fun _ p => gPart p) h fun F H σ env Sl r a b R rr e Q q => by
    unfold gPart at e
    split at e
    · cases e
      exact ⟨_, pint rr, q _ F H (Ex.refl F) (Ex.refl H) R.ex (fun _ _ z => .inl z) rfl⟩
    · cases e
def cutD (ds : List PyData) (lo hi : Option Int) : List PyData := (ds.drop (HT.sIx ds.length 0 lo)).take (HT.sIx ds.length ds.length hi - HT.sIx ds.length 0 lo)
def mSl (ma : ME) (ml mh : MP) : ML := bnd ma fun p e => bnd ml (fun lo e2 => bnd mh (fun hi e3 => (sq e3 p).map fun ds => (cutD ds lo hi, e3)) e2) e
theorem rl_sl {K : PySem.W.Frag} {pu pv pw : Bool} {te : TE} {tl th : TO} {me : ME} {ml mh : MP} (he : RE pu te me) (hl : RQ pv tl ml) (hh : RQ pw th mh) : RL (pu && pv && pw) (tSl (rSlL K) te tl th) (mSl me ml mh) := by
  intro F H σ env Sl R ds env' e Q q
  obtain ⟨p, e1, h1, h2⟩ := bnd_of e
  obtain ⟨lo, e2, h3, h4⟩ := bnd_of h2
  obtain ⟨hi, e3, h5, h6⟩ := bnd_of h4
  cases h7 : sq e3 p with
  | none => rw [h7] at h6; cases h6
  | some ds' =>
    rw [h7] at h6
    cases h6
    refine he F H σ env Sl R p _ h1 _ fun r F1 H1 Sl1 s1 pu1 R1 r1 => ?_
    refine hl F1 H1 σ e1 Sl1 R1 lo _ h3 _ fun r' F2 H2 Sl2 s2 pu2 R2 r2 => ?_
    cases r2
    refine hh F2 H2 σ e2 Sl2 R2 hi _ h5 _ fun r'' F3 H3 Sl3 s3 pu3 R3 r3 => ?_
    cases r3
    obtain ⟨a, vs, rfl, hH, rr⟩ := sq_of R3 (r1.mono (s2.exF.trans s3.exF)) h7
    refine ⟨a, vs, rfl, SqL.of hH, fun b nb => ?_⟩
    refine q b _ F3 H3 Sl3 (s1.trans (s2.trans s3)) (pu_step (F := F) (F1 := F2) (F2 := F3) (pu_step (F := F) (F1 := F1) (F2 := F2) pu1 pu2) pu3) R3 ?_ nb
    unfold cutD cutV
    rw [rr.len]
    exact (rr.drop _).take _
/-! ### displays -/
def fzPs (env : En) : List P → Option (List PyData × En)
  | [] => some ([], env)
  | p :: ps => match fzP env p with
    | some (d, e1) => match fzPs e1 ps with
      | some (ds, e2) => some (d :: ds, e2)
      | none => none
    | none => none
theorem fzPs_ok {H : Hp} {σ : L2.St} : ∀ {ps : List P} {F : Hp} {env env' : En} {Sl : Nat → Addr → Prop} {vs : List V} {ds : List PyData}, REnv F H σ env Sl → relA F σ vs ps → fzPs env ps = some (ds, env') →
    ∃ F' Sl', Step F H Sl F' H Sl' ∧ REnv F' H σ env' Sl' ∧ All2 (Rp F') ds vs
  | [], F, env, env', Sl, vs, ds, R, h, e => by
    cases e
    cases h
    exact ⟨F, Sl, Step.refl, R, .nil⟩
  | p :: ps, F, env, env', Sl, vs, ds, R, h, e => by
    unfold fzPs at e
    split at e
    · rename_i d e1 h1
      split at e
      · rename_i ds' e2 h2
        cases e
        cases h with
        | cons a b =>
          obtain ⟨F1, Sl1, s1, R1, r1⟩ := fz_ok R a h1
          obtain ⟨F2, Sl2, s2, R2, r2⟩ := fzPs_ok R1 (b.mono fun _ _ => RP.mono s1.exF) h2
          exact ⟨F2, Sl2, s1.trans s2, R2, .cons (Rp.mono s2.exF r1) r2⟩
      · cases e
    · cases e
/-- how many there are -/
def LenA (n : Nat) (m : MA) : Prop := ∀ env ps e, m env = some (ps, e) → ps.length = n
theorem len_nil : LenA 0 mNil := fun _ _ _ h => by cases h; rfl
theorem len_cons {n : Nat} {ma : ME} {mr : MA} (h : LenA n mr) : LenA (n + 1) (mCons ma mr) := fun env ps e hp => by
  obtain ⟨a, e1, h1, h2⟩ := bnd_of hp
  obtain ⟨b, e2, h3, h4⟩ := bnd_of h2
  cases h4
  rw [List.length_cons, h _ _ _ h3]
def mDs (ma : MA) : ML := bnd ma fun ps e => fzPs e ps
theorem rl_lst {pu : Bool} {n : Nat} {ta : TA} {ma : MA} (h : RA pu ta ma) (hl : LenA n ma) (hn : n ≤ sizeLine := by decide) : RL false (tLst ta) (mDs ma) := by
  intro F H σ env Sl R ds env' e Q q
  obtain ⟨ps, e1, h1, h2⟩ := bnd_of e
  refine h F H σ env Sl R ps _ h1 _ fun r F1 H1 Sl1 s1 pu1 R1 r1 => ?_
  obtain ⟨F2, Sl2, s2, R2, r2⟩ := fzPs_ok R1 r1 h2
  exact ⟨by rw [← r1.len, hl _ _ _ h1]; exact hn, fun p np => q p r F2 H1 Sl2 (s1.trans s2) (fun z => nomatch z) R2 r2 np⟩
def mTup (ma : MA) : ME := bnd ma fun ps e => (fzPs e ps).map fun r => (.val (.tuple r.1), r.2)
theorem re_tup {pu : Bool} {n : Nat} {ta : TA} {ma : MA} (h : RA pu ta ma) (hl : LenA n ma) (hn : n ≤ sizeLine := by decide) : RE false (tTup ta) (mTup ma) := by
  intro F H σ env Sl R p env' e Q q
  obtain ⟨ps, e1, h1, h2⟩ := bnd_of e
  cases h3 : fzPs e1 ps with
  | none => rw [h3] at h2; cases h2
  | some r =>
    obtain ⟨ds, e2⟩ := r
    rw [h3] at h2
    cases h2
    refine h F H σ env Sl R ps _ h1 _ fun r F1 H1 Sl1 s1 pu1 R1 r1 => ?_
    obtain ⟨F2, Sl2, s2, R2, r2⟩ := fzPs_ok R1 r1 h3
    refine ⟨by rw [← r1.len, hl _ _ _ h1]; exact hn, fun a na => ?_⟩
    obtain ⟨x, y, z, w, rr⟩ := new_tup R2.ex na r2
    exact q _ _ _ Sl2 (s1.trans (s2.trans (Step.grow x y w))) (fun z => nomatch z) (R2.grow x y z w) rr
/-! ### truth -/
section
variable {pu pv pw : Bool} {ta tb te : TE} {ma mb me : ME} {t u : TT} {m n : MT}
def gB : P → Option Bool
  | .val (.bool b) => some b
  | _ => none
def mT (ma : ME) : MT := bnd ma fun p e => (gB p).map fun r => (r, e)
theorem gB_ok {F : Hp} {σ : L2.St} {v : V} {p : P} {b : Bool} (h : RP F σ v p) (e : gB p = some b) : v = .bl b := by
  unfold gB at e
  split at e
  · cases e; exact pbool h
  · cases e
theorem rt_B (h : RE pu te me) : RT pu (L2.tB te) (mT me) :=
  rg_fin (rel := relP) (rel' := relB) (k := fun x H Q => ∃ c, x = .bl c ∧ Q c H) (g := fun _ p => gB p) h fun F H σ env Sl r a b R rr e Q q => ⟨b, gB_ok rr e, q _ F H (Ex.refl F) (Ex.refl H) R.ex (fun _ _ z => .inl z) rfl⟩
theorem rt_test (h : RE pu te me) : RT pu (tTest te) (mT me) :=
  rg_fin (rel := relP) (rel' := relB) (k := fun x H Q => ∃ c, x = .bl c ∧ Q c H) (g := fun _ p => gB p) h fun F H σ env Sl r a b R rr e Q q => ⟨b, gB_ok rr e, q _ F H (Ex.refl F) (Ex.refl H) R.ex (fun _ _ z => .inl z) rfl⟩
def mOr (m n : MT) : MT := bnd m fun b e => match b with | true => some (true, e) | false => n e
def mNot (m : MT) : MT := bnd m fun b e => some (!b, e)
theorem rt_or (h : RT pu t m) (h' : RT pv u n) : RT (pu && pv) (tOr t u) (mOr m n) := by
  intro F H σ env Sl R b env' e Q q
  obtain ⟨b1, e1, h1, h2⟩ := bnd_of e
  refine h F H σ env Sl R b1 _ h1 _ fun r F1 H1 Sl1 s1 pu1 R1 r1 => ?_
  cases r1
  cases b1 with
  | false =>
    rw [if_neg Bool.false_ne_true]
    exact h' F1 H1 σ e1 Sl1 R1 b _ h2 _ fun r' F2 H2 Sl2 s2 pu2 R2 r2 => q r' F2 H2 Sl2 (s1.trans s2) (pu_step (F := F) (F1 := F1) (F2 := F2) pu1 pu2) R2 r2
  | true =>
    cases h2
    rw [if_pos rfl]
    exact q _ F1 H1 Sl1 s1 (fun hp => pu1 (Bool.and_eq_true _ _ ▸ hp).1) R1 rfl
theorem rt_not (h : RT pu t m) : RT pu (tNot t) (mNot m) := by
  intro F H σ env Sl R b env' e Q q
  obtain ⟨b1, e1, h1, h2⟩ := bnd_of e
  cases h2
  refine h F H σ env Sl R b1 _ h1 _ fun r F1 H1 Sl1 s1 pu1 R1 r1 => ?_
  cases r1
  exact q _ F1 H1 Sl1 s1 pu1 R1 rfl
def mYes : MT := fun env => some (true, env)
theorem rt_yes : RT true tYes mYes := by
  intro F H σ env Sl R b env' e Q q
  cases e
  exact q _ F H Sl Step.refl (fun _ => ⟨rfl, Ex.refl H, rfl⟩) R rfl
/-! .. as values -/
def mAndV (ma mb : ME) : ME := bnd (mT ma) fun b e => match b with | true => mb e | false => some (.val (.bool false), e)
def mNotV (ma : ME) : ME := bnd (mT ma) fun b e => some (.val (.bool (!b)), e)
theorem re_andV (h : RE pu ta ma) (h' : RE pv tb mb) : RE (pu && pv) (tAndV ta tb) (mAndV ma mb) := by
  intro F H σ env Sl R b env' e Q q
  obtain ⟨b1, e1, h1, h2⟩ := bnd_of e
  refine rt_B h F H σ env Sl R b1 _ h1 (fun c H1 => if c = true then tb σ H1 Q else Q (.bl false) H1) fun r F1 H1 Sl1 s1 pu1 R1 r1 => ?_
  cases r1
  cases b1 with
  | true =>
    rw [if_pos rfl]
    exact h' F1 H1 σ e1 Sl1 R1 b _ h2 _ fun r' F2 H2 Sl2 s2 pu2 R2 r2 => q r' F2 H2 Sl2 (s1.trans s2) (pu_step (F := F) (F1 := F1) (F2 := F2) pu1 pu2) R2 r2
  | false =>
    cases h2
    rw [if_neg Bool.false_ne_true]
    exact q _ F1 H1 Sl1 s1 (fun hp => pu1 (Bool.and_eq_true _ _ ▸ hp).1) R1 rfl
theorem re_notV (h : RE pu ta ma) : RE pu (tNotV ta) (mNotV ma) := by
  intro F H σ env Sl R b env' e Q q
  obtain ⟨b1, e1, h1, h2⟩ := bnd_of e
  cases h2
  refine rt_B h F H σ env Sl R b1 _ h1 (fun c H1 => Q (.bl (!c)) H1) fun r F1 H1 Sl1 s1 pu1 R1 r1 => ?_
  cases r1
  exact q _ F1 H1 Sl1 s1 pu1 R1 rfl
/-- a if t else b -/
def mIf {α : Type} (m : MT) (ma mb : En → Option (α × En)) : En → Option (α × En) := bnd m fun b e => match b with | true => ma e | false => mb e
theorem re_if (h : RT pw t m) (h1 : RE pu ta ma) (h2 : RE pv tb mb) : RE false (tIf t ta tb) (mIf m ma mb) := by
  intro F H σ env Sl R p env' e Q q
  obtain ⟨b1, e1, x1, x2⟩ := bnd_of e
  refine h F H σ env Sl R b1 _ x1 _ fun r F1 H1 Sl1 s1 pu1 R1 r1 => ?_
  cases r1
  cases b1 with
  | true =>
    rw [if_pos rfl]
    exact h1 F1 H1 σ e1 Sl1 R1 p _ x2 _ fun r' F2 H2 Sl2 s2 pu2 R2 r2 => q r' F2 H2 Sl2 (s1.trans s2) (fun z => nomatch z) R2 r2
  | false =>
    rw [if_neg Bool.false_ne_true]
    exact h2 F1 H1 σ e1 Sl1 R1 p _ x2 _ fun r' F2 H2 Sl2 s2 pu2 R2 r2 => q r' F2 H2 Sl2 (s1.trans s2) (fun z => nomatch z) R2 r2
theorem New.mono0 {F H0 H1 H : Hp} {Sl : Nat → Addr → Prop} {o : O} {v : V} {T : Addr → Prop} (n : New F H1 H Sl o v T) (k : ∀ a, H1 a = none → H0 a = none) : New F H0 H Sl o v T := ⟨n.own, n.dj, n.tr, fun a h => k a (n.nw a h)⟩
end
end Tr
namespace Tr
open PySem PySem.Spec PyProof.Rows L2
variable [TC]

/-! ### what is walked -/
/-- J gives the data ds, one after the other, while what F has stands -/
def ItOk (J : It) (F : Hp) (ds : List PyData) : Prop := ∀ F1 H1, Ex F F1 → Ex F1 H1 → ∀ i : Nat,
  (∀ d, ds[i]? = some d → J.go i H1 ∧ ∀ x H', J.yld i H1 x H' → ∃ F', Ex F1 F' ∧ Ex H1 H' ∧ Ex F' H' ∧ (∀ b o, F' b = some o → F1 b = some o ∨ H1 b = none) ∧ Rp F' d x) ∧ (ds[i]? = none → J.stop i H1)
def RI (wi : TI) (m : ML) : Prop := ∀ F H σ env Sl, REnv F H σ env Sl → ∀ ds env', m env = some (ds, env') → ∀ Q : It → Hp → Prop,
  (∀ J F' H' Sl', Step F H Sl F' H' Sl' → REnv F' H' σ env' Sl' → ItOk J F' ds → Q J H') → wi σ H Q
def mItL (me : ME) : ML := bnd me fun p e => match fzP e p with
  | some (.list ds, e2) => some (ds, e2)
  | _ => none
theorem it_l {K : PySem.W.Frag} {F : Hp} {a : Addr} {vs : List V} {ds : List PyData} (h : F a = some (.lst vs)) (r : All2 (Rp F) ds vs) : ItOk (Itl K a) F ds := by
  intro F1 H1 e1 e2 i
  have hs : SqL K H1 a vs := SqL.of (e2 _ _ (e1 _ _ h))
  refine ⟨fun d hd => ?_, fun hd => ⟨vs, hs, ?_⟩⟩
  · obtain ⟨v, hv, rv⟩ := r.get hd
    refine ⟨⟨vs, v, hs, hv⟩, fun x H' y => ?_⟩
    obtain ⟨rfl, f⟩ := y
    have ex : x = v := Option.some.inj ((f vs hs).symm.trans hv)
    subst ex
    exact ⟨F1, Ex.refl _, Ex.refl _, e2, fun _ _ z => .inl z, Rp.mono e1 rv⟩
  · rw [← r.len]
    exact List.getElem?_eq_none_iff.mp hd
theorem ri_list {K : PySem.W.Frag} {pu : Bool} {te : TE} {me : ME} (h : RE pu te me) : RI (iList K te) (mItL me) := by
  intro F H σ env Sl R ds env' e Q q
  obtain ⟨p, e1, h1, h2⟩ := bnd_of e
  split at h2
  · rename_i ds' e2 h3
    cases h2
    refine h F H σ env Sl R p _ h1 _ fun r F1 H1 Sl1 s1 pu1 R1 r1 => ?_
    obtain ⟨F2, Sl2, s2, R2, r2⟩ := fz_ok R1 r1 h3
    obtain ⟨a, vs, rfl, hF, rr⟩ := rp_list.mp r2
    exact ⟨a, rfl, ⟨vs, SqL.of (R2.ex _ _ hF)⟩, q _ F2 H1 Sl2 (s1.trans s2) R2 (it_l hF rr)⟩
  · cases h2
/-- lo, lo + 1, .. -/
def rgD (lo : Int) (n : Nat) : List PyData := (List.range n).map fun k => .int (lo + (k : Nat))
theorem rgD_get {lo : Int} {n i : Nat} : (rgD lo n)[i]? = if i < n then some (.int (lo + (i : Nat))) else none := by
  unfold rgD
  rw [List.getElem?_map]
  by_cases h : i < n
  · rw [if_pos h, List.getElem?_range h]; rfl
  · rw [if_neg h, List.getElem?_eq_none (by rw [List.length_range]; omega)]; rfl
theorem it_r {F : Hp} {lo : Int} {n : Nat} : ItOk (Itr lo n) F (rgD lo n) := by
  intro F1 H1 e1 e2 i
  rw [rgD_get]
  refine ⟨fun d hd => ?_, fun hd => ?_⟩
  · split at hd
    · rename_i hi
      cases hd
      refine ⟨hi, fun x H' y => ?_⟩
      obtain ⟨rfl, rfl⟩ := y
      exact ⟨F1, Ex.refl _, Ex.refl _, e2, fun _ _ z => .inl z, rfl⟩
    · cases hd
  · split at hd
    · cases hd
    · rename_i hi
      exact Nat.le_of_not_lt hi
def mRng1 (ma : MA) : ML := bnd ma fun ps e => match ps with
  | [.val (.int j)] => if -(2 ^ 62) ≤ j ∧ j < 2 ^ 62 then some (rgD 0 j.toNat, e) else none
  | _ => none
theorem ri_rng1 {pu : Bool} {ta : TA} {ma : MA} (h : RA pu ta ma) : RI (iRng1 ta) (mRng1 ma) := by
  intro F H σ env Sl R ds env' e Q q
  obtain ⟨ps, e1, h1, h2⟩ := bnd_of e
  split at h2
  · split at h2
    · rename_i j hj
      cases h2
      refine h F H σ env Sl R _ _ h1 _ fun r F1 H1 Sl1 s1 pu1 R1 r1 => ?_
      cases r1 with
      | cons x t =>
        cases t
        exact ⟨j, by rw [pint x], hj.1, hj.2, q _ F1 H1 Sl1 s1 R1 it_r⟩
    · cases h2
  · cases h2
/-- i, item -/
def enD (ds : List PyData) : List PyData := (List.range ds.length).map fun k => .tuple [.int (k : Nat), ds.getD k .none]
theorem enD_get {ds : List PyData} {i : Nat} : (enD ds)[i]? = (ds[i]?).map fun d => .tuple [.int (i : Nat), d] := by
  unfold enD
  rw [List.getElem?_map]
  by_cases h : i < ds.length
  · rw [List.getElem?_range h, List.getElem?_eq_getElem h]
    simp [List.getD_eq_getElem?_getD, h]
  · rw [List.getElem?_eq_none (by rw [List.length_range]; omega), List.getElem?_eq_none (by omega)]; rfl
def mEnum (ma : MA) : ML := bnd ma fun ps e => match ps with
  | [p] => match fzP e p with
    | some (.list ds, e2) => some (enD ds, e2)
    | _ => none
  | _ => none
theorem it_e {K : PySem.W.Frag} {F : Hp} {a : Addr} {vs : List V} {ds : List PyData} (h : F a = some (.lst vs)) (r : All2 (Rp F) ds vs) : ItOk (Ite K a) F (enD ds) := by
  intro F1 H1 e1 e2 i
  have hs : SqL K H1 a vs := SqL.of (e2 _ _ (e1 _ _ h))
  rw [enD_get]
  refine ⟨fun d hd => ?_, fun hd => ⟨vs, hs, ?_⟩⟩
  · cases hd' : ds[i]? with
    | none => rw [hd'] at hd; cases hd
    | some d' =>
      rw [hd'] at hd
      cases hd
      obtain ⟨v, hv, rv⟩ := r.get hd'
      refine ⟨⟨vs, v, hs, hv⟩, fun x H' y => ?_⟩
      obtain ⟨T, x', rfl, nT, rfl, f⟩ := y
      have ex : x' = v := Option.some.inj ((f vs hs).symm.trans hv)
      subst ex
      obtain ⟨y1, y2, y3, y4, y5⟩ := new_tup (ds := [.int (i : Nat), d']) (vs := [.int (i : Nat), x']) e2 nT (.cons rfl (.cons (Rp.mono e1 rv) .nil))
      exact ⟨_, y1, y2, y3, y4, y5⟩
  · cases hd' : ds[i]? with
    | none =>
      rw [← r.len]
      exact List.getElem?_eq_none_iff.mp hd'
    | some d' => rw [hd'] at hd; cases hd
theorem ri_enum {K : PySem.W.Frag} {pu : Bool} {ta : TA} {ma : MA} (h : RA pu ta ma) : RI (iEnum K ta) (mEnum ma) := by
  intro F H σ env Sl R ds env' e Q q
  obtain ⟨ps, e1, h1, h2⟩ := bnd_of e
  split at h2
  · split at h2
    · rename_i ds' e2 h3
      cases h2
      refine h F H σ env Sl R _ _ h1 _ fun r F1 H1 Sl1 s1 pu1 R1 r1 => ?_
      cases r1 with
      | cons x t =>
        cases t
        obtain ⟨F2, Sl2, s2, R2, r2⟩ := fz_ok R1 x h3
        obtain ⟨a, vs, rfl, hF, rr⟩ := rp_list.mp r2
        exact ⟨a, vs, rfl, SqL.of (R2.ex _ _ hF), q _ F2 H1 Sl2 (s1.trans s2) R2 (it_e hF rr)⟩
    · cases h2
  · cases h2

/-! ### where it goes -/
/-- is: the places that are stored to -/
def RT' (is : List Nat) (g : TG) (mg : PyData → En → Option En) : Prop := ∀ F H σ env Sl x d, REnv F H σ env Sl → Rp F d x → ∀ env', mg d env = some env' → ∀ Q : L2.St → Hp → Prop,
  (∀ σ' Sl', REnv F H σ' env' Sl' → (∀ i a, Sl' i a → Sl i a) → (∀ i, i ∉ is → σ'[i]? = σ[i]?) → σ'.length = σ.length → Q σ' H) → g x σ H Q
/-- a name takes a thing -/
theorem REnv.put {F H : Hp} {σ : L2.St} {env : En} {Sl : Nat → Addr → Prop} {i : Nat} {o : O} {v : V} {T : Addr → Prop} (R : REnv F H σ env Sl) (w : Own F H o v T) (dj : ∀ j a, T a → Sl j a → j = i) (tr : ∀ a, T a → F a = none ∧ ∃ u, H a = some u) (nT : ∀ a, T a → ¬ isTab a) :
    REnv F H (σ.set i (some v)) (env.set i (some o)) (fun j a => (j ≠ i ∧ Sl j a) ∨ (j = i ∧ T a)) := by
  refine ⟨R.ex, by rw [List.length_set, List.length_set]; exact R.len, fun j u h => ?_, fun j k a x y => ?_, fun j a x => ?_, ⟨R.tb.tabs, R.tb.nF, fun a j ha z => z.elim (fun y => R.tb.nS a j ha y.2) fun y => nT a y.2 ha⟩⟩
  · rcases set_at h with ⟨rfl, e2, hl⟩ | ⟨ne, h'⟩
    · cases e2
      refine ⟨v, ?_, w.sub fun a s => .inr ⟨rfl, s⟩⟩
      rw [List.getElem?_set_self (by rw [R.len]; exact hl)]
    · obtain ⟨v2, e2, w2⟩ := R.at_ j u h'
      refine ⟨v2, ?_, w2.sub fun a s => .inl ⟨ne, s⟩⟩
      rw [List.getElem?_set_ne (Ne.symm ne)]
      exact e2
  · rcases x with ⟨n1, x⟩ | ⟨rfl, x⟩
    · rcases y with ⟨n2, y⟩ | ⟨rfl, y⟩
      · exact R.dj j k a x y
      · exact absurd (dj j a y x) n1
    · rcases y with ⟨n2, y⟩ | ⟨rfl, y⟩
      · exact absurd (dj k a x y) n2
      · rfl
  · rcases x with ⟨_, x⟩ | ⟨_, x⟩
    · exact R.tr j a x
    · exact tr a x
theorem REnv.putD {F H : Hp} {σ : L2.St} {env : En} {Sl : Nat → Addr → Prop} {i : Nat} {d : PyData} {v : V} (R : REnv F H σ env Sl) (w : Rp F d v) : REnv F H (σ.set i (some v)) (env.set i (some (.fz d))) (lose Sl i) := by
  have h := R.put (i := i) (o := .fz d) (v := v) (T := fun _ => False) w (fun _ _ z => z.elim) (fun _ z => z.elim) (fun _ z => z.elim)
  exact ⟨h.ex, h.len, fun j u q => by
    obtain ⟨v', e, w'⟩ := h.at_ j u q
    exact ⟨v', e, w'.sub fun a s => s.elim id fun z => z.2.elim⟩, fun j k a x y => R.dj j k a x.2 y.2, fun j a x => R.tr j a x.2, R.tb.fewer fun _ _ z => ⟨_, z.2⟩⟩
theorem pin_set {σ : L2.St} {i : Nat} {x : Option V} : ∀ j, j ∉ [i] → (σ.set i x)[j]? = σ[j]? := fun j e => by
  rw [List.getElem?_set_ne]
  intro z
  exact e (by rw [z]; simp)
def mgN (i : Nat) : PyData → En → Option En := fun d env => some (env.set i (some (.fz d)))
theorem rg_name {i : Nat} : RT' [i] (gName i) (mgN i) := by
  intro F H σ env Sl x d R r env' e Q q
  cases e
  exact q _ _ (R.putD r) (fun _ _ z => z.2) pin_set (List.length_set ..)
def mgTs : List Nat → List PyData → En → Option En
  | [], [], env => some env
  | i :: is, d :: ds, env => mgTs is ds (env.set i (some (.fz d)))
  | _, _, _ => none
def mgT (is : List Nat) : PyData → En → Option En := fun d env => match d with
  | .tuple ds => mgTs is ds env
  | _ => none
def RTs (g : TGs) (is : List Nat) : Prop := ∀ F H σ env Sl xs ds, REnv F H σ env Sl → All2 (Rp F) ds xs → ∀ env', mgTs is ds env = some env' → ∀ Q : L2.St → Hp → Prop,
  (∀ σ' Sl', REnv F H σ' env' Sl' → (∀ i a, Sl' i a → Sl i a) → (∀ i, i ∉ is → σ'[i]? = σ[i]?) → σ'.length = σ.length → Q σ' H) → g xs σ H Q
theorem rgs_nil : RTs gNil [] := by
  intro F H σ env Sl xs ds R r env' e Q q
  cases r with
  | nil => cases e; exact ⟨rfl, q σ Sl R (fun _ _ z => z) (fun _ _ => rfl) rfl⟩
  | cons _ _ => cases e
theorem rgs_cons {i : Nat} {g : TGs} {is : List Nat} (h : RTs g is) : RTs (gCons (gName i) g) (i :: is) := by
  intro F H σ env Sl xs ds R r env' e Q q
  cases r with
  | nil => cases e
  | cons a b =>
    refine ⟨_, _, rfl, ?_⟩
    exact h F H _ _ _ _ _ (R.putD a) b env' e Q fun σ' Sl' R' k p hl => q σ' Sl' R' (fun j x z => (k j x z).2) (fun j z => (p j fun y => z (by simp [y])).trans (pin_set j fun y => z (by simp at y; simp [y]))) (hl.trans (List.length_set ..))
theorem mgTs_len : ∀ {is : List Nat} {ds : List PyData} {env env' : En}, mgTs is ds env = some env' → ds.length = is.length
  | [], [], _, _, _ => rfl
  | [], _ :: _, _, _, h => nomatch h
  | _ :: _, [], _, _, h => nomatch h
  | _ :: is, _ :: ds, _, _, h => by
    have h' : mgTs is ds _ = some _ := h
    rw [List.length_cons, List.length_cons, mgTs_len h']
theorem rg_tup {K : PySem.W.Frag} {n : Nat} {g : TGs} {is : List Nat} (h : RTs g is) (hn : is.length = n := by rfl) : RT' is (gTup K n g) (mgT is) := by
  intro F H σ env Sl x d R r env' e Q q
  unfold mgT at e
  split at e
  · rename_i ds
    obtain ⟨a, vs, rfl, hF, rr⟩ := rp_tuple.mp r
    exact ⟨a, vs, rfl, SqT.of (R.ex _ _ hF), by rw [← rr.len, mgTs_len e]; exact hn, h F H σ env Sl vs ds R rr env' e Q q⟩
  · cases e
/-! ### comprehensions -/
def wipeE (env : En) : List Nat → En
  | [] => env
  | v :: vs => (wipeE env vs).set v none
theorem REnv.forget {F H : Hp} {σ : L2.St} {env : En} {Sl : Nat → Addr → Prop} {i : Nat} (R : REnv F H σ env Sl) : REnv F H (σ.set i none) (env.set i none) (lose Sl i) := by
  refine ⟨R.ex, by rw [List.length_set, List.length_set]; exact R.len, fun j u h => ?_, fun j k a x y => R.dj j k a x.2 y.2, fun j a x => R.tr j a x.2, R.tb.fewer fun _ _ z => ⟨_, z.2⟩⟩
  rcases set_at h with ⟨rfl, e2, _⟩ | ⟨ne, h'⟩
  · cases e2
  · obtain ⟨v2, e2, w2⟩ := R.at_ j u h'
    refine ⟨v2, ?_, w2.sub fun a s => ⟨ne, s⟩⟩
    rw [List.getElem?_set_ne (Ne.symm ne)]
    exact e2
theorem REnv.wiped {F H : Hp} {σ : L2.St} {env : En} : ∀ {vs : List Nat} {Sl : Nat → Addr → Prop}, REnv F H σ env Sl → ∃ Sl', REnv F H (wipe σ vs) (wipeE env vs) Sl' ∧ ∀ i a, Sl' i a → Sl i a
  | [], Sl, R => ⟨Sl, R, fun _ _ z => z⟩
  | v :: vs, Sl, R => by
    obtain ⟨Sl1, R1, k1⟩ := REnv.wiped (vs := vs) R
    exact ⟨_, R1.forget, fun i a z => k1 i a z.2⟩
/-- only fewer things are held -/
theorem Step.fewer {F H : Hp} {Sl Sl' : Nat → Addr → Prop} (k : ∀ i a, Sl' i a → Sl i a) : Step F H Sl F H Sl' := ⟨Ex.refl F, fun _ _ h _ _ => h, fun _ _ h => ⟨_, h⟩, fun i b h => .inl (k i b h), fun _ _ h => .inl h, fun t => t⟩
/-- a step that touches nothing of what the names hold -/
theorem Step.frame {F H F' H' : Hp} {Sl Sl0 Sl1 : Nat → Addr → Prop} (s : Step F H Sl0 F' H' Sl1) (k : ∀ i a, ¬ Sl0 i a) : Step F H Sl F' H' Sl :=
  ⟨s.exF, fun b o h _ nt => s.fr b o h (fun i => k i b) nt, s.tk, fun _ _ z => .inl z, fun b o z => (s.fz b o z).elim .inl fun y => y.elim (fun y => .inr (.inl y)) fun ⟨i, y⟩ => (k i b y).elim, s.tb⟩
theorem REnv.frame {F H F' H' : Hp} {σ : L2.St} {env : En} {Sl Sl0 Sl1 : Nat → Addr → Prop} (R : REnv F H σ env Sl) (s : Step F H Sl0 F' H' Sl1) (k : ∀ i a, ¬ Sl0 i a) (d : Ex F' H') : REnv F' H' σ env Sl := by
  have st : Step F H Sl F' H' Sl := s.frame k
  refine ⟨d, R.len, fun i o h => ?_, R.dj, fun i a x => ?_, R.tb.step st⟩
  · obtain ⟨v, e, w⟩ := R.at_ i o h
    exact ⟨v, e, w.ext s.exF fun a u y q => s.fr a u q (fun j => k j a) fun z => R.tb.nS a i z y⟩
  · obtain ⟨h1, o, h2⟩ := R.tr i a x
    refine ⟨?_, s.tk a o h2⟩
    cases q : F' a with
    | none => rfl
    | some u =>
      rcases s.fz a u q with z | z | ⟨j, z⟩
      · rw [h1] at z; cases z
      · rw [h2] at z; cases z
      · exact (k j a z).elim
theorem REnv.frame2 {F H F' H' : Hp} {σ : L2.St} {env : En} {Sl : Nat → Addr → Prop} (R : REnv F H σ env Sl) (s : Step F H Sl F' H' Sl) (kH : ∀ i a u, Sl i a → H a = some u → H' a = some u) (kF : ∀ i a, Sl i a → F' a = none) (d : Ex F' H') : REnv F' H' σ env Sl := by
  refine ⟨d, R.len, fun i o h => ?_, R.dj, fun i a x => ?_, R.tb.step s⟩
  · obtain ⟨v, e, w⟩ := R.at_ i o h
    exact ⟨v, e, w.ext s.exF fun a u y q => kH i a u y q⟩
  · obtain ⟨h1, o, h2⟩ := R.tr i a x
    exact ⟨kF i a x, o, kH i a o x h2⟩
/-- behind a step from what holds nothing all stands as before -/
theorem REnv.back {F H F1 F' H' : Hp} {σ : L2.St} {env : En} {Sl Sl0 Sl1 : Nat → Addr → Prop} (R : REnv F H σ env Sl) (s : Step F1 H Sl0 F' H' Sl1) (k : ∀ i a, ¬ Sl0 i a) : Step F H Sl F H' Sl ∧ REnv F H' σ env Sl := by
  have st : Step F H Sl F H' Sl := ⟨Ex.refl F, fun b o h _ nt => s.fr b o h (fun i => k i b) nt, s.tk, fun _ _ z => .inl z, fun _ _ z => .inl z, s.tb⟩
  refine ⟨st, R.frame2 st (fun i a u x q => s.fr a u q (fun j => k j a) fun z => R.tb.nS a i z x) (fun i a x => (R.tr i a x).1) fun a u q => ?_⟩
  exact s.fr a u (R.ex _ _ q) (fun j => k j a) fun z => by rw [R.tb.nF a z] at q; cases q
/-- behind a block: what it told of the block's names is forgotten -/
theorem REnv.unwipe {F H : Hp} {σ : L2.St} {env : En} {vs : List Nat} {Sl : Nat → Addr → Prop} (R : REnv F H (wipe σ vs) env Sl) : REnv F H σ env Sl :=
  ⟨R.ex, by rw [← R.len, wipe_length], fun i o h => by
    obtain ⟨v, e, w⟩ := R.at_ i o h
    exact ⟨v, (wipe_some e).1, w⟩, R.dj, R.tr, R.tb⟩
def mLcGo (mg : PyData → En → Option En) (mt : MT) (me : ME) (vs : List Nat) : List PyData → List PyData → ML
  | [], acc, env => some (acc, env)
  | d :: ds, acc, env => match mg d env with
    | some e1 => match mt e1 with
      | some (true, e2) => match me e2 with
        | some (p, e3) => match fzP e3 p with
          | some (y, e4) => if acc.length < sizeLine then mLcGo mg mt me vs ds (acc ++ [y]) (wipeE e4 vs) else none
          | none => none
        | none => none
      | some (false, e2) => mLcGo mg mt me vs ds acc (wipeE e2 vs)
      | none => none
    | none => none
def mLc (mi : ML) (mg : PyData → En → Option En) (mt : MT) (me : ME) (vs : List Nat) : ML := bnd mi fun ds e => mLcGo mg mt me vs ds [] (wipeE e vs)
end Tr
namespace Tr
open PySem PySem.Spec PyProof.Rows L2
variable [TC]

/-! ### a comprehension -/
theorem fresh_notin {F H : Hp} {σ : L2.St} {env : En} {Sl : Nat → Addr → Prop} (R : REnv F H σ env Sl) {p : Addr} (h : H p = none) : ∀ i, ¬ Sl i p := fun i z => by
  obtain ⟨_, o, e⟩ := R.tr i p z
  rw [h] at e
  cases e
/-- a list apart from all that is held is written -/
theorem REnv.side {F H : Hp} {σ : L2.St} {env : En} {Sl : Nat → Addr → Prop} {p : Addr} {u : HO} (R : REnv F H σ env Sl) (hf : F p = none) (hn : ∀ i, ¬ Sl i p) (hs : ∀ o, H p = some o → Slo o) : REnv F (upd H p u) σ env Sl := by
  refine ⟨fun b o h => ?_, R.len, fun i o h => ?_, R.dj, fun i a x => ?_, ⟨tabs_put hs R.tb.tabs, R.tb.nF, R.tb.nS⟩⟩
  · rw [upd_ne (fun z => by rw [z, hf] at h; cases h)]
    exact R.ex _ _ h
  · obtain ⟨v, e, w⟩ := R.at_ i o h
    exact ⟨v, e, w.ext (Ex.refl F) fun a u' s q => by
      rw [upd_ne (fun z => hn i (by rw [← z]; exact s))]
      exact q⟩
  · obtain ⟨h1, o, h2⟩ := R.tr i a x
    refine ⟨h1, o, ?_⟩
    rw [upd_ne (fun z => hn i (by rw [← z]; exact x))]
    exact h2

theorem wipe_at {σ : L2.St} {i : Nat} : ∀ {vs : List Nat}, (wipe σ vs)[i]? = if i ∈ vs then (if i < σ.length then some none else none) else σ[i]?
  | [] => by rw [if_neg (by simp)]; rfl
  | v :: vs => by
    show ((wipe σ vs).set v none)[i]? = _
    by_cases e : v = i
    · subst e
      rw [if_pos (by simp), List.getElem?_set]
      simp only [if_true, wipe_length]
    · rw [List.getElem?_set_ne e, wipe_at]
      have e' : ¬ i = v := fun z => e z.symm
      simp only [List.mem_cons, e', false_or]
theorem wipe_eq {σ σ' : L2.St} {vs is : List Nat} (h : ∀ i, i ∉ is → σ'[i]? = (wipe σ vs)[i]?) (hl : σ'.length = σ.length) (hs : ∀ i ∈ is, i ∈ vs) : wipe σ' vs = wipe σ vs := by
  refine List.ext_getElem? fun i => ?_
  rw [wipe_at, wipe_at, hl]
  by_cases hv : i ∈ vs
  · rw [if_pos hv, if_pos hv]
  · rw [if_neg hv, if_neg hv, h i (fun z => hv (hs i z)), wipe_at, if_neg hv]
theorem step_wiped {F H : Hp} {σ : L2.St} {env : En} {vs : List Nat} {Sl : Nat → Addr → Prop} {σ' : L2.St} (R : REnv F H σ' env Sl) (e : wipe σ' vs = wipe σ vs) : ∃ Sl', REnv F H (wipe σ vs) (wipeE env vs) Sl' ∧ ∀ i a, Sl' i a → Sl i a := by
  obtain ⟨Sl', R', k⟩ := R.wiped (vs := vs)
  rw [e] at R'
  exact ⟨Sl', R', k⟩
theorem Step.side {F H F' H' : Hp} {Sl Sl' : Nat → Addr → Prop} {p : Addr} {u : HO} (s : Step F H Sl F' H' Sl') (h : H p = none) (hs : ∀ o, H' p = some o → Slo o) : Step F H Sl F' (upd H' p u) Sl' :=
  ⟨s.exF, fun b o e n t => by rw [upd_ne (ne_of_none e h)]; exact s.fr b o e n t, fun b o e => by rw [upd_ne (ne_of_none e h)]; exact s.tk b o e, s.own, s.fz, fun t => tabs_put hs (s.tb t)⟩
theorem lc_core {wi : TI} {g : TG} {tt : TT} {te : TE} {vs is : List Nat} {mi : ML} {mg : PyData → En → Option En} {mt : MT} {me : ME} {pt pe : Bool} (hi : RI wi mi) (hg : RT' is g mg) (ht : RT pt tt mt) (he : RE pe te me) (hs : ∀ i ∈ is, i ∈ vs) :
    ∀ F H σ env Sl, REnv F H σ env Sl → ∀ ds env', mLc mi mg mt me vs env = some (ds, env') → ∀ Q : VK,
      (∀ p ys F' H' Sl', Step F H Sl F' H' Sl' → REnv F' H' σ env' Sl' → All2 (Rp F') ds ys → F' p = none → H p = none → (∀ i, ¬ Sl' i p) → H' p = some (.lst ys) → Q (.ref p) H') → tLc wi g tt te vs σ H Q := by
  intro F H σ env Sl R ds env' e Q q
  obtain ⟨xs, e0, h1, h2⟩ := bnd_of e
  refine hi F H σ env Sl R xs _ h1 _ fun J F1 H1 Sl1 s1 R1 hJ => ?_
  intro p np
  obtain ⟨Sl2, R2, k2⟩ := R1.wiped (vs := vs)
  have n2 : ∀ i, ¬ Sl2 i p := fun i z => fresh_notin R1 np i (k2 i p z)
  have R3 : REnv F1 (upd H1 p (.lst [])) (wipe σ vs) (wipeE e0 vs) Sl2 := R2.side (R1.ex.none np) n2 (slo_none np)
  have s3 : Step F1 H1 Sl1 F1 (upd H1 p (.lst [])) Sl2 := (Step.fewer k2).trans (Step.grow (Ex.refl F1) (Ex.new np) fun _ _ z => .inl z)
  refine ⟨fun i m Hi => ∃ Fi Sli envi acc ys, i ≤ xs.length ∧ m = xs.length - i ∧ REnv Fi Hi (wipe σ vs) envi Sli ∧ Step F1 H1 Sl1 Fi Hi Sli ∧ mLcGo mg mt me vs (xs.drop i) acc envi = some (ds, env') ∧ All2 (Rp Fi) acc ys ∧ Fi p = none ∧ (∀ i, ¬ Sli i p) ∧ Hi p = some (.lst ys), ?_, ?_⟩
  · exact ⟨xs.length, F1, Sl2, wipeE e0 vs, [], [], Nat.zero_le _, by omega, R3, s3, h2, .nil, R1.ex.none np, n2, upd_same⟩
  · rintro i m Hi ⟨Fi, Sli, envi, acc, ys, hil, hm, Ri, si, go, ra, fp, nsp, hp⟩
    cases hx : xs[i]? with
    | none =>
      have hge : xs.length ≤ i := List.getElem?_eq_none_iff.mp hx
      rw [List.drop_eq_nil_of_le hge] at go
      have go' : some (acc, envi) = some (ds, env') := go
      cases go'
      refine .inl ⟨(hJ Fi Hi si.exF Ri.ex i).2 hx, ?_⟩
      exact q p ys Fi Hi Sli (s1.trans si) Ri.unwipe ra fp (s1.tkb np) nsp hp
    | some d =>
      have hlt : i < xs.length := (List.getElem?_eq_some_iff.mp hx).1
      have hd : xs.drop i = d :: xs.drop (i + 1) := by
        rw [List.drop_eq_getElem_cons hlt]
        have := (List.getElem?_eq_some_iff.mp hx).2
        rw [this]
      rw [hd] at go
      unfold mLcGo at go
      obtain ⟨jg, jy⟩ := (hJ Fi Hi si.exF Ri.ex i).1 d hx
      refine .inr ⟨jg, fun H' => ∃ Fi Sli envi acc ys, i + 1 ≤ xs.length ∧ REnv Fi H' (wipe σ vs) envi Sli ∧ Step F1 H1 Sl1 Fi H' Sli ∧ mLcGo mg mt me vs (xs.drop (i + 1)) acc envi = some (ds, env') ∧ All2 (Rp Fi) acc ys ∧ Fi p = none ∧ (∀ i, ¬ Sli i p) ∧ H' p = some (.lst ys), fun H' ⟨Fj, Slj, envj, accj, ysj, z1, z2, z3, z4, z5, z6, z7, z8⟩ => ⟨xs.length - (i + 1), by omega, Fj, Slj, envj, accj, ysj, z1, rfl, z2, z3, z4, z5, z6, z7, z8⟩, fun x H' hy => ?_⟩
      obtain ⟨Fj, f1, f2, f3, f4, f5⟩ := jy x H' hy
      have Rj : REnv Fj H' (wipe σ vs) envi Sli := Ri.grow f1 f2 f3 f4
      have sj : Step F1 H1 Sl1 Fj H' Sli := si.trans (Step.grow f1 f2 f4)
      have fpj : Fj p = none := by
        cases z : Fj p with
        | none => rfl
        | some o =>
          rcases f4 p o z with y | y
          · rw [fp] at y; cases y
          · rw [hp] at y; cases y
      cases hg1 : mg d envi with
      | none => rw [hg1] at go; cases go
      | some e1 =>
        rw [hg1] at go
        refine hg Fj H' (wipe σ vs) envi Sli x d Rj f5 e1 hg1 _ fun σ2 Sl4 R4 k4 p4 l4 => ?_
        have hl4 : σ2.length = σ.length := by rw [l4, wipe_length]
        have weq : wipe σ2 vs = wipe σ vs := wipe_eq p4 hl4 hs
        refine ⟨weq, ?_⟩
        have s4 : Step F1 H1 Sl1 Fj H' Sl4 := sj.trans (Step.fewer k4)
        have nsp4 : ∀ i, ¬ Sl4 i p := fun i z => nsp i (k4 i p z)
        have hp4 : H' p = some (.lst ys) := f2 _ _ hp
        cases ht1 : mt e1 with
        | none => simp only [ht1] at go; cases go
        | some tb =>
          obtain ⟨b, e2⟩ := tb
          simp only [ht1] at go
          refine ht Fj H' σ2 e1 Sl4 R4 b e2 ht1 _ fun b' F5 H5 Sl5 s5 pu5 R5 rb => ?_
          cases rb
          have s5' := s4.trans s5
          have hp5 : H5 p = some (.lst ys) := s5.fr _ _ hp4 nsp4 (notT0 R1.tb.tabs np)
          have fp5 : F5 p = none := by
            cases z : F5 p with
            | none => rfl
            | some o =>
              rcases s5.fz p o z with y | y | ⟨j, y⟩
              · rw [fpj] at y; cases y
              · rw [hp4] at y; cases y
              · exact absurd y (nsp4 j)
          have nsp5 : ∀ i, ¬ Sl5 i p := fun i z => by
            rcases s5.own i p z with y | y
            · exact nsp4 i y
            · rw [hp4] at y; cases y
          have ra5 : All2 (Rp F5) acc ys := all_mono (f1.trans s5.exF) ra
          cases b with
          | false =>
            rw [if_neg Bool.false_ne_true]
            obtain ⟨Sl6, R6, k6⟩ := step_wiped (σ := σ) (vs := vs) R5 weq
            exact ⟨F5, Sl6, _, acc, ys, hlt, R6, s5'.trans (Step.fewer k6), go, ra5, fp5, fun i z => nsp5 i (k6 i p z), hp5⟩
          | true =>
            rw [if_pos rfl]
            cases he1 : me e2 with
            | none => simp only [he1] at go; cases go
            | some pe3 =>
              obtain ⟨pp, e3⟩ := pe3
              simp only [he1] at go
              cases hz1 : fzP e3 pp with
              | none => simp only [hz1] at go; cases go
              | some ye4 =>
                obtain ⟨y, e4⟩ := ye4
                simp only [hz1] at go
                split at go
                · rename_i hlen
                  refine he F5 H5 σ2 e2 Sl5 R5 pp e3 he1 _ fun v F6 H6 Sl6 s6 pu6 R6 r6 => ?_
                  obtain ⟨F7, Sl7, s7, R7, r7⟩ := fz_ok R6 r6 hz1
                  have s67 := s6.trans s7
                  have hp6 : H6 p = some (.lst ys) := s67.fr _ _ hp5 nsp5 (notT0 R1.tb.tabs np)
                  have fp6 : F7 p = none := by
                    cases z : F7 p with
                    | none => rfl
                    | some o =>
                      rcases s67.fz p o z with y | y | ⟨j, y⟩
                      · rw [fp5] at y; cases y
                      · rw [hp5] at y; cases y
                      · exact absurd y (nsp5 j)
                  have nsp6 : ∀ i, ¬ Sl7 i p := fun i z => by
                    rcases s67.own i p z with y | y
                    · exact nsp5 i y
                    · rw [hp5] at y; cases y
                  have ra7 : All2 (Rp F7) (acc ++ [y]) (ys ++ [v]) := (all_mono s67.exF ra5).snoc r7
                  obtain ⟨Sl8, R8, k8⟩ := step_wiped (σ := σ) (vs := vs) R7 weq
                  have nsp8 : ∀ i, ¬ Sl8 i p := fun i z => nsp6 i (k8 i p z)
                  exact ⟨ys, hp6, by rw [← ra.len]; exact hlen, F7, Sl8, _, acc ++ [y], ys ++ [v], hlt, R8.side fp6 nsp8 (slo_of hp6), (s5'.trans (s67.trans (Step.fewer k8))).side np (slo_of hp6), go, ra7, fp6, nsp8, upd_same⟩
                · cases go
/-- a list comprehension: its list is new; fixed at once, or held -/
theorem re_lc {wi : TI} {g : TG} {tt : TT} {te : TE} {vs is : List Nat} {mi : ML} {mg : PyData → En → Option En} {mt : MT} {me : ME} {pt pe : Bool} (hi : RI wi mi) (hg : RT' is g mg) (ht : RT pt tt mt) (he : RE pe te me) (hs : ∀ i ∈ is, i ∈ vs := by decide) :
    RE false (tLc wi g tt te vs) (mLE (mLc mi mg mt me vs)) := by
  intro F H σ env Sl R r env' e Q q
  obtain ⟨ds, e1, h1, h2⟩ := bnd_of e
  cases h2
  refine lc_core hi hg ht he hs F H σ env Sl R ds _ h1 Q fun p ys F' H' Sl' s R' ra fp np nsp hp => ?_
  have ex : Ex F' (upd F' p (.lst ys)) := Ex.new fp
  have st : Step F H Sl (upd F' p (.lst ys)) H' Sl' := by
    refine ⟨s.exF.trans ex, s.fr, s.tk, s.own, fun b o z => ?_, s.tb⟩
    by_cases hb : b = p
    · subst hb; exact .inr (.inl np)
    · rw [upd_ne hb] at z; exact s.fz b o z
  refine q _ (upd F' p (.lst ys)) H' Sl' st (fun z => nomatch z) ⟨fun b o z => ?_, R'.len, fun i o z => ?_, R'.dj, fun i a z => ?_, R.tb.step st⟩ (rp_list.mpr ⟨p, ys, rfl, upd_same, all_mono ex ra⟩)
  · by_cases hb : b = p
    · subst hb; rw [upd_same] at z; cases z; exact hp
    · rw [upd_ne hb] at z; exact R'.ex b o z
  · obtain ⟨v, e2, w⟩ := R'.at_ i o z
    exact ⟨v, e2, w.ext ex fun _ _ _ y => y⟩
  · obtain ⟨y1, y2⟩ := R'.tr i a z
    refine ⟨?_, y2⟩
    rw [upd_ne fun y => nsp i (by rw [← y]; exact z)]
    exact y1
theorem ro_lc {wi : TI} {g : TG} {tt : TT} {te : TE} {vs is : List Nat} {mi : ML} {mg : PyData → En → Option En} {mt : MT} {me : ME} {pt pe : Bool} (hi : RI wi mi) (hg : RT' is g mg) (ht : RT pt tt mt) (he : RE pe te me) (hs : ∀ i ∈ is, i ∈ vs := by decide) :
    RO (tLc wi g tt te vs) (mLO (mLc mi mg mt me vs)) := by
  intro F H σ env Sl R r env' e Q q
  obtain ⟨ds, e1, h1, h2⟩ := bnd_of e
  cases h2
  refine lc_core hi hg ht he hs F H σ env Sl R ds _ h1 Q fun p ys F' H' Sl' s R' ra fp np nsp hp => ?_
  exact q _ F' H' Sl' (fun a => a = p) s R' ⟨⟨p, ys, rfl, rfl, hp, ra⟩, fun i a z y => nsp i (by rw [← z]; exact y), fun a z => by rw [z]; exact ⟨fp, _, hp⟩, fun a z => by rw [z]; exact np⟩
end Tr
namespace Tr
open PySem PySem.Spec PyProof.Rows L2
variable [TC]

/-! ### statements -/
inductive Ctl where | nx | bk | ct | rt (o : O)
abbrev MS := En → Option (Ctl × En)
/-- what is to hold behind it; pn: the place of the parameter whose list the caller holds -/
def EndsAt (pn : List Nat) (D : Ends) (F0 H0 : Hp) (Sl0 : Nat → Addr → Prop) (σ0 : L2.St) (c : Ctl) (env' : En) : Prop := match c with
  | .nx => ∀ F' H' σ' Sl', Step F0 H0 Sl0 F' H' Sl' → REnv F' H' σ' env' Sl' → (∀ i, i ∈ pn → σ'[i]? = σ0[i]?) → D.nx σ' H'
  | .bk => ∀ F' H' σ' Sl', Step F0 H0 Sl0 F' H' Sl' → REnv F' H' σ' env' Sl' → (∀ i, i ∈ pn → σ'[i]? = σ0[i]?) → D.bk σ' H'
  | .ct => ∀ F' H' σ' Sl', Step F0 H0 Sl0 F' H' Sl' → REnv F' H' σ' env' Sl' → (∀ i, i ∈ pn → σ'[i]? = σ0[i]?) → D.ct σ' H'
  | .rt o => ∀ v F' H' σ' Sl' T, Step F0 H0 Sl0 F' H' Sl' → REnv F' H' σ' env' Sl' → (∀ i, i ∈ pn → σ'[i]? = σ0[i]?) → Own F' H' o v T → (∀ i a, T a → ¬ Sl' i a) → (∀ a, T a → F' a = none ∧ ∃ u, H' a = some u) →
      (∀ a, T a → H0 a = none ∨ ∃ i, i ∉ pn ∧ Sl0 i a) → D.rt v H'
def RS (pn : List Nat) (t : TS) (m : MS) : Prop := ∀ F H σ env Sl, REnv F H σ env Sl → ∀ c env', m env = some (c, env') → ∀ D : Ends, EndsAt pn D F H Sl σ c env' → t D σ H
theorem EndsAt.step {pn : List Nat} {D : Ends} {F H F1 H1 : Hp} {Sl Sl1 : Nat → Addr → Prop} {σ σ1 : L2.St} {c : Ctl} {env' : En} (h : EndsAt pn D F H Sl σ c env') (s : Step F H Sl F1 H1 Sl1) (p : ∀ i, i ∈ pn → σ1[i]? = σ[i]?) : EndsAt pn D F1 H1 Sl1 σ1 c env' := by
  cases c with
  | nx => exact fun F' H' σ' Sl' s' R q => h F' H' σ' Sl' (s.trans s') R fun i e => (q i e).trans (p i e)
  | bk => exact fun F' H' σ' Sl' s' R q => h F' H' σ' Sl' (s.trans s') R fun i e => (q i e).trans (p i e)
  | ct => exact fun F' H' σ' Sl' s' R q => h F' H' σ' Sl' (s.trans s') R fun i e => (q i e).trans (p i e)
  | rt o =>
    refine fun v F' H' σ' Sl' T s' R q w dj tr nw => h v F' H' σ' Sl' T (s.trans s') R (fun i e => (q i e).trans (p i e)) w dj tr fun a ha => ?_
    rcases nw a ha with z | ⟨i, hi, z⟩
    · exact .inl (s.tkb z)
    · rcases s.own i a z with y | y
      · exact .inr ⟨i, hi, y⟩
      · exact .inl y
def mSeq (m n : MS) : MS := fun env => match m env with
  | some (.nx, e) => n e
  | r => r
theorem rs_seq {pn : List Nat} {t u : TS} {m n : MS} (h : RS pn t m) (h' : RS pn u n) : RS pn (tSeq t u) (mSeq m n) := by
  intro F H σ env Sl R c env' e D q
  unfold mSeq at e
  split at e
  · rename_i e1 h1
    refine h F H σ env Sl R .nx e1 h1 _ fun F' H' σ' Sl' s R' p => ?_
    exact h' F' H' σ' e1 Sl' R' c env' e D (q.step s p)
  · rename_i hn
    refine h F H σ env Sl R c env' e _ ?_
    cases c with
    | nx => exact absurd e (hn env')
    | bk => exact q
    | ct => exact q
    | rt o => exact q
def mNext : MS := fun env => some (.nx, env)
theorem rs_next {pn : List Nat} : RS pn tNext mNext := by
  intro F H σ env Sl R c env' e D q
  cases e
  exact q F H σ Sl Step.refl R fun _ _ => rfl
def mNever : MS := fun _ => none
theorem rs_never {pn : List Nat} : RS pn tNever mNever := by
  intro F H σ env Sl R c env' e D q
  cases e
/-- a thing that never changes goes to where g puts it -/
def mAsg (me : ME) (mg : PyData → En → Option En) : MS := bnd me fun p e => match fzP e p with
  | some (d, e2) => match mg d e2 with
    | some e3 => some (.nx, e3)
    | none => none
  | none => none
theorem rs_asg {pn : List Nat} {pu : Bool} {te : TE} {me : ME} {g : TG} {mg : PyData → En → Option En} {is : List Nat} (h : RE pu te me) (hg : RT' is g mg) (hp : ∀ i, i ∈ pn → i ∉ is := by simp) : RS pn (tAsg te g) (mAsg me mg) := by
  intro F H σ env Sl R c env' e D q
  obtain ⟨p, e1, h1, h2⟩ := bnd_of e
  split at h2
  · rename_i d e2 h3
    split at h2
    · rename_i e3 h4
      cases h2
      refine h F H σ env Sl R p _ h1 _ fun r F1 H1 Sl1 s1 pu1 R1 r1 => ?_
      obtain ⟨F2, Sl2, s2, R2, r2⟩ := fz_ok R1 r1 h3
      refine hg F2 H1 σ e2 Sl2 r d R2 r2 _ h4 _ fun σ' Sl' R' k p l => ?_
      exact q F2 H1 σ' Sl' (s1.trans (s2.trans (Step.fewer k))) R' fun i z => p i (hp i z)
    · cases h2
  · cases h2
/-- a name takes what it alone holds from now on -/
def mAsgO (i : Nat) (mo : MO) : MS := bnd mo fun o e => some (.nx, e.set i (some o))
theorem rs_asgO {pn : List Nat} {te : TE} {mo : MO} {i : Nat} (h : RO te mo) (hp : i ∉ pn := by decide) : RS pn (tAsg te (gName i)) (mAsgO i mo) := by
  intro F H σ env Sl R c env' e D q
  obtain ⟨o, e1, h1, h2⟩ := bnd_of e
  cases h2
  refine h F H σ env Sl R o _ h1 _ fun v F1 H1 Sl1 T s1 R1 n => ?_
  exact q F1 H1 _ _ ⟨s1.exF, s1.fr, s1.tk, fun j b z => z.elim (fun y => s1.own j b y.2) fun y => .inr (n.nw b y.2), s1.fz, s1.tb⟩ (R1.put n.own (fun j a x y => absurd y (n.dj j a x)) n.tr fun a y => notT0 R.tb.tabs (n.nw a y)) fun j z => pin_set j (by simp; intro y; exact hp (y ▸ z))
/-- the list that the place j holds is written: what it holds afterwards -/
theorem REnv.write {F H : Hp} {σ : L2.St} {env : En} {Sl : Nat → Addr → Prop} {j : Nat} {a : Addr} {vs' : List V} {ds ds' : List PyData} (R : REnv F H σ env Sl) (hj : env[j]? = some (some (.ow ds))) (hv : σ[j]? = some (some (.ref a))) (r : All2 (Rp F) ds' vs') :
    Step F H Sl F (upd H a (.lst vs')) Sl ∧ REnv F (upd H a (.lst vs')) σ (env.set j (some (.ow ds'))) Sl := by
  obtain ⟨v, e1, a', ws, e2, sa, hH, _⟩ := R.at_ j _ hj
  rw [hv] at e1
  cases e1
  cases e2
  have ns : ∀ i, i ≠ j → ¬ Sl i a := fun i n z => n (R.dj i j a z sa)
  have fa := (R.tr j a sa).1
  refine ⟨⟨Ex.refl F, fun b o h n _ => ?_, fun b o h => ?_, fun _ _ z => .inl z, fun _ _ z => .inl z, tabs_put (slo_of hH)⟩, ⟨fun b o h => ?_, by rw [List.length_set]; exact R.len, fun i o h => ?_, R.dj, fun i b z => ?_, ⟨tabs_put (slo_of hH) R.tb.tabs, R.tb.nF, R.tb.nS⟩⟩⟩
  · rw [upd_ne (fun z => n j (by rw [z]; exact sa))]; exact h
  · by_cases z : b = a
    · subst z; exact ⟨_, upd_same⟩
    · exact ⟨o, by rw [upd_ne z]; exact h⟩
  · rw [upd_ne (fun z => by rw [z, fa] at h; cases h)]; exact R.ex b o h
  · rcases set_at h with ⟨rfl, e2, _⟩ | ⟨ne, h'⟩
    · cases e2
      exact ⟨_, hv, a, vs', rfl, sa, upd_same, r⟩
    · obtain ⟨v2, e2, w2⟩ := R.at_ i o h'
      exact ⟨v2, e2, w2.ext (Ex.refl F) fun b u s q => by rw [upd_ne (fun z => ns i ne (by rw [← z]; exact s))]; exact q⟩
  · obtain ⟨y1, u, y2⟩ := R.tr i b z
    refine ⟨y1, ?_⟩
    by_cases e : b = a
    · subst e; exact ⟨_, upd_same⟩
    · exact ⟨u, by rw [upd_ne e]; exact y2⟩
theorem REnv.held {F H : Hp} {σ : L2.St} {env : En} {Sl : Nat → Addr → Prop} {j : Nat} {ds : List PyData} (R : REnv F H σ env Sl) (hj : env[j]? = some (some (.ow ds))) : ∃ a vs, σ[j]? = some (some (.ref a)) ∧ H a = some (.lst vs) ∧ All2 (Rp F) ds vs := by
  obtain ⟨v, e1, a, vs, e2, sa, hH, r⟩ := R.at_ j _ hj
  subst e2
  exact ⟨a, vs, e1, hH, r⟩
/-- xs[i] = e -/
def mSetI (j : Nat) (mi me : ME) : MS := bnd me fun p e1 => match fzP e1 p with
  | some (d, e2) => match e2[j]? with
    | some (some (.ow _)) => match mi e2 with
      | some (.val (.int k), e3) => match e3[j]? with
        | some (some (.ow ds)) => match ixN ds.length k with
          | some n => some (.nx, e3.set j (some (.ow (ds.set n d))))
          | none => none
        | _ => none
      | _ => none
    | _ => none
  | none => none
theorem rs_setI {pn : List Nat} {pu pv : Bool} {te ti : TE} {me mi : ME} {j : Nat} (h : RE pu te me) (hi : RE pv ti mi) : RS pn (tAsg te (gSub (tVar j) ti rSetL)) (mSetI j mi me) := by
  intro F H σ env Sl R c env' e D q
  obtain ⟨p, e1, h1, h2⟩ := bnd_of e
  split at h2
  · rename_i d e2 h3
    split at h2
    · rename_i ds0 h0
      split at h2
      · rename_i k e3 h4
        split at h2
        · rename_i ds h5
          split at h2
          · rename_i n h6
            cases h2
            refine h F H σ env Sl R p _ h1 _ fun r F1 H1 Sl1 s1 pu1 R1 r1 => ?_
            obtain ⟨F2, Sl2, s2, R2, r2⟩ := fz_ok R1 r1 h3
            obtain ⟨a, _, ha, _⟩ := R2.held h0
            refine ⟨_, ha, ?_⟩
            refine hi F2 H1 σ e2 Sl2 R2 _ _ h4 _ fun r' F3 H3 Sl3 s3 pu3 R3 r3 => ?_
            obtain ⟨a', vs, ha', hH, rr⟩ := R3.held h5
            rw [ha] at ha'
            cases ha'
            obtain ⟨s4, R4⟩ := R3.write h5 ha (vs' := vs.set n r) (rr.set n (Rp.mono s3.exF r2))
            refine ⟨a, vs, k, n, rfl, pint r3, hH, by rw [← rr.len]; exact h6, ?_⟩
            exact q _ _ σ _ (s1.trans (s2.trans (s3.trans s4))) R4 fun _ _ => rfl
          · cases h2
        · cases h2
      · cases h2
    · cases h2
  · cases h2
/-- xs.append(e) -/
def mApp (j : Nat) (ma : MA) : MS := fun env => match env[j]? with
  | some (some (.ow _)) => match ma env with
    | some ([p], e1) => match fzP e1 p with
      | some (d, e2) => match e2[j]? with
        | some (some (.ow ds)) => if ds.length < sizeLine then some (.nx, e2.set j (some (.ow (ds ++ [d])))) else none
        | _ => none
      | none => none
    | _ => none
  | _ => none
theorem rs_app {K : PySem.W.Frag} {pn : List Nat} {pu : Bool} {ta : TA} {ma : MA} {j : Nat} (h : RA pu ta ma) : RS pn (tDrop (tBM K "list" rAppend (tVar j) ta)) (mApp j ma) := by
  intro F H σ env Sl R c env' e D q
  unfold mApp at e
  split at e
  · rename_i ds0 h0
    split at e
    · rename_i p e1 h1
      split at e
      · rename_i d e2 h3
        split at e
        · rename_i ds h5
          split at e
          · rename_i hl
            cases e
            obtain ⟨a, vs0, ha, hH0, _⟩ := R.held h0
            refine ⟨_, ha, Or.inl ⟨rfl, vs0, SqL.of hH0⟩, ?_⟩
            refine h F H σ env Sl R _ _ h1 _ fun r F1 H1 Sl1 s1 pu1 R1 r1 => ?_
            cases r1 with
            | cons x t =>
              cases t
              obtain ⟨F2, Sl2, s2, R2, r2⟩ := fz_ok R1 x h3
              obtain ⟨a', vs, ha', hH, rr⟩ := R2.held h5
              rw [ha] at ha'
              cases ha'
              rename_i v
              obtain ⟨s4, R4⟩ := R2.write h5 ha (vs' := vs ++ [v]) (rr.snoc r2)
              exact ⟨a, vs, v, rfl, rfl, hH, by rw [← rr.len]; exact hl, q _ _ σ _ (s1.trans (s2.trans s4)) R4 fun _ _ => rfl⟩
          · cases e
        · cases e
      · cases e
    · cases e
  · cases e
/-- xs.pop(i) as a value -/
def mPopAt (j : Nat) (ma : MA) : ME := fun env => match env[j]? with
  | some (some (.ow _)) => match ma env with
    | some ([.val (.int i)], e1) => match e1[j]? with
      | some (some (.ow ds)) => if -(2 ^ 63) ≤ i ∧ i < 2 ^ 63 then match seqIndex? i ds.length with
        | some k => match ds[k]? with
          | some d => some (.val d, e1.set j (some (.ow (ds.eraseIdx k))))
          | none => none
        | none => none else none
      | _ => none
    | _ => none
  | _ => none
theorem re_popAt {K : PySem.W.Frag} {pu : Bool} {ta : TA} {ma : MA} {j : Nat} (h : RA pu ta ma) : RE false (tBM K "list" rPopAt (tVar j) ta) (mPopAt j ma) := by
  intro F H σ env Sl R c env' e Q q
  unfold mPopAt at e
  split at e
  · rename_i ds0 h0
    split at e
    · rename_i i e1 h1
      split at e
      · rename_i ds h5
        split at e
        · rename_i hb
          split at e
          · rename_i k hk
            split at e
            · rename_i d hd
              cases e
              obtain ⟨a, vs0, ha, hH0, _⟩ := R.held h0
              refine ⟨_, ha, Or.inl ⟨rfl, vs0, SqL.of hH0⟩, ?_⟩
              refine h F H σ env Sl R _ _ h1 _ fun r F1 H1 Sl1 s1 pu1 R1 r1 => ?_
              cases r1 with
              | cons x t =>
                cases t
                obtain ⟨a', vs, ha', hH, rr⟩ := R1.held h5
                rw [ha] at ha'
                cases ha'
                obtain ⟨v, hv, rv⟩ := rr.get hd
                obtain ⟨s4, R4⟩ := R1.write h5 ha (vs' := vs.eraseIdx k) (rr.erase k)
                exact ⟨a, vs, i, k, v, rfl, by rw [pint x], hH, hb.1, hb.2, by rw [← rr.len]; exact hk, hv, q v _ _ _ (s1.trans s4) (fun z => nomatch z) R4 rv⟩
            · cases e
          · cases e
        · cases e
      · cases e
    · cases e
  · cases e
/-- e -/
def mDrop (me : ME) : MS := bnd me fun _ e => some (.nx, e)
theorem rs_drop {pn : List Nat} {pu : Bool} {te : TE} {me : ME} (h : RE pu te me) : RS pn (tDrop te) (mDrop me) := by
  intro F H σ env Sl R c env' e D q
  obtain ⟨p, e1, h1, h2⟩ := bnd_of e
  cases h2
  exact h F H σ env Sl R p _ h1 _ fun r F1 H1 Sl1 s1 pu1 R1 r1 => q F1 H1 σ Sl1 s1 R1 fun _ _ => rfl
/-- return e; return a list that is handed over -/
def mRet (me : ME) : MS := bnd me fun p e => match fzP e p with
  | some (d, e2) => some (.rt (.fz d), e2)
  | none => none
theorem rs_ret {pn : List Nat} {pu : Bool} {te : TE} {me : ME} (h : RE pu te me) : RS pn (tRet te) (mRet me) := by
  intro F H σ env Sl R c env' e D q
  obtain ⟨p, e1, h1, h2⟩ := bnd_of e
  split at h2
  · rename_i d e2 h3
    cases h2
    refine h F H σ env Sl R p _ h1 _ fun r F1 H1 Sl1 s1 pu1 R1 r1 => ?_
    obtain ⟨F2, Sl2, s2, R2, r2⟩ := fz_ok R1 r1 h3
    exact q r F2 H1 σ Sl2 (fun _ => False) (s1.trans s2) R2 (fun _ _ => rfl) r2 (fun _ _ z => z.elim) (fun _ z => z.elim) fun _ z => z.elim
  · cases h2
def mRetO (mo : MO) : MS := bnd mo fun o e => some (.rt o, e)
theorem rs_retO {pn : List Nat} {te : TE} {mo : MO} (h : RO te mo) : RS pn (tRet te) (mRetO mo) := by
  intro F H σ env Sl R c env' e D q
  obtain ⟨o, e1, h1, h2⟩ := bnd_of e
  cases h2
  exact h F H σ env Sl R o _ h1 _ fun v F1 H1 Sl1 T s1 R1 n => q v F1 H1 σ Sl1 T s1 R1 (fun _ _ => rfl) n.own (fun i a x => n.dj i a x) n.tr fun a z => .inl (n.nw a z)
def mRetV (j : Nat) : MS := fun env => match env[j]? with
  | some (some o) => some (.rt o, env.set j none)
  | _ => none
theorem rs_retV {pn : List Nat} {j : Nat} (hp : j ∉ pn := by decide) : RS pn (tRet (tVar j)) (mRetV j) := by
  intro F H σ env Sl R c env' e D q
  unfold mRetV at e
  split at e
  · rename_i o h0
    cases e
    obtain ⟨v, hv, w⟩ := R.at_ j o h0
    refine ⟨v, hv, q v F H (σ.set j none) (lose Sl j) (Sl j) (Step.fewer fun i a z => z.2) R.forget (fun i z => pin_set i (by simp; intro y; exact hp (y ▸ z))) w (fun i a x y => y.1 (R.dj i j a y.2 x)) (R.tr j) fun a x => .inr ⟨j, hp, x⟩⟩
  · cases e
/-- if -/
theorem rs_if {pn : List Nat} {pu : Bool} {tc : TT} {t u : TS} {mc : MT} {m n : MS} (h : RT pu tc mc) (h1 : RS pn t m) (h2 : RS pn u n) : RS pn (tIfS tc t u) (mIf mc m n) := by
  intro F H σ env Sl R c env' e D q
  obtain ⟨b1, e1, x1, x2⟩ := bnd_of e
  refine h F H σ env Sl R b1 _ x1 _ fun r F1 H1 Sl1 s1 pu1 R1 r1 => ?_
  cases r1
  cases b1 with
  | true =>
    rw [if_pos rfl]
    exact h1 F1 H1 σ e1 Sl1 R1 c _ x2 D (q.step s1 fun _ _ => rfl)
  | false =>
    rw [if_neg Bool.false_ne_true]
    exact h2 F1 H1 σ e1 Sl1 R1 c _ x2 D (q.step s1 fun _ _ => rfl)
end Tr
namespace Tr
open PySem PySem.Spec PyProof.Rows L2
variable [TC]

/-! ### loops -/
def mForGo (mg : PyData → En → Option En) (mb : MS) : List PyData → MS
  | [], env => some (.nx, env)
  | d :: ds, env => match mg d env with
    | some e1 => match mb e1 with
      | some (.nx, e2) => mForGo mg mb ds e2
      | some (.ct, e2) => mForGo mg mb ds e2
      | some (.bk, e2) => some (.nx, e2)
      | some (.rt o, e2) => some (.rt o, e2)
      | none => none
    | none => none
def mFor (mi : ML) (mg : PyData → En → Option En) (mb : MS) : MS := bnd mi fun ds e => mForGo mg mb ds e
theorem rs_for {pn : List Nat} {wi : TI} {g : TG} {tb : TS} {is : List Nat} {mi : ML} {mg : PyData → En → Option En} {mb : MS} (hi : RI wi mi) (hg : RT' is g mg) (hb : RS pn tb mb) (hp : ∀ i, i ∈ pn → i ∉ is := by simp) : RS pn (tFor wi g tb) (mFor mi mg mb) := by
  intro F H σ env Sl R c env' e D q
  obtain ⟨xs, e0, h1, h2⟩ := bnd_of e
  refine hi F H σ env Sl R xs _ h1 _ fun J F1 H1 Sl1 s1 R1 hJ => ?_
  have q1 := q.step s1 fun _ _ => rfl
  refine ⟨fun i m σi Hi => ∃ Fi Sli envi, i ≤ xs.length ∧ m = xs.length - i ∧ Ex F1 Fi ∧ REnv Fi Hi σi envi Sli ∧ EndsAt pn D Fi Hi Sli σi c env' ∧ mForGo mg mb (xs.drop i) envi = some (c, env'), ⟨xs.length, F1, Sl1, e0, Nat.zero_le _, by omega, Ex.refl F1, R1, q1, h2⟩, ?_⟩
  rintro i m σi Hi ⟨Fi, Sli, envi, hil, hm, exi, Ri, qi, go⟩
  cases hx : xs[i]? with
  | none =>
    have hge : xs.length ≤ i := List.getElem?_eq_none_iff.mp hx
    rw [List.drop_eq_nil_of_le hge] at go
    have go' : some (Ctl.nx, envi) = some (c, env') := go
    cases go'
    exact .inl ⟨(hJ Fi Hi exi Ri.ex i).2 hx, qi Fi Hi σi Sli Step.refl Ri fun _ _ => rfl⟩
  | some d =>
    have hlt : i < xs.length := (List.getElem?_eq_some_iff.mp hx).1
    have hd : xs.drop i = d :: xs.drop (i + 1) := by
      rw [List.drop_eq_getElem_cons hlt]
      have := (List.getElem?_eq_some_iff.mp hx).2
      rw [this]
    rw [hd] at go
    unfold mForGo at go
    obtain ⟨jg, jy⟩ := (hJ Fi Hi exi Ri.ex i).1 d hx
    refine .inr ⟨jg, fun σ' H' => ∃ Fj Slj envj, i + 1 ≤ xs.length ∧ Ex F1 Fj ∧ REnv Fj H' σ' envj Slj ∧ EndsAt pn D Fj H' Slj σ' c env' ∧ mForGo mg mb (xs.drop (i + 1)) envj = some (c, env'), fun σ' H' ⟨Fj, Slj, envj, z1, z2, z3, z4, z5⟩ => ⟨xs.length - (i + 1), by omega, Fj, Slj, envj, z1, rfl, z2, z3, z4, z5⟩, fun x H' hy => ?_⟩
    obtain ⟨Fj, f1, f2, f3, f4, f5⟩ := jy x H' hy
    have Rj : REnv Fj H' σi envi Sli := Ri.grow f1 f2 f3 f4
    have qj := qi.step (Step.grow (Sl := Sli) f1 f2 f4) fun _ _ => rfl
    cases hg1 : mg d envi with
    | none => rw [hg1] at go; cases go
    | some e1 =>
      rw [hg1] at go
      refine hg Fj H' σi envi Sli x d Rj f5 e1 hg1 _ fun σ2 Sl4 R4 k4 p4 l4 => ?_
      have q4 := qj.step (Step.fewer k4) fun j z => p4 j (hp j z)
      cases hb1 : mb e1 with
      | none => simp only [hb1] at go; cases go
      | some ce =>
        obtain ⟨c1, e2⟩ := ce
        simp only [hb1] at go
        refine hb Fj H' σ2 e1 Sl4 R4 c1 e2 hb1 _ ?_
        cases c1 with
        | nx => exact fun F' H'' σ' Sl' s' R' p' => ⟨F', Sl', e2, hlt, exi.trans (f1.trans s'.exF), R', q4.step s' p', go⟩
        | ct => exact fun F' H'' σ' Sl' s' R' p' => ⟨F', Sl', e2, hlt, exi.trans (f1.trans s'.exF), R', q4.step s' p', go⟩
        | bk => cases go; exact q4
        | rt o => cases go; exact q4
/-- at most n turns -/
def mWhile (mc : MT) (mb : MS) : Nat → MS
  | 0, _ => none
  | n + 1, env => match mc env with
    | some (true, e1) => match mb e1 with
      | some (.nx, e2) => mWhile mc mb n e2
      | some (.ct, e2) => mWhile mc mb n e2
      | some (.bk, e2) => some (.nx, e2)
      | some (.rt o, e2) => some (.rt o, e2)
      | none => none
    | some (false, e1) => some (.nx, e1)
    | none => none
theorem rs_while {pn : List Nat} {pu : Bool} {tc : TT} {tb : TS} {mc : MT} {mb : MS} (n : Nat) (hc : RT pu tc mc) (hb : RS pn tb mb) : RS pn (tWhile tc tb) (mWhile mc mb n) := by
  intro F H σ env Sl R c env' e D q
  refine ⟨fun m σi Hi => ∃ Fi Sli envi, REnv Fi Hi σi envi Sli ∧ EndsAt pn D Fi Hi Sli σi c env' ∧ mWhile mc mb m envi = some (c, env'), ⟨n, F, Sl, env, R, q, e⟩, ?_⟩
  rintro m σi Hi ⟨Fi, Sli, envi, Ri, qi, go⟩
  cases m with
  | zero => cases go
  | succ m =>
    unfold mWhile at go
    cases hc1 : mc envi with
    | none => rw [hc1] at go; cases go
    | some be =>
      obtain ⟨b, e1⟩ := be
      rw [hc1] at go
      refine hc Fi Hi σi envi Sli Ri b e1 hc1 _ fun r F1 H1 Sl1 s1 pu1 R1 r1 => ?_
      cases r1
      have q1 := qi.step s1 fun _ _ => rfl
      cases b with
      | false =>
        rw [if_neg Bool.false_ne_true]
        cases go
        exact q1 F1 H1 σi Sl1 Step.refl R1 fun _ _ => rfl
      | true =>
        rw [if_pos rfl]
        cases hb1 : mb e1 with
        | none => simp only [hb1] at go; cases go
        | some ce =>
          obtain ⟨c1, e2⟩ := ce
          simp only [hb1] at go
          refine ⟨fun σ' H' => ∃ Fi Sli envi, REnv Fi H' σ' envi Sli ∧ EndsAt pn D Fi H' Sli σ' c env' ∧ mWhile mc mb m envi = some (c, env'), fun σ' H' z => ⟨m, Nat.lt_succ_self m, z⟩, hb F1 H1 σi e1 Sl1 R1 c1 e2 hb1 _ ?_⟩
          cases c1 with
          | nx => exact fun F' H'' σ' Sl' s' R' p' => ⟨F', Sl', e2, R', q1.step s' p', go⟩
          | ct => exact fun F' H'' σ' Sl' s' R' p' => ⟨F', Sl', e2, R', q1.step s' p', go⟩
          | bk => cases go; exact q1
          | rt o => cases go; exact q1

/-! ### defs and calls -/
/-- a def as a function of what it is given: what it gives back, and what its parameters' lists hold then -/
abbrev MF := List O → Option (O × List O)
def mDef (n np : Nat) (pn : List Nat) (m : MS) : MF := fun os => if os.length = np then match m (os.map some ++ List.replicate (n - os.length) none) with
  | some (.rt r, env) => fin pn os env r
  | some (.nx, env) => fin pn os env (.fz .none)
  | _ => none else none
where
  fin (pn : List Nat) (os : List O) (env : En) (r : O) : Option (O × List O) := (finL pn os env).map fun os' => (r, os')
  finL : List Nat → List O → En → Option (List O)
    | [], os, _ => some os
    | j :: pn, os, env => match env[j]? with
      | some (some o) => finL pn (os.set j o) env
      | _ => none
theorem finL_spec : ∀ {pn : List Nat} {os os' : List O} {env : En}, mDef.finL pn os env = some os' → os'.length = os.length ∧ (∀ k, k ∉ pn → os'[k]? = os[k]?) ∧ (∀ k, k ∈ pn → k < os.length → ∃ o, env[k]? = some (some o) ∧ os'[k]? = some o)
  | [], os, os', env, h => by
    cases h
    exact ⟨rfl, fun _ _ => rfl, fun k hk => by simp at hk⟩
  | j :: pn, os, os', env, h => by
    unfold mDef.finL at h
    split at h
    · rename_i o ho
      obtain ⟨l, a, b⟩ := finL_spec h
      rw [List.length_set] at l b
      refine ⟨l, fun k hk => ?_, fun k hk hl => ?_⟩
      · have n1 : k ≠ j := fun z => hk (by rw [z]; exact List.mem_cons_self)
        rw [a k (fun z => hk (List.mem_cons_of_mem _ z)), List.getElem?_set_ne (Ne.symm n1)]
      · by_cases hp : k ∈ pn
        · exact b k hp hl
        · rcases List.mem_cons.mp hk with rfl | z
          · refine ⟨o, ho, ?_⟩
            rw [a k hp, List.getElem?_set_self (by exact hl)]
          · exact absurd z hp
    · cases h
/-- nothing is held among them, but for the place pn -/
def plainO : O → Bool
  | .fz _ => true
  | .sc _ _ => true
  | .kt _ _ => true
  | _ => false
theorem plain_own {F H F' H' : Hp} {o : O} {v : V} {S T : Addr → Prop} (h : Own F H o v S) (e : Ex F F') (p : plainO o = true) : Own F' H' o v T := by
  cases o with
  | fz d => exact Rp.mono e h
  | sc K ns => obtain ⟨a, q, h⟩ := h; exact ⟨a, q, ex_sq e h⟩
  | kt K xs => obtain ⟨a, q, h⟩ := h; exact ⟨a, q, ex_sqT e h⟩
  | rg _ _ => cases p
  | ow _ => cases p
  | ow2 _ => cases p
  | ob _ _ _ => cases p
  | tp _ => cases p
  | dk _ => cases p
  | dt _ => cases p
  | dd _ => cases p
  | ro _ _ => cases p
def spOf (pn : List Nat) (mf : MF) : Sp := fun vs H Q _ => ∃ F os Sl r os', REnv F H (vs.map some) (os.map some) Sl ∧ (∀ k b, Sl k b → k ∈ pn) ∧ (∀ k o, os[k]? = some o → k ∉ pn → plainO o = true) ∧ mf os = some (r, os') ∧
  ∀ v F' H' Sl' T, Step F H Sl F' H' Sl' → REnv F' H' (vs.map some) (os'.map some) Sl' → (∀ k b, Sl' k b → k ∈ pn) → New F' H H' Sl' r v T → Q v H'
theorem by_len {n np : Nat} {pn : List Nat} {m : MS} {vs : List V} {H : Hp} {Q : VK} {E : XK} (h : spOf pn (mDef n np pn m) vs H Q E) : vs.length = np := by
  obtain ⟨F, os, Sl, r, os', R, _, _, hm, _⟩ := h
  have hl := R.len
  rw [List.length_map, List.length_map] at hl
  unfold mDef at hm
  split at hm
  · rename_i hn
    rw [hl, hn]
  · cases hm
end Tr
namespace Tr
open PySem PySem.Spec PyProof.Rows L2
variable [TC]

theorem start_at {N : List Str} {vs : List V} {i : Nat} : (L2.start N vs)[i]? = if i < vs.length then (vs[i]?).map some else (if i < vs.length + (N.length - vs.length) then some none else none) := by
  unfold L2.start
  by_cases h : i < vs.length
  · rw [if_pos h, List.getElem?_append_left (by rw [List.length_map]; exact h), List.getElem?_map]
  · rw [if_neg h, List.getElem?_append_right (by rw [List.length_map]; omega), List.length_map, List.getElem?_replicate]
    by_cases h2 : i < vs.length + (N.length - vs.length)
    · rw [if_pos h2, if_pos (by omega)]
    · rw [if_neg h2, if_neg (by omega)]
theorem args_at {α : Type} {l : List α} {i : Nat} {o : α} (h : (l.map some)[i]? = some (some o)) : l[i]? = some o := by
  rw [List.getElem?_map] at h
  cases q : l[i]? with
  | none => rw [q] at h; cases h
  | some x => rw [q] at h; cases h; rfl
theorem env0_at {os : List O} {n i : Nat} {o : O} (h : (os.map some ++ List.replicate n none)[i]? = some (some o)) : os[i]? = some o := by
  by_cases hi : i < os.length
  · rw [List.getElem?_append_left (by rw [List.length_map]; exact hi)] at h
    exact args_at h
  · rw [List.getElem?_append_right (by rw [List.length_map]; omega), List.getElem?_replicate] at h
    split at h <;> cases h
theorem start_of {N : List Str} {vs : List V} {i : Nat} {v : V} (h : vs[i]? = some v) : (L2.start N vs)[i]? = some (some v) := by
  rw [start_at, if_pos (List.getElem?_eq_some_iff.mp h).1, h]
  rfl
theorem REnv.enter {F H : Hp} {N : List Str} {vs : List V} {os : List O} {Sl : Nat → Addr → Prop} (R : REnv F H (vs.map some) (os.map some) Sl) : REnv F H (L2.start N vs) (os.map some ++ List.replicate (N.length - os.length) none) Sl := by
  have hl : vs.length = os.length := by
    have := R.len
    rw [List.length_map, List.length_map] at this
    exact this
  refine ⟨R.ex, ?_, fun i o h => ?_, R.dj, R.tr, R.tb⟩
  · unfold L2.start
    rw [List.length_append, List.length_append, List.length_map, List.length_map, List.length_replicate, List.length_replicate, hl]
  · obtain ⟨v, e, w⟩ := R.at_ i o (by rw [List.getElem?_map, env0_at h]; rfl)
    exact ⟨v, start_of (args_at e), w⟩
/-- what is left of the arguments behind a def's body -/
theorem leave {F H F' H' : Hp} {N : List Str} {pn : List Nat} {vs : List V} {os os' : List O} {Sl Sl' : Nat → Addr → Prop} {σ' : L2.St} {env' : En} {r r' : O} (R : REnv F H (vs.map some) (os.map some) Sl) (pl : ∀ k o, os[k]? = some o → k ∉ pn → plainO o = true) (hs : ∀ k b, Sl k b → k ∈ pn)
    (s : Step F H Sl F' H' Sl') (R' : REnv F' H' σ' env' Sl') (p : ∀ i, i ∈ pn → σ'[i]? = (L2.start N vs)[i]?) (e : mDef.fin pn os env' r = some (r', os')) :
    r' = r ∧ ∃ Sl'', Step F H Sl F' H' Sl'' ∧ REnv F' H' (vs.map some) (os'.map some) Sl'' ∧ (∀ k b, Sl'' k b → k ∈ pn) ∧ ∀ i a, Sl'' i a → Sl' i a := by
  have hl := R.len
  rw [List.length_map, List.length_map] at hl
  have plain : ∀ k o, os[k]? = some o → k ∉ pn → ∃ v, vs[k]? = some v ∧ ∀ T, Own F' H' o v T := fun k o h n => by
    obtain ⟨v, e1, w⟩ := R.at_ k o (by rw [List.getElem?_map, h]; rfl)
    exact ⟨v, args_at e1, fun T => plain_own w s.exF (pl k o h n)⟩
  unfold mDef.fin at e
  cases hf : mDef.finL pn os env' with
  | none => rw [hf] at e; cases e
  | some os1 =>
    rw [hf] at e
    cases e
    obtain ⟨hl1, hout, hin⟩ := finL_spec hf
    refine ⟨rfl, fun k b => k ∈ pn ∧ Sl' k b, s.trans (Step.fewer fun i a z => z.2), ⟨R'.ex, by rw [List.length_map, List.length_map, hl1]; exact hl, fun i u h => ?_, fun i k a x y => R'.dj i k a x.2 y.2, fun i a z => R'.tr i a z.2, R'.tb.fewer fun _ _ z => ⟨_, z.2⟩⟩, fun k b z => z.1, fun i a z => z.2⟩
    have h := args_at h
    by_cases hi : i ∈ pn
    · have hli : i < os.length := by rw [← hl1]; exact (List.getElem?_eq_some_iff.mp h).1
      obtain ⟨o, ho, ho'⟩ := hin i hi hli
      rw [h] at ho'
      cases ho'
      obtain ⟨v, hv, w⟩ := R'.at_ i u ho
      have hj : i < vs.length := by rw [hl]; exact hli
      have hvj : vs[i]? = some v := by
        rw [p i hi, start_at, if_pos hj] at hv
        cases q : vs[i]? with
        | none => rw [q] at hv; cases hv
        | some x => rw [q] at hv; cases hv; rfl
      exact ⟨v, by rw [List.getElem?_map, hvj]; rfl, w.sub fun a z => ⟨hi, z⟩⟩
    · rw [hout i hi] at h
      obtain ⟨v', hv', rr⟩ := plain i u h hi
      exact ⟨v', by rw [List.getElem?_map, hv']; rfl, rr _⟩
theorem def_ok {pn : List Nat} {t : TS} {m : MS} {N : List Str} {vs : List V} {H : Hp} {Q : VK} {E : XK} (h : RS pn t m) {np : Nat} (hsp : spOf pn (mDef N.length np pn m) vs H Q E) : t { nx := fun _ H' => Q .non H', rt := Q } (L2.start N vs) H := by
  obtain ⟨F, os, Sl, r, os', R, hs, pl, hm, q⟩ := hsp
  unfold mDef at hm
  split at hm
  case isFalse => cases hm
  split at hm
  · rename_i o env' h1
    refine h F H _ _ Sl R.enter (.rt o) env' h1 _ fun v F' H' σ' Sl' T s R' p w dj tr nw => ?_
    obtain ⟨rfl, Sl'', s'', R'', hs'', k⟩ := leave R pl hs s R' p hm
    refine q v F' H' Sl'' T s'' R'' hs'' ⟨w, fun i a x y => dj i a x (k i a y), tr, fun a z => ?_⟩
    rcases nw a z with y | ⟨i, hi, y⟩
    · exact y
    · exact absurd (hs i a y) hi
  · rename_i env' h1
    refine h F H _ _ Sl R.enter .nx env' h1 _ fun F' H' σ' Sl' s R' p => ?_
    obtain ⟨rfl, Sl'', s'', R'', hs'', k⟩ := leave R pl hs s R' p hm
    exact q .non F' H' Sl'' (fun _ => False) s'' R'' hs'' ⟨rfl, fun _ _ z => z.elim, fun _ z => z.elim, fun _ z => z.elim⟩
  · cases hm

/-! ### a call -/
def oneA (e : En) : P → Option (O × En)
  | .k K xs => some (.kt K xs, e)
  | .val d => some (.fz d, e)
  | .var i => match fzP e (.var i) with
    | some (d, e1) => some (.fz d, e1)
    | none => none
theorem oneA_ok {F H : Hp} {σ : L2.St} {env env' : En} {Sl : Nat → Addr → Prop} {v : V} {p : P} {o : O} (R : REnv F H σ env Sl) (h : RP F σ v p) (e : oneA env p = some (o, env')) : ∃ F' Sl', Step F H Sl F' H Sl' ∧ REnv F' H σ env' Sl' ∧ plainO o = true ∧ ∀ H' T, Own F' H' o v T := by
  cases p with
  | k K xs => cases e; exact ⟨F, Sl, Step.refl, R, rfl, fun _ _ => h⟩
  | val d => cases e; exact ⟨F, Sl, Step.refl, R, rfl, fun _ _ => h⟩
  | var i =>
    simp only [oneA] at e
    split at e
    · rename_i d e1 h1
      cases e
      obtain ⟨F1, Sl1, s1, R1, r1⟩ := fz_ok R h h1
      exact ⟨F1, Sl1, s1, R1, rfl, fun _ _ => r1⟩
    · cases e
def lentOf : P → Option Nat
  | .var i => some i
  | _ => none
/-- the arguments: at a place of pn a name lends what it alone holds; elsewhere what is handed over never changes any more -/
def prepA (pn : List Nat) : Nat → List P → En → Option (List O × List (Option Nat) × En)
  | _, [], e => some ([], [], e)
  | k, p :: ps, e => match (if k ∈ pn then lentOf p else none) with
    | some i => match prepA pn (k + 1) ps e with
      | some (os, ls, e2) => some (.fz .none :: os, some i :: ls, e2)
      | none => none
    | none => match oneA e p with
      | some (o, e1) => match prepA pn (k + 1) ps e1 with
        | some (os, ls, e2) => some (o :: os, none :: ls, e2)
        | none => none
      | none => none
theorem prepA_ok {H : Hp} {σ : L2.St} {pn : List Nat} : ∀ {ps : List P} {k : Nat} {F : Hp} {env env' : En} {Sl : Nat → Addr → Prop} {vs : List V} {os : List O} {ls : List (Option Nat)}, REnv F H σ env Sl → relA F σ vs ps → prepA pn k ps env = some (os, ls, env') →
    ∃ F' Sl', Step F H Sl F' H Sl' ∧ REnv F' H σ env' Sl' ∧ os.length = vs.length ∧ ls.length = vs.length ∧ ∀ j o v l, os[j]? = some o → vs[j]? = some v → ls[j]? = some l → (l = none → plainO o = true ∧ ∀ H' T, Own F' H' o v T) ∧ ∀ i, l = some i → k + j ∈ pn ∧ σ[i]? = some (some v)
  | [], k, F, env, env', Sl, vs, os, ls, R, h, e => by
    cases h
    cases e
    exact ⟨F, Sl, Step.refl, R, rfl, rfl, fun j o v l z => by simp at z⟩
  | p :: ps, k, F, env, env', Sl, vs, os, ls, R, h, e => by
    cases h with
    | cons a b =>
      unfold prepA at e
      split at e
      · rename_i i hi
        split at e
        · rename_i os' ls' e2 h2
          cases e
          obtain ⟨F2, Sl2, s2, R2, l2, l3, r2⟩ := prepA_ok R b h2
          refine ⟨F2, Sl2, s2, R2, by simp [l2], by simp [l3], fun j o v l x y z => ?_⟩
          cases j with
          | zero =>
            cases x; cases y; cases z
            refine ⟨(fun z => nomatch z), fun i' z => ?_⟩
            cases z
            split at hi
            · rename_i hk
              cases p with
              | var i2 => cases hi; exact ⟨hk, a⟩
              | val _ => cases hi
              | k _ _ => cases hi
            · cases hi
          | succ j =>
            obtain ⟨c1, c2⟩ := r2 j o v l x y z
            exact ⟨c1, fun i' w => by rw [show k + (j + 1) = k + 1 + j by omega]; exact c2 i' w⟩
        · cases e
      · split at e
        · rename_i o1 e1 h1
          split at e
          · rename_i os' ls' e2 h2
            cases e
            obtain ⟨F1, Sl1, s1, R1, p1, r1⟩ := oneA_ok R a h1
            obtain ⟨F2, Sl2, s2, R2, l2, l3, r2⟩ := prepA_ok R1 (b.mono fun _ _ => RP.mono s1.exF) h2
            refine ⟨F2, Sl2, s1.trans s2, R2, by simp [l2], by simp [l3], fun j o v l x y z => ?_⟩
            cases j with
            | zero =>
              cases x; cases y; cases z
              exact ⟨fun _ => ⟨p1, fun H' T => plain_own (r1 H' T) s2.exF p1⟩, (fun i z => nomatch z)⟩
            | succ j =>
              obtain ⟨c1, c2⟩ := r2 j o v l x y z
              exact ⟨c1, fun i' w => by rw [show k + (j + 1) = k + 1 + j by omega]; exact c2 i' w⟩
          · cases e
        · cases e
/-- nothing is lent -/
def prepX (ps : List P) (e : En) : Option (List O × En) := match prepA [] 0 ps e with
  | some (os, _, e2) => some (os, e2)
  | none => none
theorem prepX_ok {H : Hp} {σ : L2.St} {ps : List P} {F : Hp} {env env' : En} {Sl : Nat → Addr → Prop} {vs : List V} {os : List O} (R : REnv F H σ env Sl) (h : relA F σ vs ps) (e : prepX ps env = some (os, env')) :
    ∃ F' Sl', Step F H Sl F' H Sl' ∧ REnv F' H σ env' Sl' ∧ os.length = vs.length ∧ ∀ (k : Nat) (o : O) (v : V), os[k]? = some o → vs[k]? = some v → plainO o = true ∧ ∀ H' T, Own F' H' o v T := by
  unfold prepX at e
  split at e
  · rename_i os' ls e2 h1
    cases e
    obtain ⟨F2, Sl2, s2, R2, l2, l3, sp⟩ := prepA_ok R h h1
    refine ⟨F2, Sl2, s2, R2, l2, fun k o v x y => ?_⟩
    have hk : k < ls.length := by rw [l3, ← l2]; exact (List.getElem?_eq_some_iff.mp x).1
    obtain ⟨c1, c2⟩ := sp k o v _ x y (List.getElem?_eq_getElem hk)
    cases hl : ls[k] with
    | none => exact c1 hl
    | some i => exact absurd (c2 i hl).1 (by simp)
  · cases e
/-- no name lends twice -/
def lentsOk : List (Option Nat) → Bool
  | [] => true
  | none :: ls => lentsOk ls
  | some i :: ls => !(ls.contains (some i)) && lentsOk ls
theorem lents_inj : ∀ {ls : List (Option Nat)}, lentsOk ls = true → ∀ {j k i : Nat}, ls[j]? = some (some i) → ls[k]? = some (some i) → j = k
  | [], _, j, k, i, h, _ => by simp at h
  | none :: ls, h, j, k, i, h1, h2 => by
    cases j with
    | zero => simp at h1
    | succ j => cases k with
      | zero => simp at h2
      | succ k => exact congrArg Nat.succ (lents_inj (ls := ls) h (by simpa using h1) (by simpa using h2))
  | some i' :: ls, h, j, k, i, h1, h2 => by
    have h' : (!(ls.contains (some i')) && lentsOk ls) = true := h
    rw [Bool.and_eq_true, Bool.not_eq_true'] at h'
    have no : ∀ m : Nat, ls[m]? ≠ some (some i') := fun m z => by
      have : ls.contains (some i') = true := List.contains_iff_mem.mpr (List.mem_of_getElem? z)
      rw [h'.1] at this
      cases this
    cases j with
    | zero =>
      cases h1
      cases k with
      | zero => rfl
      | succ k => exact absurd (by simpa using h2) (no k)
    | succ j => cases k with
      | zero => cases h2; exact absurd (by simpa using h1) (no j)
      | succ k => exact congrArg Nat.succ (lents_inj (ls := ls) h'.2 (by simpa using h1) (by simpa using h2))
def lendA : List (Option Nat) → List O → En → Option (List O)
  | [], [], _ => some []
  | none :: ls, o :: os, e => (lendA ls os e).map (o :: ·)
  | some i :: ls, _ :: os, e => match e[i]? with
    | some (some o) => (lendA ls os e).map (o :: ·)
    | _ => none
  | _, _, _ => none
theorem lendA_ok : ∀ {ls : List (Option Nat)} {os os1 : List O} {e : En}, lendA ls os e = some os1 → os1.length = os.length ∧ ∀ j : Nat, (ls[j]? = some none → os1[j]? = os[j]?) ∧ ∀ i, ls[j]? = some (some i) → ∃ o, e[i]? = some (some o) ∧ os1[j]? = some o
  | [], [], os1, e, h => by cases h; exact ⟨rfl, fun j => ⟨fun z => by simp at z, fun i z => by simp at z⟩⟩
  | [], _ :: _, os1, e, h => nomatch h
  | none :: ls, [], os1, e, h => nomatch h
  | some _ :: ls, [], os1, e, h => nomatch h
  | none :: ls, o :: os, os1, e, h => by
    unfold lendA at h
    cases h1 : lendA ls os e with
    | none => rw [h1] at h; cases h
    | some r =>
      rw [h1] at h
      cases h
      obtain ⟨l, a⟩ := lendA_ok h1
      refine ⟨by simp [l], fun j => ?_⟩
      cases j with
      | zero => exact ⟨fun _ => rfl, (fun i z => by simp at z)⟩
      | succ j => simpa using a j
  | some i :: ls, o :: os, os1, e, h => by
    unfold lendA at h
    split at h
    · rename_i o2 ho
      cases h1 : lendA ls os e with
      | none => rw [h1] at h; cases h
      | some r =>
        rw [h1] at h
        cases h
        obtain ⟨l, a⟩ := lendA_ok h1
        refine ⟨by simp [l], fun j => ?_⟩
        cases j with
        | zero => exact ⟨(fun z => by simp at z), fun i' z => by cases z; exact ⟨o2, ho, rfl⟩⟩
        | succ j => simpa using a j
    · cases h
def backA : List (Option Nat) → List O → En → Option En
  | [], [], e => some e
  | none :: ls, _ :: os, e => backA ls os e
  | some i :: ls, o :: os, e => backA ls os (e.set i (some o))
  | _, _, _ => none
theorem backA_ok : ∀ {ls : List (Option Nat)} {os : List O} {e e' : En}, lentsOk ls = true → backA ls os e = some e' → e'.length = e.length ∧ (∀ i : Nat, (∀ j : Nat, ls[j]? ≠ some (some i)) → e'[i]? = e[i]?) ∧ ∀ (j i : Nat) (o : O), ls[j]? = some (some i) → os[j]? = some o → i < e.length → e'[i]? = some (some o)
  | [], [], e, e', _, h => by cases h; exact ⟨rfl, fun _ _ => rfl, fun j i o z => by simp at z⟩
  | [], _ :: _, e, e', _, h => nomatch h
  | none :: ls, [], e, e', _, h => nomatch h
  | some _ :: ls, [], e, e', _, h => nomatch h
  | none :: ls, o :: os, e, e', n, h => by
    obtain ⟨l, a, b⟩ := backA_ok (ls := ls) n h
    refine ⟨l, fun i z => a i fun j w => z (j + 1) (by simpa using w), fun j i o2 x y z => ?_⟩
    cases j with
    | zero => simp at x
    | succ j => exact b j i o2 (by simpa using x) (by simpa using y) z
  | some i0 :: ls, o :: os, e, e', n, h => by
    have n' : (!(ls.contains (some i0)) && lentsOk ls) = true := n
    rw [Bool.and_eq_true, Bool.not_eq_true'] at n'
    have no : ∀ m : Nat, ls[m]? ≠ some (some i0) := fun m z => by
      have : ls.contains (some i0) = true := List.contains_iff_mem.mpr (List.mem_of_getElem? z)
      rw [n'.1] at this
      cases this
    obtain ⟨l, a, b⟩ := backA_ok (ls := ls) n'.2 h
    rw [List.length_set] at l b
    refine ⟨l, fun i z => ?_, fun j i o2 x y z => ?_⟩
    · rw [a i fun j w => z (j + 1) (by simpa using w), List.getElem?_set_ne (fun w => z 0 (by rw [w]; rfl))]
    · cases j with
      | zero =>
        cases x; cases y
        rw [a i0 no, List.getElem?_set_self z]
      | succ j => exact b j i o2 (by simpa using x) (by simpa using y) z
def callP (pn : List Nat) (mf : MF) (ps : List P) (e : En) : Option (O × En) := match prepA pn 0 ps e with
  | some (os, ls, e2) => if lentsOk ls = true then match lendA ls os e2 with
    | some os1 => match mf os1 with
      | some (r, os') => match backA ls os' e2 with
        | some e3 => some (r, e3)
        | none => none
      | none => none
    | none => none else none
  | none => none
theorem call_core {F H : Hp} {σ : L2.St} {e1 e2 : En} {Sl : Nat → Addr → Prop} {vs : List V} {ps : List P} {pn : List Nat} {mf : MF} {r : O} {E : XK} (R1 : REnv F H σ e1 Sl) (r1 : relA F σ vs ps) (h : callP pn mf ps e1 = some (r, e2)) (Q : VK)
    (q : ∀ v F' H' Sl' T, Step F H Sl F' H' Sl' → REnv F' H' σ e2 Sl' → New F' H H' Sl' r v T → Q v H') : spOf pn mf vs H Q E := by
  unfold callP at h
  split at h
  case h_2 => cases h
  rename_i os ls e3 h3
  split at h
  case isFalse => cases h
  rename_i nd
  split at h
  case h_2 => cases h
  rename_i os1 h4
  split at h
  case h_2 => cases h
  rename_i r0 os' h5
  split at h
  case h_2 => cases h
  rename_i e4 h6
  cases h
  obtain ⟨F2, Sl2, s2, R2, l2, l3, sp⟩ := prepA_ok R1 r1 h3
  obtain ⟨la, aa⟩ := lendA_ok h4
  obtain ⟨lb, ab, bb⟩ := backA_ok nd h6
  have look : ∀ {j : Nat} {o : O}, os1[j]? = some o → ∃ v l, vs[j]? = some v ∧ ls[j]? = some l ∧ ((l = none ∧ plainO o = true ∧ ∀ H' T, Own F2 H' o v T) ∨ ∃ i, l = some i ∧ j ∈ pn ∧ σ[i]? = some (some v) ∧ e3[i]? = some (some o)) := fun {j o} hj => by
    have hl : j < vs.length := by rw [← l2, ← la]; exact (List.getElem?_eq_some_iff.mp hj).1
    have ho : os[j]? = some (os[j]'(by rw [l2]; exact hl)) := List.getElem?_eq_getElem _
    have hv : vs[j]? = some vs[j] := List.getElem?_eq_getElem hl
    have hls : ls[j]? = some (ls[j]'(by rw [l3]; exact hl)) := List.getElem?_eq_getElem _
    refine ⟨_, _, hv, hls, ?_⟩
    obtain ⟨c1, c2⟩ := sp j _ _ _ ho hv hls
    cases hc : ls[j]'(by rw [l3]; exact hl) with
    | none =>
      rw [hc] at hls
      rw [(aa j).1 hls, ho] at hj
      cases hj
      exact .inl ⟨rfl, c1 hc⟩
    | some i =>
      rw [hc] at hls
      obtain ⟨o2, x, y⟩ := (aa j).2 i hls
      rw [hj] at y
      cases y
      obtain ⟨d1, d2⟩ := c2 i hc
      exact .inr ⟨i, rfl, by rw [Nat.zero_add] at d1; exact d1, d2, x⟩
  refine ⟨F2, os1, fun k b => ∃ i, ls[k]? = some (some i) ∧ Sl2 i b, _, os', ⟨R2.ex, by rw [List.length_map, List.length_map, la, l2], fun j u hu => ?_, fun a b c ⟨i, x, y⟩ ⟨i', x', y'⟩ => ?_, fun k a ⟨i, _, z⟩ => R2.tr i a z, R2.tb.fewer fun k a ⟨i, _, z⟩ => ⟨i, z⟩⟩, fun k b ⟨i, x, z⟩ => ?_, fun k u hu n => ?_, h5, fun v F3 H3 Sl3 T s3 R3 hs3 n3 => ?_⟩
  · obtain ⟨v, l, hv, hls, c⟩ := look (args_at hu)
    refine ⟨v, by rw [List.getElem?_map, hv]; rfl, ?_⟩
    rcases c with ⟨_, _, w⟩ | ⟨i, rfl, _, hσ, he⟩
    · exact w _ _
    · obtain ⟨v2, e5, w⟩ := R2.at_ i u he
      rw [hσ] at e5
      cases e5
      exact w.sub fun a z => ⟨i, hls, z⟩
  · cases R2.dj i i' c y y'
    exact lents_inj nd x x'
  · have hk : k < vs.length := by rw [← l3]; exact (List.getElem?_eq_some_iff.mp x).1
    have := (sp k (os[k]'(by rw [l2]; exact hk)) vs[k] _ (List.getElem?_eq_getElem _) (List.getElem?_eq_getElem _) x).2 i rfl
    rw [Nat.zero_add] at this
    exact this.1
  · obtain ⟨v, l, hv, hls, c⟩ := look hu
    rcases c with ⟨_, p, _⟩ | ⟨i, _, hk, _⟩
    · exact p
    · exact absurd hk n
  · have R3l : vs.length = os'.length := by
      have := R3.len
      rw [List.length_map, List.length_map] at this
      exact this
    have s4 : Step F2 H Sl2 F3 H3 (fun i b => (∃ k, ls[k]? = some (some i) ∧ Sl3 k b) ∨ ((∀ k : Nat, ls[k]? ≠ some (some i)) ∧ Sl2 i b)) := by
      refine ⟨s3.exF, fun b u z n nt => s3.fr b u z (fun k ⟨i, _, y⟩ => n i y) nt, s3.tk, fun i b z => ?_, fun b u z => ?_, s3.tb⟩
      · rcases z with ⟨k, hk, z⟩ | ⟨_, z⟩
        · rcases s3.own k b z with ⟨i', hk', y⟩ | y
          · rw [hk] at hk'
            cases hk'
            exact .inl y
          · exact .inr y
        · exact .inl z
      · rcases s3.fz b u z with y | y | ⟨k, i, _, y⟩
        · exact .inl y
        · exact .inr (.inl y)
        · exact .inr (.inr ⟨i, y⟩)
    have apart : ∀ i k a, (∀ k : Nat, ls[k]? ≠ some (some i)) → Sl2 i a → ¬ Sl3 k a := fun i k a n x y => by
      rcases s3.own k a y with ⟨i', hk, z⟩ | z
      · cases R2.dj i i' a x z
        exact n k hk
      · obtain ⟨_, u, z'⟩ := R2.tr i a x
        rw [z] at z'
        cases z'
    have R4 : REnv F3 H3 σ e2 (fun i b => (∃ k, ls[k]? = some (some i) ∧ Sl3 k b) ∨ ((∀ k : Nat, ls[k]? ≠ some (some i)) ∧ Sl2 i b)) := by
      refine ⟨R3.ex, by rw [lb]; exact R2.len, fun i o hi => ?_, fun i j a x y => ?_, fun i a x => ?_, R2.tb.step s4⟩
      · by_cases hlt : ∃ k : Nat, ls[k]? = some (some i)
        · obtain ⟨k, hk⟩ := hlt
          have hkl : k < vs.length := by rw [← l3]; exact (List.getElem?_eq_some_iff.mp hk).1
          have hok : os'[k]? = some (os'[k]'(by rw [← R3l]; exact hkl)) := List.getElem?_eq_getElem _
          obtain ⟨o2, x, _⟩ := (aa k).2 i hk
          have := bb k i _ hk hok (List.getElem?_eq_some_iff.mp x).1
          rw [hi] at this
          cases this
          obtain ⟨v7, e8, w7⟩ := R3.at_ k _ (by rw [List.getElem?_map, hok]; rfl)
          have e9 := args_at e8
          obtain ⟨_, hσ⟩ := (sp k _ v7 _ (List.getElem?_eq_getElem (by rw [l2]; exact hkl)) e9 hk).2 i rfl
          exact ⟨v7, hσ, w7.sub fun a z => .inl ⟨k, hk, z⟩⟩
        · have n : ∀ k : Nat, ls[k]? ≠ some (some i) := fun k z => hlt ⟨k, z⟩
          rw [ab i n] at hi
          obtain ⟨v7, e8, w7⟩ := R2.at_ i o hi
          exact ⟨v7, e8, (w7.ext s3.exF fun a x s y => s3.fr a x y (fun m ⟨i', hm, z⟩ => by cases R2.dj i i' a s z; exact n m hm) (fun z => R2.tb.nS a i z s)).sub fun a s => .inr ⟨n, s⟩⟩
      · rcases x with ⟨k, hk, x⟩ | ⟨n1, x⟩
        · rcases y with ⟨k', hk', y⟩ | ⟨n2, y⟩
          · cases R3.dj k k' a x y
            rw [hk] at hk'
            cases hk'
            rfl
          · exact absurd x (apart j k a n2 y)
        · rcases y with ⟨k', hk', y⟩ | ⟨n2, y⟩
          · exact absurd y (apart i k' a n1 x)
          · exact R2.dj i j a x y
      · rcases x with ⟨k, hk, x⟩ | ⟨n1, x⟩
        · exact R3.tr k a x
        · obtain ⟨y1, u, y2⟩ := R2.tr i a x
          refine ⟨?_, s3.tk a u y2⟩
          cases z : F3 a with
          | none => rfl
          | some u' =>
            rcases s3.fz a u' z with y | y | ⟨k, i', hk, y⟩
            · rw [y1] at y; cases y
            · rw [y2] at y; cases y
            · cases R2.dj i i' a x y
              exact absurd hk (n1 k)
    refine q v F3 H3 _ T (s2.trans s4) R4 ⟨n3.own, fun i a x y => ?_, n3.tr, fun a x => s2.tkb (n3.nw a x)⟩
    rcases y with ⟨k, _, y⟩ | ⟨_, y⟩
    · exact n3.dj k a x y
    · obtain ⟨_, u, z⟩ := R2.tr i a y
      rw [n3.nw a x] at z
      cases z
/-- f(..): the lists that the names at the places pn alone hold may be changed -/
def mCall (pn : List Nat) (mf : MF) (ma : MA) : MO := bnd ma fun ps e => callP pn mf ps e
theorem ro_call {pu : Bool} {ta : TA} {ma : MA} {pn : List Nat} {mf : MF} {E : XK} (h : RA pu ta ma) : RO (tCall (spOf pn mf) [] E ta) (mCall pn mf ma) := by
  intro F H σ env Sl R o env' e Q q
  obtain ⟨ps, e1, h1, h2⟩ := bnd_of e
  refine h F H σ env Sl R ps _ h1 _ fun vs F1 H1 Sl1 s1 pu1 R1 r1 => ?_
  rw [List.append_nil]
  exact call_core R1 r1 h2 Q fun v F' H' Sl' T s R' n => q v F' H' Sl' T (s1.trans s) R' (n.mono0 fun _ z => s1.tkb z)
/-- what is new is fixed at once -/
def mFz (mo : MO) : ME := bnd mo fun o e => match o.dat with
  | some d => some (.val d, e)
  | none => none
theorem re_o {te : TE} {mo : MO} (h : RO te mo) : RE false te (mFz mo) := by
  intro F H σ env Sl R p env' e Q q
  obtain ⟨o, e1, h1, h2⟩ := bnd_of e
  split at h2
  · rename_i d hd
    cases h2
    refine h F H σ env Sl R o _ h1 Q fun v F1 H1 Sl1 T s1 R1 n => ?_
    have ex : Ex F1 (fixed F1 H1 T) := fun a u z => by
      rw [fixed_out fun y => by rw [(n.tr a y).1] at z; cases z]
      exact z
    have st : Step F H Sl (fixed F1 H1 T) H1 Sl1 := by
      refine ⟨s1.exF.trans ex, s1.fr, s1.tk, s1.own, fun b u z => ?_, s1.tb⟩
      by_cases t : T b
      · exact .inr (.inl (n.nw b t))
      · rw [fixed_out t] at z; exact s1.fz b u z
    refine q v (fixed F1 H1 T) H1 Sl1 st (fun z => nomatch z) ⟨fun b u z => ?_, R1.len, fun i u z => ?_, R1.dj, fun i a z => ?_, R.tb.step st⟩ (n.own.fix (fun a z => (n.tr a z).1) hd)
    · by_cases t : T b
      · rw [fixed_in t] at z; exact z
      · rw [fixed_out t] at z; exact R1.ex b u z
    · obtain ⟨v2, e2, w2⟩ := R1.at_ i u z
      exact ⟨v2, e2, w2.ext ex fun _ _ _ y => y⟩
    · obtain ⟨y1, y2⟩ := R1.tr i a z
      refine ⟨?_, y2⟩
      rw [fixed_out fun t => n.dj i a t z]
      exact y1
  · cases h2
end Tr
namespace Tr
open PySem PySem.Spec PyProof.Rows L2
variable [TC]

/-! ### powers of any base -/
/-- the result within 2 ^ 27 bits -/
def CPowX (i j : Int) : Prop := 0 ≤ j ∧ (Builtin.Int.intBits i : Int) * j ≤ 2 ^ 27
theorem op_powX {X : Cx} : OpR X (binaryOp .Pow) (rI CPowX fun i j => .int (i ^ j.toNat)) := opI fun _ _ _ _ _ _ _ hc q => pow_int hc.1 hc.2 q
theorem b_pow : BinK (rI CPowX fun i j => .int (i ^ j.toNat)) (gI (fun i j => decide (0 ≤ j ∧ (Builtin.Int.intBits i : Int) * j ≤ 2 ^ 27)) fun i j => .int (i ^ j.toNat)) := bin_I (fun i j h => show 0 ≤ j ∧ (Builtin.Int.intBits i : Int) * j ≤ 2 ^ 27 from of_decide_eq_true h) fun _ _ _ => rfl
/-! ### built-in functions -/
def gLen : En → List P → Option P := fun env ps => match ps with
  | [p] => match vw env p with
    | some (.list ds) => some (.val (.int (ds.length : Nat)))
    | some (.tuple ds) => some (.val (.int (ds.length : Nat)))
    | _ => none
  | _ => none
theorem f_len {K : PySem.W.Frag} : FnK (fun xs H Q => ∃ p ys, xs = [.ref p] ∧ (SqL K H p ys ∨ SqT K H p ys) ∧ Q (.int ys.length) H) gLen := by
  intro F H σ env Sl xs ps p R h e Q q
  unfold gLen at e
  split at e
  · rename_i p1
    cases h with
    | cons a t =>
      cases t
      split at e
      · rename_i ds h1
        cases e
        obtain ⟨b, ys, rfl, hs, hall⟩ := rp_list.mp (vw_rp R a h1)
        exact ⟨_, _, rfl, .inl (SqL.of hs), q _ F H (Ex.refl F) (Ex.refl H) R.ex (fun _ _ z => .inl z) (by show V.int _ = V.int _; rw [hall.len])⟩
      · rename_i ds h1
        cases e
        obtain ⟨b, ys, rfl, hs, hall⟩ := rp_tuple.mp (vw_rp R a h1)
        exact ⟨_, _, rfl, .inr (SqT.of hs), q _ F H (Ex.refl F) (Ex.refl H) R.ex (fun _ _ z => .inl z) (by show V.int _ = V.int _; rw [hall.len])⟩
      · cases e
  · cases e
def gInt : En → List P → Option P := fun _ ps => match ps with
  | [.val (.int i)] => some (.val (.int i))
  | [.val (.bool b)] => some (.val (.int (if b then 1 else 0)))
  | _ => none
theorem f_int : FnK (fun xs H Q => (∃ i, xs = [.int i] ∧ Q (.int i) H) ∨ ∃ k, xs = [.bl k] ∧ Q (.int (if k then 1 else 0)) H) gInt := by
  intro F H σ env Sl xs ps p R h e Q q
  unfold gInt at e
  split at e
  · cases e
    cases h with
    | cons a t => cases t; exact .inl ⟨_, by rw [pint a], q _ F H (Ex.refl F) (Ex.refl H) R.ex (fun _ _ z => .inl z) rfl⟩
  · cases e
    cases h with
    | cons a t => cases t; exact .inr ⟨_, by rw [pbool a], q _ F H (Ex.refl F) (Ex.refl H) R.ex (fun _ _ z => .inl z) rfl⟩
  · cases e
/-- all truth values -/
def allB : List PyData → Option (List Bool)
  | [] => some []
  | .bool b :: ds => (allB ds).map (b :: ·)
  | _ :: _ => none
theorem allB_ok {F : Hp} : ∀ {ds : List PyData} {vs : List V} {bs : List Bool}, All2 (Rp F) ds vs → allB ds = some bs → vs = bs.map V.bl
  | [], _, _, .nil, e => by cases e; rfl
  | .bool b :: ds, _, _, .cons r t, e => by
    unfold allB at e
    cases h : allB ds with
    | none => rw [h] at e; cases e
    | some bs' =>
      rw [h] at e
      cases e
      rw [allB_ok t h, rp_bool r]
      rfl
  | .none :: _, _, _, _, e => nomatch e
  | .int _ :: _, _, _, _, e => nomatch e
  | .str _ :: _, _, _, _, e => nomatch e
  | .list _ :: _, _, _, _, e => nomatch e
  | .tuple _ :: _, _, _, _, e => nomatch e
  | .dict _ :: _, _, _, _, e => nomatch e
def gAll : En → List P → Option P := fun env ps => match ps with
  | [p] => ((sq env p).bind allB).map fun bs => .val (.bool (bs.all id))
  | _ => none
theorem f_all {K : PySem.W.Frag} : FnK (rAll K) gAll := by
  intro F H σ env Sl xs ps p R h e Q q
  unfold gAll at e
  split at e
  · rename_i p1
    cases h with
    | cons a t =>
      cases t
      cases h1 : sq env p1 with
      | none => rw [h1] at e; cases e
      | some ds =>
        cases h2 : allB ds with
        | none => simp only [h1, Option.bind_some, h2] at e; cases e
        | some bs =>
          simp only [h1, Option.bind_some, h2, Option.map_some] at e
          cases e
          obtain ⟨l, vs, rfl, hl, r⟩ := sq_of R a h1
          have e2 := allB_ok r h2
          exact ⟨l, bs, rfl, SqL.of (by rw [← e2]; exact hl), q _ F H (Ex.refl F) (Ex.refl H) R.ex (fun _ _ z => .inl z) rfl⟩
  · cases e
/-- all whole numbers -/
def allI : List PyData → Option (List Int)
  | [] => some []
  | .int b :: ds => (allI ds).map (b :: ·)
  | _ :: _ => none
theorem allI_ok {F : Hp} : ∀ {ds : List PyData} {vs : List V} {bs : List Int}, All2 (Rp F) ds vs → allI ds = some bs → vs = bs.map V.int
  | [], _, _, .nil, e => by cases e; rfl
  | .int b :: ds, _, _, .cons r t, e => by
    unfold allI at e
    cases h : allI ds with
    | none => rw [h] at e; cases e
    | some bs' =>
      rw [h] at e
      cases e
      rw [allI_ok t h, rp_int r]
      rfl
  | .none :: _, _, _, _, e => nomatch e
  | .bool _ :: _, _, _, _, e => nomatch e
  | .str _ :: _, _, _, _, e => nomatch e
  | .list _ :: _, _, _, _, e => nomatch e
  | .tuple _ :: _, _, _, _, e => nomatch e
  | .dict _ :: _, _, _, _, e => nomatch e
theorem allI_map : ∀ ns : List Int, allI (ns.map .int) = some ns
  | [] => rfl
  | n :: ns => by show (allI (ns.map .int)).map _ = _; rw [allI_map ns]; rfl
theorem allB_map : ∀ ns : List Bool, allB (ns.map .bool) = some ns
  | [] => rfl
  | n :: ns => by show (allB (ns.map .bool)).map _ = _; rw [allB_map ns]; rfl
/-! isinstance(x, T), T a built-in class -/
def tyName : PyData → String
  | .none => "NoneType"
  | .bool _ => "bool"
  | .int _ => "int"
  | .str _ => "str"
  | .list _ => "list"
  | .tuple _ => "tuple"
  | .dict _ => "dict"
def isT (T : String) (d : PyData) : Bool := tyName d == T || (T == "int" && tyName d == "bool")
theorem kit_key : ∀ a ∈ ["NoneType", "bool", "int", "str", "list", "tuple", "dict"], ∀ T ∈ ["int", "bool", "list", "tuple", "str"], kitB a T = some (a == T || (T == "int" && a == "bool")) := by decide +kernel
theorem kit_is (T : String) (h : T ∈ ["int", "bool", "list", "tuple", "str"]) {K : PySem.W.Frag} (d : PyData) : PySem.W.kitOne K (.type (tyName d)) (.type T) = some (isT T d) := by
  refine kit_ty (kit_key (tyName d) ?_ T h)
  cases d <;> simp [tyName]
theorem tyx_of {K : PySem.W.Frag} {H : Hp} {d : PyData} {v : V} (h : Rp H d v) : TyX K H v (.type (tyName d)) := by
  cases d with
  | none => cases (show v = .non from h); exact .base .non
  | bool b => cases (show v = .bl b from h); exact .base (.bl _)
  | int i => cases (show v = .int i from h); exact .base (.int _)
  | str x => cases (show v = .str x from h); exact .base (.str _)
  | list ds =>
    obtain ⟨a, vs, rfl, h1, _⟩ := h
    exact .base (.lst h1)
  | tuple ds =>
    obtain ⟨a, vs, rfl, h1, _⟩ := h
    exact .base (.tup h1)
  | dict kvs =>
    obtain ⟨_, a, rfl, h1⟩ := h
    exact .base (.dK h1)
def mIsi (T : String) (me : ME) : ME := bnd me fun p e => (vw e p).map fun d => (.val (.bool (isT T d)), e)
theorem re_isi {K : PySem.W.Frag} {pu : Bool} {te : TE} {me : ME} (T : String) (h : RE pu te me) (hT : T ∈ ["int", "bool", "list", "tuple", "str"] := by simp) : RE pu (tCB (rIsi K) (tCons te (tCons (tC (.ty T)) tNil))) (mIsi T me) := by
  intro F H σ env Sl R p env' e Q q
  obtain ⟨p1, e1, h1, h2⟩ := bnd_of e
  cases h3 : vw e1 p1 with
  | none => rw [h3] at h2; cases h2
  | some d =>
    rw [h3] at h2
    cases h2
    refine h F H σ env Sl R p1 _ h1 _ fun r F1 H1 Sl1 s1 pu1 R1 r1 => ?_
    have t1 := tyx_of (K := K) (vw_rp R1 r1 h3)
    exact ⟨r, .ty T, .type (tyName d), .type T, isT T d, rfl, .ty T, t1, kit_is T hT d, q _ F1 H1 Sl1 s1 pu1 R1 rfl⟩
/-! x in xs, of things without parts -/
def flat : PyData → Bool
  | .none => true
  | .bool _ => true
  | .int _ => true
  | .str _ => true
  | _ => false
def gIn (neg : Bool) : En → P → P → Option P := fun env p q => match p with
  | .val d => match sqT env q with
    | some ds => if flat d && ds.all flat then some (.val (.bool (neg ^^ ds.any fun y => PyData.eqv y d))) else none
    | none => none
  | _ => none
theorem flat_v {F : Hp} {d : PyData} {v : V} (h : Rp F d v) (e : flat d = true) : flatV v = true := by
  cases d with
  | none => rw [rp_none h]; rfl
  | bool b => rw [rp_bool h]; rfl
  | int b => rw [rp_int h]; rfl
  | str b => rw [rp_str h]; rfl
  | list ds => cases e
  | tuple ds => cases e
  | dict _ => cases e
theorem flat_vs {F : Hp} {ds : List PyData} {vs : List V} (h : All2 (Rp F) ds vs) (e : ds.all flat = true) : vs.all flatV = true := by
  induction h with
  | nil => rfl
  | cons a t ih =>
    rw [List.all_cons, Bool.and_eq_true] at e ⊢
    exact ⟨flat_v a e.1, ih e.2⟩
theorem flat_eq {F F' : Hp} {d d' : PyData} {v v' : V} (h : Rp F d v) (h' : Rp F' d' v') (e : flat d = true) (e' : flat d' = true) : eqV v v' = PyData.eqv d d' := by
  cases d with
  | none => cases d' with
    | none => rw [rp_none h, rp_none h']; simp [eqV, PyData.eqv]
    | bool b => rw [rp_none h, rp_bool h']; simp [eqV, PyData.eqv]
    | int b => rw [rp_none h, rp_int h']; simp [eqV, PyData.eqv]
    | str b => rw [rp_none h, rp_str h']; simp [eqV, PyData.eqv]
    | list ds => cases e'
    | tuple ds => cases e'
    | dict _ => cases e'
  | bool a => cases d' with
    | none => rw [rp_bool h, rp_none h']; simp [eqV, PyData.eqv]
    | bool b => rw [rp_bool h, rp_bool h']; simp [eqV, PyData.eqv]
    | int b => rw [rp_bool h, rp_int h']; simp [eqV, PyData.eqv]
    | str b => rw [rp_bool h, rp_str h']; simp [eqV, PyData.eqv]
    | list ds => cases e'
    | tuple ds => cases e'
    | dict _ => cases e'
  | int a => cases d' with
    | none => rw [rp_int h, rp_none h']; simp [eqV, PyData.eqv]
    | bool b => rw [rp_int h, rp_bool h']; simp [eqV, PyData.eqv]
    | int b => rw [rp_int h, rp_int h']; simp [eqV, PyData.eqv]
    | str b => rw [rp_int h, rp_str h']; simp [eqV, PyData.eqv]
    | list ds => cases e'
    | tuple ds => cases e'
    | dict _ => cases e'
  | str a => cases d' with
    | none => rw [rp_str h, rp_none h']; simp [eqV, PyData.eqv]
    | bool b => rw [rp_str h, rp_bool h']; simp [eqV, PyData.eqv]
    | int b => rw [rp_str h, rp_int h']; simp [eqV, PyData.eqv]
    | str b => rw [rp_str h, rp_str h']; simp [eqV, PyData.eqv]
    | list ds => cases e'
    | tuple ds => cases e'
    | dict _ => cases e'
  | list ds => cases e
  | tuple ds => cases e
  | dict _ => cases e
theorem flat_any {F F' : Hp} {ds : List PyData} {vs : List V} {d : PyData} {v : V} (h : All2 (Rp F) ds vs) (h' : Rp F' d v) (e : ds.all flat = true) (e' : flat d = true) : inV v vs = ds.any fun y => PyData.eqv y d := by
  unfold inV
  induction h with
  | nil => rfl
  | cons a t ih =>
    rw [List.all_cons, Bool.and_eq_true] at e
    rw [List.any_cons, List.any_cons, flat_eq a h' e.1 e', ih e.2]
theorem b_in {K : PySem.W.Frag} (neg : Bool) : BinK (rIn K neg) (gIn neg) := by
  intro F H σ env Sl x y p1 p2 p R h1 h2 e Q q
  unfold gIn at e
  split at e
  · rename_i d
    split at e
    · rename_i ds h3
      split at e
      · rename_i hf
        cases e
        rw [Bool.and_eq_true] at hf
        have h1' : Rp F d x := h1
        have fin : ∀ (a : Addr) (vs : List V), (SqL K H a vs ∨ SqT K H a vs) → All2 (Rp F) ds vs → y = .ref a → rIn K neg x y H Q := fun a vs hs r ey => by
          refine ⟨a, vs, ey, hs, flat_v h1' hf.1, flat_vs r hf.2, ?_⟩
          rw [flat_any r h1' hf.2 hf.1]
          refine q _ F H (Ex.refl F) (Ex.refl H) R.ex (fun _ _ z => .inl z) ?_
          show V.bl _ = V.bl _
          cases neg
          · rw [Bool.false_xor]; rfl
          · rw [Bool.true_xor]; rfl
        unfold sqT at h3
        split at h3
        · cases h3
          obtain ⟨a, vs, rfl, hH, r⟩ := rp_tuple.mp (pr_val h2)
          exact fin a vs (.inr (SqT.of (R.ex _ _ hH))) r rfl
        · obtain ⟨a, vs, rfl, hH, r⟩ := sq_of R h2 h3
          exact fin a vs (.inl (SqL.of hH)) r rfl
      · cases e
    · cases e
  · cases e
/-! -x -/
def gNeg : En → P → Option P
  | _, .val (.int i) => some (.val (.int (-i)))
  | _, _ => none
theorem u_neg : UnK (rU fun i => .int (-i)) gNeg := by
  intro F H σ env Sl x p1 p R h e Q q
  unfold gNeg at e
  split at e
  · cases e
    exact ⟨_, pint h, q _ F H (Ex.refl F) (Ex.refl H) R.ex (fun _ _ z => .inl z) rfl⟩
  · cases e
/-! a < b < c -/
def mChain (g g' : En → P → P → Option P) (ma mb mc : ME) : ME := bnd ma fun p e => bnd mb (fun q e2 => match g e2 p q with
  | some (.val (.bool true)) => bnd mc (fun r e3 => (g' e3 q r).map fun z => (z, e3)) e2
  | some (.val (.bool false)) => some (.val (.bool false), e2)
  | _ => none) e
theorem re_chain {k k' : R2} {g g' : En → P → P → Option P} {pu pv pw : Bool} {ta tb tc : TE} {ma mb mc : ME} (hk : BinK k g) (hk' : BinK k' g') (ha : RE pu ta ma) (hb : RE pv tb mb) (hc : RE pw tc mc) : RE false (tChain k k' ta tb tc) (mChain g g' ma mb mc) := by
  intro F H σ env Sl R p env' e Q q
  obtain ⟨p1, e1, h1, h2⟩ := bnd_of e
  obtain ⟨p2, e2, h3, h4⟩ := bnd_of h2
  refine ha F H σ env Sl R p1 _ h1 _ fun x F1 H1 Sl1 s1 pu1 R1 r1 => ?_
  refine hb F1 H1 σ e1 Sl1 R1 p2 _ h3 _ fun y F2 H2 Sl2 s2 pu2 R2 r2 => ?_
  split at h4
  · rename_i h5
    refine hk F2 H2 σ e2 Sl2 x y p1 p2 _ R2 (r1.mono s2.exF) r2 h5 _ fun v F3 H3 f1 f2 f3 f4 r3 => ?_
    have R3 := R2.grow f1 f2 f3 f4
    have s3 := s1.trans (s2.trans (Step.grow (Sl := Sl2) f1 f2 f4))
    refine ⟨true, pbool r3, ?_⟩
    rw [if_pos rfl]
    obtain ⟨p3, e3, h6, h7⟩ := bnd_of h4
    cases h8 : g' e3 p2 p3 with
    | none => rw [h8] at h7; cases h7
    | some z =>
      rw [h8] at h7
      cases h7
      refine hc F3 H3 σ e2 Sl2 R3 p3 _ h6 _ fun w F4 H4 Sl4 s4 pu4 R4 r4 => ?_
      exact hk' F4 H4 σ _ Sl4 y w p2 p3 _ R4 ((r2.mono f1).mono s4.exF) r4 h8 Q fun v F5 H5 g1 g2 g3 g4 r5 => q v F5 H5 Sl4 (s3.trans (s4.trans (Step.grow g1 g2 g4))) (fun z => nomatch z) (R4.grow g1 g2 g3 g4) r5
  · rename_i h5
    cases h4
    refine hk F2 H2 σ _ Sl2 x y p1 p2 _ R2 (r1.mono s2.exF) r2 h5 _ fun v F3 H3 f1 f2 f3 f4 r3 => ?_
    refine ⟨false, pbool r3, ?_⟩
    rw [if_neg Bool.false_ne_true]
    exact q _ F3 H3 Sl2 (s1.trans (s2.trans (Step.grow f1 f2 f4))) (fun z => nomatch z) (R2.grow f1 f2 f3 f4) rfl
  · cases h4
end Tr
namespace Tr
open PySem PySem.Spec PyProof.Rows L2
variable [TC]

/-! ### a list apart from all that is fixed and all that the names hold -/
structure Sd (F H : Hp) (Sl : Nat → Addr → Prop) (r : Addr) (vs : List V) : Prop where
  f : F r = none
  h : H r = some (.lst vs)
  s : ∀ i, ¬ Sl i r
  t : ¬ isTab r
theorem Sd.step {F H F' H' : Hp} {Sl Sl' : Nat → Addr → Prop} {r : Addr} {vs : List V} (d : Sd F H Sl r vs) (s : Step F H Sl F' H' Sl') : Sd F' H' Sl' r vs := by
  refine ⟨?_, s.fr r _ d.h d.s d.t, fun i z => ?_, d.t⟩
  · cases q : F' r with
    | none => rfl
    | some o =>
      rcases s.fz r o q with y | y | ⟨j, y⟩
      · rw [d.f] at y; cases y
      · rw [d.h] at y; cases y
      · exact absurd y (d.s j)
  · rcases s.own i r z with y | y
    · exact d.s i y
    · rw [d.h] at y; cases y
theorem Sd.upd {F H : Hp} {Sl : Nat → Addr → Prop} {r p : Addr} {vs : List V} {u : HO} (d : Sd F H Sl r vs) (n : r ≠ p) : Sd F (upd H p u) Sl r vs := ⟨d.f, by rw [upd_ne n]; exact d.h, d.s, d.t⟩
/-- the rows that stand at rs, apart -/
def Rows (F H : Hp) (Sl : Nat → Addr → Prop) (rows : List (List PyData)) (rs : List Addr) : Prop := All2 (fun row r => ∃ vs, Sd F H Sl r vs ∧ All2 (Rp F) row vs) rows rs
theorem Rows.step {F H F' H' : Hp} {Sl Sl' : Nat → Addr → Prop} {rows : List (List PyData)} {rs : List Addr} (d : Rows F H Sl rows rs) (s : Step F H Sl F' H' Sl') : Rows F' H' Sl' rows rs :=
  d.mono fun _ _ ⟨vs, a, b⟩ => ⟨vs, a.step s, all_mono s.exF b⟩
theorem Rows.upd {F H : Hp} {Sl : Nat → Addr → Prop} {rows : List (List PyData)} {rs : List Addr} {p : Addr} {u : HO} (d : Rows F H Sl rows rs) (n : p ∉ rs) : Rows F (upd H p u) Sl rows rs :=
  d.monoM fun _ r _ hr ⟨vs, a, b⟩ => ⟨vs, a.upd (fun e => n (e ▸ hr)), b⟩
def mLc2Go (mg : PyData → En → Option En) (mt : MT) (mo : MO) (vs : List Nat) : List PyData → List (List PyData) → En → Option (List (List PyData) × En)
  | [], acc, env => some (acc, env)
  | d :: ds, acc, env => match mg d env with
    | some e1 => match mt e1 with
      | some (true, e2) => match mo e2 with
        | some (.ow row, e3) => if acc.length < sizeLine then mLc2Go mg mt mo vs ds (acc ++ [row]) (wipeE e3 vs) else none
        | _ => none
      | some (false, e2) => mLc2Go mg mt mo vs ds acc (wipeE e2 vs)
      | none => none
    | none => none
/-- a comprehension whose items are new lists: all held -/
def mLc2 (mi : ML) (mg : PyData → En → Option En) (mt : MT) (mo : MO) (vs : List Nat) : MO := bnd mi fun ds e => (mLc2Go mg mt mo vs ds [] (wipeE e vs)).map fun r => (.ow2 r.1, r.2)
theorem ro_lc2 {wi : TI} {g : TG} {tt : TT} {te : TE} {vs is : List Nat} {mi : ML} {mg : PyData → En → Option En} {mt : MT} {mo : MO} {pt : Bool} (hi : RI wi mi) (hg : RT' is g mg) (ht : RT pt tt mt) (he : RO te mo) (hs : ∀ i ∈ is, i ∈ vs := by decide) :
    RO (tLc wi g tt te vs) (mLc2 mi mg mt mo vs) := by
  intro F H σ env Sl R o env' e Q q
  obtain ⟨xs, e0, h1, h2⟩ := bnd_of e
  cases h3 : mLc2Go mg mt mo vs xs [] (wipeE e0 vs) with
  | none => rw [h3] at h2; cases h2
  | some re =>
    obtain ⟨rows, e9⟩ := re
    rw [h3] at h2
    cases h2
    refine hi F H σ env Sl R xs _ h1 _ fun J F1 H1 Sl1 s1 R1 hJ => ?_
    intro p np
    obtain ⟨Sl2, R2, k2⟩ := R1.wiped (vs := vs)
    have n2 : ∀ i, ¬ Sl2 i p := fun i z => fresh_notin R1 np i (k2 i p z)
    have R3 : REnv F1 (upd H1 p (.lst [])) (wipe σ vs) (wipeE e0 vs) Sl2 := R2.side (R1.ex.none np) n2 (slo_none np)
    have s3 : Step F1 H1 Sl1 F1 (upd H1 p (.lst [])) Sl2 := (Step.fewer k2).trans (Step.grow (Ex.refl F1) (Ex.new np) fun _ _ z => .inl z)
    refine ⟨fun i m Hi => ∃ Fi Sli envi acc rs, i ≤ xs.length ∧ m = xs.length - i ∧ REnv Fi Hi (wipe σ vs) envi Sli ∧ Step F1 H1 Sl1 Fi Hi Sli ∧ mLc2Go mg mt mo vs (xs.drop i) acc envi = some (rows, e9) ∧ Rows Fi Hi Sli acc rs ∧ Sd Fi Hi Sli p (rs.map V.ref) ∧ p ∉ rs ∧ rs.Nodup ∧ ∀ r ∈ rs, H1 r = none, ?_, ?_⟩
    · exact ⟨xs.length, F1, Sl2, wipeE e0 vs, [], [], Nat.zero_le _, by omega, R3, s3, h3, .nil, ⟨R1.ex.none np, upd_same, n2, notT0 R1.tb.tabs np⟩, by simp, List.nodup_nil, by simp⟩
    · rintro i m Hi ⟨Fi, Sli, envi, acc, rs, hil, hm, Ri, si, go, ra, dp, prs, nd, nw⟩
      cases hx : xs[i]? with
      | none =>
        have hge : xs.length ≤ i := List.getElem?_eq_none_iff.mp hx
        rw [List.drop_eq_nil_of_le hge] at go
        have go' : some (acc, envi) = some (rows, e9) := go
        cases go'
        refine .inl ⟨(hJ Fi Hi si.exF Ri.ex i).2 hx, ?_⟩
        refine q _ Fi Hi Sli (fun a => a = p ∨ a ∈ rs) (s1.trans si) Ri.unwipe ⟨⟨p, rs, rfl, .inl rfl, dp.h, prs, nd, ra.monoM fun row r _ hr ⟨ws, a, b⟩ => ⟨.inr hr, ws, a.h, b⟩⟩, fun j a z y => ?_, fun a z => ?_, fun a z => ?_⟩
        · rcases z with rfl | z
          · exact dp.s j y
          · obtain ⟨k, hk⟩ := List.mem_iff_getElem?.mp z
            obtain ⟨row, _, ws, sd, _⟩ := ra.getR hk
            exact sd.s j y
        · rcases z with rfl | z
          · exact ⟨dp.f, _, dp.h⟩
          · obtain ⟨k, hk⟩ := List.mem_iff_getElem?.mp z
            obtain ⟨row, _, ws, sd, _⟩ := ra.getR hk
            exact ⟨sd.f, _, sd.h⟩
        · rcases z with rfl | z
          · exact s1.tkb np
          · exact s1.tkb (nw a z)
      | some d =>
        have hlt : i < xs.length := (List.getElem?_eq_some_iff.mp hx).1
        have hd : xs.drop i = d :: xs.drop (i + 1) := by
          rw [List.drop_eq_getElem_cons hlt]
          have := (List.getElem?_eq_some_iff.mp hx).2
          rw [this]
        rw [hd] at go
        unfold mLc2Go at go
        obtain ⟨jg, jy⟩ := (hJ Fi Hi si.exF Ri.ex i).1 d hx
        refine .inr ⟨jg, fun H' => ∃ Fi Sli envi acc rs, i + 1 ≤ xs.length ∧ REnv Fi H' (wipe σ vs) envi Sli ∧ Step F1 H1 Sl1 Fi H' Sli ∧ mLc2Go mg mt mo vs (xs.drop (i + 1)) acc envi = some (rows, e9) ∧ Rows Fi H' Sli acc rs ∧ Sd Fi H' Sli p (rs.map V.ref) ∧ p ∉ rs ∧ rs.Nodup ∧ ∀ r ∈ rs, H1 r = none,
          fun H' ⟨Fj, Slj, envj, accj, rsj, z1, z2⟩ => ⟨xs.length - (i + 1), by omega, Fj, Slj, envj, accj, rsj, z1, rfl, z2⟩, fun x H' hy => ?_⟩
        obtain ⟨Fj, f1, f2, f3, f4, f5⟩ := jy x H' hy
        have Rj : REnv Fj H' (wipe σ vs) envi Sli := Ri.grow f1 f2 f3 f4
        have sg : Step Fi Hi Sli Fj H' Sli := Step.grow f1 f2 f4
        cases hg1 : mg d envi with
        | none => rw [hg1] at go; cases go
        | some e1 =>
          rw [hg1] at go
          refine hg Fj H' (wipe σ vs) envi Sli x d Rj f5 e1 hg1 _ fun σ2 Sl4 R4 k4 p4 l4 => ?_
          have hl4 : σ2.length = σ.length := by rw [l4, wipe_length]
          have weq : wipe σ2 vs = wipe σ vs := wipe_eq p4 hl4 hs
          refine ⟨weq, ?_⟩
          have sg4 : Step Fi Hi Sli Fj H' Sl4 := sg.trans (Step.fewer k4)
          cases ht1 : mt e1 with
          | none => simp only [ht1] at go; cases go
          | some tb =>
            obtain ⟨b, e2⟩ := tb
            simp only [ht1] at go
            refine ht Fj H' σ2 e1 Sl4 R4 b e2 ht1 _ fun b' F5 H5 Sl5 s5 pu5 R5 rb => ?_
            cases rb
            have s5' := sg4.trans s5
            cases b with
            | false =>
              rw [if_neg Bool.false_ne_true]
              obtain ⟨Sl6, R6, k6⟩ := step_wiped (σ := σ) (vs := vs) R5 weq
              have s6 := s5'.trans (Step.fewer k6)
              exact ⟨F5, Sl6, _, acc, rs, hlt, R6, si.trans s6, go, ra.step s6, dp.step s6, prs, nd, nw⟩
            | true =>
              rw [if_pos rfl]
              cases he1 : mo e2 with
              | none => simp only [he1] at go; cases go
              | some pe3 =>
                obtain ⟨oo, e3⟩ := pe3
                simp only [he1] at go
                cases oo with
                | fz _ => cases go
                | rg _ _ => cases go
                | sc _ _ => cases go
                | kt _ _ => cases go
                | ob _ _ _ => cases go
                | tp _ => cases go
                | dk _ => cases go
                | dt _ => cases go
                | dd _ => cases go
                | ro _ _ => cases go
                | ow2 _ => cases go
                | ow row =>
                  simp only at go
                  split at go
                  · rename_i hlen
                    refine he F5 H5 σ2 e2 Sl5 R5 _ e3 he1 _ fun v F6 H6 Sl6 T s6 R6 n6 => ?_
                    obtain ⟨a, ws, rfl, ta, ha, rr⟩ := n6.own
                    obtain ⟨Sl8, R8, k8⟩ := step_wiped (σ := σ) (vs := vs) R6 weq
                    have s8 := s5'.trans (s6.trans (Step.fewer k8))
                    have dp5 := dp.step s5'
                    have dp8 := dp.step s8
                    have na5 : H5 a = none := n6.nw a ta
                    have nap : a ≠ p := fun z => by rw [z, dp5.h] at na5; cases na5
                    have nar : a ∉ rs := fun z => by
                      obtain ⟨k, hk⟩ := List.mem_iff_getElem?.mp z
                      obtain ⟨row', _, ws', sd, _⟩ := (ra.step s5').getR hk
                      rw [sd.h] at na5
                      cases na5
                    have sda : Sd F6 H6 Sl8 a ws := ⟨(n6.tr a ta).1, ha, fun j z => n6.dj j a ta (k8 j a z), notT R6.tb.tabs ha⟩
                    have ra8 : Rows F6 H6 Sl8 (acc ++ [row]) (rs ++ [a]) := (ra.step s8).snoc ⟨ws, sda, rr⟩
                    have prs8 : p ∉ rs ++ [a] := by
                      rw [List.mem_append]
                      rintro (z | z)
                      · exact prs z
                      · exact nap (List.mem_singleton.mp z).symm
                    refine ⟨rs.map V.ref, dp8.h, by rw [List.length_map, ← ra.len]; exact hlen, F6, Sl8, _, acc ++ [row], rs ++ [a], hlt, R8.side dp8.f dp8.s (slo_of dp8.h), (si.trans s8).side np (slo_of dp8.h), go, ra8.upd prs8, ⟨dp8.f, ?_, dp8.s, dp8.t⟩, prs8, ?_, fun r hr => ?_⟩
                    · rw [upd_same, List.map_append]; rfl
                    · exact List.nodup_append.mpr ⟨nd, by simp, fun x hx y hy => by
                        have : y = a := by simpa using hy
                        rw [this]
                        exact fun z => nar (z ▸ hx)⟩
                    · rcases List.mem_append.mp hr with z | z
                      · exact nw r z
                      · have : r = a := by simpa using z
                        rw [this]
                        exact si.tkb (s5'.tkb na5)
                  · cases go
/-! a loop that hands over the rows of a new list, one after the other -/
def mForMGo (i : Nat) (mb : MS) : List (List PyData) → MS
  | [], env => some (.nx, env)
  | row :: rows, env => match mb (env.set i (some (.ow row))) with
    | some (.nx, e2) => mForMGo i mb rows e2
    | some (.ct, e2) => mForMGo i mb rows e2
    | some (.bk, e2) => some (.nx, e2)
    | some (.rt o, e2) => some (.rt o, e2)
    | none => none
def mForM (mo : MO) (i : Nat) (mb : MS) : MS := bnd mo fun o e => match o with
  | .ow2 rows => mForMGo i mb rows e
  | _ => none
theorem rs_forM {K : PySem.W.Frag} {pn : List Nat} {te : TE} {tb : TS} {mo : MO} {mb : MS} {i : Nat} (h : RO te mo) (hb : RS pn tb mb) (hp : i ∉ pn := by decide) : RS pn (tFor (iList K te) (gName i) tb) (mForM mo i mb) := by
  intro F H σ env Sl R c env' e D q
  obtain ⟨o, e0, h1, h2⟩ := bnd_of e
  cases o with
  | fz _ => cases h2
  | rg _ _ => cases h2
  | sc _ _ => cases h2
  | kt _ _ => cases h2
  | ob _ _ _ => cases h2
  | tp _ => cases h2
  | dk _ => cases h2
  | dt _ => cases h2
  | dd _ => cases h2
  | ro _ _ => cases h2
  | ow _ => cases h2
  | ow2 rows =>
    refine h F H σ env Sl R _ _ h1 _ fun v F1 H1 Sl1 T s1 R1 n1 => ?_
    obtain ⟨a, rs, rfl, ta, ha, nar, nd, rr⟩ := n1.own
    refine ⟨a, rfl, ⟨_, SqL.of ha⟩, ?_⟩
    have sd : Sd F1 H1 Sl1 a (rs.map V.ref) := ⟨(n1.tr a ta).1, ha, fun j z => n1.dj j a ta z, notT R1.tb.tabs ha⟩
    have rw1 : Rows F1 H1 Sl1 rows rs := rr.mono fun row r ⟨tr, ws, hr, ra⟩ => ⟨ws, ⟨(n1.tr r tr).1, hr, fun j z => n1.dj j r tr z, notT R1.tb.tabs hr⟩, ra⟩
    have nw : ∀ r ∈ rs, H r = none := fun r hr => by
      obtain ⟨k, hk⟩ := List.mem_iff_getElem?.mp hr
      obtain ⟨row, _, tr, _⟩ := rr.getR hk
      exact n1.nw r tr
    have hlen := rr.len
    refine ⟨fun k m σi Hi => ∃ Fi Sli envi, k ≤ rows.length ∧ m = rows.length - k ∧ REnv Fi Hi σi envi Sli ∧ Step F H Sl Fi Hi Sli ∧ (∀ j, j ∈ pn → σi[j]? = σ[j]?) ∧ Sd Fi Hi Sli a (rs.map V.ref) ∧ Rows Fi Hi Sli (rows.drop k) (rs.drop k) ∧ mForMGo i mb (rows.drop k) envi = some (c, env'), ⟨rows.length, F1, Sl1, e0, Nat.zero_le _, by omega, R1, s1, fun _ _ => rfl, sd, rw1, h2⟩, ?_⟩
    rintro k m σi Hi ⟨Fi, Sli, envi, hk, hm, Ri, si, pi, sdi, rwi, go⟩
    have hs : SqL K Hi a (rs.map V.ref) := SqL.of sdi.h
    cases hx : rows[k]? with
    | none =>
      have hge : rows.length ≤ k := List.getElem?_eq_none_iff.mp hx
      rw [List.drop_eq_nil_of_le hge] at go
      have go' : some (Ctl.nx, envi) = some (c, env') := go
      cases go'
      exact .inl ⟨⟨_, hs, by rw [List.length_map, ← hlen]; exact hge⟩, q Fi Hi σi Sli si Ri pi⟩
    | some row =>
      have hlt : k < rows.length := (List.getElem?_eq_some_iff.mp hx).1
      have hltr : k < rs.length := by omega
      have hd : rows.drop k = row :: rows.drop (k + 1) := by
        rw [List.drop_eq_getElem_cons hlt]
        have := (List.getElem?_eq_some_iff.mp hx).2
        rw [this]
      have hdr : rs.drop k = rs[k] :: rs.drop (k + 1) := List.drop_eq_getElem_cons hltr
      rw [hd] at go
      unfold mForMGo at go
      rw [hd, hdr] at rwi
      cases rwi with
      | cons r0 rt =>
        obtain ⟨ws, sdr, rar⟩ := r0
        have gx : (rs.map V.ref)[k]? = some (.ref rs[k]) := by rw [List.getElem?_map, List.getElem?_eq_getElem hltr]; rfl
        refine .inr ⟨⟨_, _, hs, gx⟩, fun σ' H' => ∃ Fj Slj envj, k + 1 ≤ rows.length ∧ REnv Fj H' σ' envj Slj ∧ Step F H Sl Fj H' Slj ∧ (∀ j, j ∈ pn → σ'[j]? = σ[j]?) ∧ Sd Fj H' Slj a (rs.map V.ref) ∧ Rows Fj H' Slj (rows.drop (k + 1)) (rs.drop (k + 1)) ∧ mForMGo i mb (rows.drop (k + 1)) envj = some (c, env'),
          fun σ' H' ⟨Fj, Slj, envj, z1, z2⟩ => ⟨rows.length - (k + 1), by omega, Fj, Slj, envj, z1, rfl, z2⟩, fun x H' hy => ?_⟩
        obtain ⟨rfl, f⟩ := hy
        have ex : x = .ref rs[k] := Option.some.inj ((f _ hs).symm.trans gx)
        subst ex
        have R2 := Ri.put (i := i) (o := .ow row) (v := .ref rs[k]) (T := fun b => b = rs[k]) ⟨rs[k], ws, rfl, rfl, sdr.h, rar⟩ (fun j b z y => absurd (z ▸ y) (sdr.s j)) (fun b z => by rw [z]; exact ⟨sdr.f, _, sdr.h⟩) fun b z => by rw [z]; exact sdr.t
        have hnr : H rs[k] = none := nw _ (List.getElem_mem hltr)
        have s2 : Step F H Sl Fi H' (fun j b => (j ≠ i ∧ Sli j b) ∨ (j = i ∧ b = rs[k])) :=
          ⟨si.exF, si.fr, si.tk, fun j b z => z.elim (fun y => si.own j b y.2) fun y => .inr (by rw [y.2]; exact hnr), si.fz, si.tb⟩
        have p2 : ∀ j, j ∈ pn → (σi.set i (some (V.ref rs[k])))[j]? = σ[j]? := fun j z => (pin_set j (by simp; intro y; exact hp (y ▸ z))).trans (pi j z)
        have nk : rs[k] ∉ rs.drop (k + 1) := fun z => by
          have := nd.sublist (List.drop_sublist k rs)
          rw [hdr] at this
          exact (List.nodup_cons.mp this).1 z
        have nka : rs[k] ≠ a := fun z => nar (by rw [← z]; exact List.getElem_mem hltr)
        have sd2 : Sd Fi H' (fun j b => (j ≠ i ∧ Sli j b) ∨ (j = i ∧ b = rs[k])) a (rs.map V.ref) := ⟨sdi.f, sdi.h, fun j z => z.elim (fun y => sdi.s j y.2) fun y => nka y.2.symm, sdi.t⟩
        have rt2 : Rows Fi H' (fun j b => (j ≠ i ∧ Sli j b) ∨ (j = i ∧ b = rs[k])) (rows.drop (k + 1)) (rs.drop (k + 1)) :=
          rt.monoM fun row' r' _ hr ⟨ws', z1, z2⟩ => ⟨ws', ⟨z1.f, z1.h, fun j z => z.elim (fun y => z1.s j y.2) fun y => nk (by rw [← y.2]; exact hr), z1.t⟩, z2⟩
        have q2 := q.step s2 p2
        cases hb1 : mb (envi.set i (some (.ow row))) with
        | none => simp only [hb1] at go; cases go
        | some ce =>
          obtain ⟨c1, e2⟩ := ce
          simp only [hb1] at go
          refine hb Fi H' _ _ _ R2 c1 e2 hb1 _ ?_
          cases c1 with
          | nx => exact fun F' H'' σ' Sl' s' R' p' => ⟨F', Sl', e2, hlt, R', s2.trans s', fun j z => (p' j z).trans (p2 j z), sd2.step s', rt2.step s', go⟩
          | ct => exact fun F' H'' σ' Sl' s' R' p' => ⟨F', Sl', e2, hlt, R', s2.trans s', fun j z => (p' j z).trans (p2 j z), sd2.step s', rt2.step s', go⟩
          | bk => cases go; exact q2
          | rt o => cases go; exact q2
/-! a cut of the script -/
open Classical in
noncomputable def mSlS (K : PySem.W.Frag) (i : Nat) (ml mh : MP) : ML := fun env => match env[i]? with
  | some (some (.sc _ _)) => (bnd ml fun lo e2 => bnd mh (fun hi e3 => match e3[i]? with
    | some (some (.sc K' ns)) => if K' = K then some (cutD (ns.map .int) lo hi, e3) else none
    | _ => none) e2) env
  | _ => none
theorem all_ints {F : Hp} : ∀ ns : List Int, All2 (Rp F) (ns.map .int) (ns.map V.int)
  | [] => .nil
  | n :: ns => .cons rfl (all_ints ns)
theorem cut_all {R : PyData → V → Prop} {ds : List PyData} {vs : List V} (r : All2 R ds vs) (lo hi : Option Int) : All2 R (cutD ds lo hi) (cutV vs lo hi) := by
  unfold cutD cutV
  rw [r.len]
  exact (r.drop _).take _
theorem rl_slS {K : PySem.W.Frag} {pv pw : Bool} {i : Nat} {tl th : TO} {ml mh : MP} (hl : RQ pv tl ml) (hh : RQ pw th mh) : RL false (tSl (rSlL K) (tVar i) tl th) (mSlS K i ml mh) := by
  intro F H σ env Sl R ds env' e Q q
  unfold mSlS at e
  split at e
  · rename_i K0 ns0 h0
    obtain ⟨v, hv, _⟩ := R.at_ i _ h0
    obtain ⟨lo, e2, h3, h4⟩ := bnd_of e
    obtain ⟨hi, e3, h5, h6⟩ := bnd_of h4
    split at h6
    · rename_i K' ns h7
      split at h6
      · rename_i hK
        subst hK
        cases h6
        refine ⟨v, hv, ?_⟩
        refine hl F H σ env Sl R lo _ h3 _ fun r' F2 H2 Sl2 s2 pu2 R2 r2 => ?_
        cases r2
        refine hh F2 H2 σ e2 Sl2 R2 hi _ h5 _ fun r'' F3 H3 Sl3 s3 pu3 R3 r3 => ?_
        cases r3
        obtain ⟨v', hv', a, rfl, hs⟩ := R3.at_ i _ h7
        rw [hv] at hv'
        cases hv'
        exact ⟨a, _, rfl, ex_sq R3.ex hs, fun b nb => q b _ F3 H3 Sl3 (s2.trans s3) (fun z => nomatch z) R3 (cut_all (all_ints ns) lo hi) nb⟩
      · cases h6
    · cases h6
  · cases e
/-! lists of lists that a name alone holds: read and written by two places -/
def mIx2 (j : Nat) (ma mb : ME) : ME := fun env => match env[j]? with
  | some (some (.ow2 _)) => (bnd ma fun p e => match p, e[j]? with
    | .val (.int a), some (some (.ow2 rows)) => match atI rows a with
      | some row => bnd mb (fun q e2 => match q with
        | .val (.int b) => (atI row b).map fun d => (.val d, e2)
        | _ => none) e
      | none => none
    | _, _ => none) env
  | _ => none
theorem re_ix2 {K : PySem.W.Frag} {pu : Bool} {j : Nat} {ta tb : TE} {ma mb : ME} (ha : RE pu ta ma) (hb : RE true tb mb) : RE false (tOp (rIx K) (tOp (rIx K) (tVar j) ta) tb) (mIx2 j ma mb) := by
  intro F H σ env Sl R p env' e Q q
  unfold mIx2 at e
  split at e
  · rename_i rows0 h0
    obtain ⟨v, hv, _⟩ := R.at_ j _ h0
    obtain ⟨p1, e1, h1, h2⟩ := bnd_of e
    split at h2
    · rename_i a rows h3
      split at h2
      · rename_i row h4
        obtain ⟨p2, e2, h5, h6⟩ := bnd_of h2
        split at h6
        · rename_i b
          cases h7 : atI row b with
          | none => rw [h7] at h6; cases h6
          | some d =>
            rw [h7] at h6
            cases h6
            refine ⟨v, hv, ?_⟩
            refine ha F H σ env Sl R _ _ h1 _ fun x F1 H1 Sl1 s1 pu1 R1 r1 => ?_
            obtain ⟨v', hv', ad, rs, rfl, _, hA, _, _, rr⟩ := R1.at_ j _ h3
            rw [hv] at hv'
            cases hv'
            obtain ⟨r, hr, sr, ws, hw, rw⟩ := atI_all rr h4
            have hr' : atI (rs.map V.ref) a = some (.ref r) := by
              unfold atI at hr ⊢
              rw [List.length_map]
              cases z : ixN rs.length a with
              | none => rw [z] at hr; cases hr
              | some k =>
                rw [z] at hr
                show (rs.map V.ref)[k]? = _
                rw [List.getElem?_map, show rs[k]? = some r from hr]
                rfl
            refine .inl ⟨ad, _, a, .ref r, rfl, pint r1, SqL.of hA, hr', ?_⟩
            refine hb F1 H1 σ e1 Sl1 R1 _ _ h5 _ fun y F2 H2 Sl2 s2 pu2 R2 r2 => ?_
            obtain ⟨_, exh, _⟩ := pu2 rfl
            obtain ⟨v2, hv2, rv2⟩ := atI_all rw h7
            exact .inl ⟨r, ws, b, v2, rfl, pint r2, SqL.of (exh _ _ hw), hv2, q _ F2 H2 Sl2 (s1.trans s2) (fun z => nomatch z) R2 (Rp.mono s2.exF rv2)⟩
        · cases h6
      · cases h2
    · cases h2
  · cases e
end Tr
namespace Tr
open PySem PySem.Spec PyProof.Rows L2
variable [TC]

abbrev gMul : En → P → P → Option P := gI (fun i j => decide (i.natAbs.log2 + j.natAbs.log2 < 1000000)) fun i j => .int (i * j)
abbrev gFdiv : En → P → P → Option P := gI (fun _ j => decide (j ≠ 0 ∧ j.natAbs < 1073741824)) fun i j => .int (i.fdiv j)
abbrev gMod : En → P → P → Option P := gI (fun _ j => decide (j ≠ 0)) fun i j => .int (i.fmod j)
abbrev gPow : En → P → P → Option P := gI (fun i j => decide (0 ≤ j ∧ (Builtin.Int.intBits i : Int) * j ≤ 2 ^ 27)) fun i j => .int (i ^ j.toNat)
/-! list(range(..)), list(xs) -/
theorem rgV_all {F : Hp} {a b : Int} : All2 (Rp F) (rgD a (b - a).toNat) (rgV a b) := by
  unfold rgD rgV
  generalize List.range (b - a).toNat = l
  induction l with
  | nil => exact .nil
  | cons x t ih => exact .cons rfl ih
def okRg (a b : Int) : Bool := decide (-(2 ^ 62) ≤ a ∧ a < 2 ^ 62 ∧ -(2 ^ 62) ≤ b ∧ b < 2 ^ 62 ∧ (b - a).toNat ≤ 2 ^ 24)
theorem okRg_of {a b : Int} (h : okRg a b = true) : RgOk a b := show -(2 ^ 62) ≤ a ∧ a < 2 ^ 62 ∧ -(2 ^ 62) ≤ b ∧ b < 2 ^ 62 ∧ (b - a).toNat ≤ 2 ^ 24 from of_decide_eq_true h
def mLRg1 (ma : ME) : ML := bnd ma fun p e => match p with
  | .val (.int n) => if okRg 0 n then some (rgD 0 n.toNat, e) else none
  | _ => none
theorem rl_rg1 {pu : Bool} {ta : TE} {ma : ME} (h : RE pu ta ma) : RL pu (tLstRg (tRg1 ta)) (mLRg1 ma) := by
  intro F H σ env Sl R ds env' e Q q
  obtain ⟨p, e1, h1, h2⟩ := bnd_of e
  split at h2
  · rename_i n
    split at h2
    · rename_i ok
      cases h2
      refine h F H σ env Sl R _ _ h1 _ fun r F1 H1 Sl1 s1 pu1 R1 r1 => ?_
      refine ⟨n, pint r1, okRg_of ok, fun b nb => q b _ F1 H1 Sl1 s1 pu1 R1 ?_ nb⟩
      have := rgV_all (F := F1) (a := 0) (b := n)
      rw [Int.sub_zero] at this
      exact this
    · cases h2
  · cases h2
/-- a built-in that makes a list -/
def mFnL (g : En → List P → Option (List PyData)) (ma : MA) : ML := bnd ma fun p e => (g e p).map fun r => (r, e)
def FnL (k : List V → Hp → VK → Prop) (g : En → List P → Option (List PyData)) : Prop := ∀ F H σ env Sl xs ps ds, REnv F H σ env Sl → relA F σ xs ps → g env ps = some ds → ∀ Q : VK,
  (∀ p vs, All2 (Rp F) ds vs → H p = none → Q (.ref p) (upd H p (.lst vs))) → k xs H Q
theorem rl_fn {pu : Bool} {k : List V → Hp → VK → Prop} {g : En → List P → Option (List PyData)} {ta : TA} {ma : MA} (ha : RA pu ta ma) (hk : FnL k g) : RL pu (tCB k ta) (mFnL g ma) := by
  intro F H σ env Sl R ds env' e Q q
  obtain ⟨ps, e1, h1, h2⟩ := bnd_of e
  cases h3 : g e1 ps with
  | none => rw [h3] at h2; cases h2
  | some ds' =>
    rw [h3] at h2
    cases h2
    refine ha F H σ env Sl R ps _ h1 _ fun r F1 H1 Sl1 s1 pu1 R1 r1 => ?_
    exact hk F1 H1 σ _ Sl1 r ps ds R1 r1 h3 Q fun p vs rr np => q p vs F1 H1 Sl1 s1 pu1 R1 rr np
def gListOf : En → List P → Option (List PyData) := fun env ps => match ps with
  | [p] => sqT env p
  | _ => none
theorem l_list {K : PySem.W.Frag} : FnL (fun xs H Q => ∃ p ys, xs = [.ref p] ∧ (SqL K H p ys ∨ SqT K H p ys) ∧ ∀ l, H l = none → Q (.ref l) (upd H l (.lst ys))) gListOf := by
  intro F H σ env Sl xs ps ds R h e Q q
  unfold gListOf at e
  split at e
  · rename_i p1
    cases h with
    | cons a t =>
      cases t
      unfold sqT at e
      split at e
      · cases e
        obtain ⟨b, vs, rfl, hH, r⟩ := rp_tuple.mp (pr_val a)
        exact ⟨b, vs, rfl, .inr (SqT.of (R.ex _ _ hH)), fun l nl => q l vs r nl⟩
      · obtain ⟨b, vs, rfl, hH, r⟩ := sq_of R a e
        exact ⟨b, vs, rfl, .inl (SqL.of hH), fun l nl => q l vs r nl⟩
  · cases e
end Tr
namespace Tr
open PySem PySem.Spec PyProof.Rows L2
variable [TC]
/-! the rules that speak of the written part, by its name -/
section
variable {X : Cx} {K : PySem.W.Frag}
theorem ixK (h : X.K = K := by rfl) : IxR X (rIx K) := by subst h; exact ix_seq
theorem slK (h : X.K = K := by rfl) : SlR X (rSlL K) := by subst h; exact sl_list
theorem inK (h : X.K = K := by rfl) : OpR X (compareOp .In) (rIn K false) := by subst h; exact op_in_seq
theorem eqK (hu : X.A.units + 64 < cLine) (h : X.K = K := by rfl) : OpR X (compareOp .Eq) (rEqD K) := by subst h; exact op_eqD hu
theorem neK (hu : X.A.units + 64 < cLine) (h : X.K = K := by rfl) : OpR X (compareOp .NotEq) (rNeD K) := by subst h; exact op_neD hu
theorem lenK (h : X.K = K := by rfl) : CallR X (.builtin "len") (fun xs H Q => ∃ p ys, xs = [.ref p] ∧ (SqL K H p ys ∨ SqT K H p ys) ∧ Q (.int ys.length) H) := by subst h; exact call_len_seq
theorem listK (h : X.K = K := by rfl) : CallR X (.type "list") (fun xs H Q => ∃ p ys, xs = [.ref p] ∧ (SqL K H p ys ∨ SqT K H p ys) ∧ ∀ l, H l = none → Q (.ref l) (upd H l (.lst ys))) := by subst h; exact call_list_of
theorem isiK (h : X.K = K := by rfl) : CallR X (.builtin "isinstance") (rIsi K) := by subst h; exact call_isi
theorem allK (hc : X.calm = true) (h : X.K = K := by rfl) : CallR X (.builtin "all") (rAll K) := by subst h; exact cr_all hc
variable {tg l e : Expr} {tl : TE} {ta : TA} {p pos tpos : Pos} {elts : List Expr} {kk : Nat}
theorem pi_listK (hl : PE X l tl) (h : X.K = K := by rfl) : PI X tg l (iList K tl) := by subst h; exact pi_list hl
theorem pi_enumK (hg : Gl X "enumerate") (hm : X.mg "enumerate" = none) (ha : PA X [e] ta) (hs : starEach [e] X.env = [(false, eval e X.env)] := by rfl) (h : X.K = K := by rfl) : PI X (.Tuple elts kk tpos) (.Call (.Name "enumerate" p) [e] [] pos) (iEnum K ta) := by
  subst h; exact pi_enum hg hm ha hs
variable {k n : Nat} {t : TGs} {es : List Expr}
theorem pg_tupK (hc : X.calm = true) (h : PGs X es t) (hn : (assignEach es X.env).length = n := by rfl) (hst : (assignEach es X.env).findIdx? (·.1) = none := by rfl) (hK : X.K = K := by rfl) : PG X (.Tuple es k pos) (gTup K n t) := by
  subst hK; exact pg_tup hc h hn hst
variable {o : Expr} {es : List Expr} {to : TE} {t : TA} {name : Str} {apos cpos : Pos} {T id : String} {r : V → List V → Hp → VK → Prop}
theorem bmK {e : Expr} (h : PE X e (tBM X.K T r to t)) (hK : X.K = K := by rfl) : PE X e (tBM K T r to t) := by subst hK; exact h
end
end Tr
namespace Tr
open PySem PySem.Spec PyProof.Rows L2
variable [TC]
/-! ### range objects kept in a name -/
section
variable {X : Cx}
theorem rg1_call : CallR X (.type "range") (fun vs H Q => ∃ j, vs = [V.int j] ∧ ∀ p, H p = none → Q (.ref p) (upd H p (.rng 0 j))) := by
  intro pins s σ H vs us Q I r h
  obtain ⟨j, rfl, q⟩ := h
  cases r with
  | cons a t =>
    cases t
    obtain ⟨t, rfl⟩ := a
    refine call_range_1 ⟨.ref s.heap.objs.size, _, I.laid (o := .rng 0 j) (t' := s.toks + 1 + 1) (fun b o e => Heap.get?_push_of_some _ e) (Nat.le_refl _) ?_, rfl, q _ (I.hok.fresh (Nat.le_refl _))⟩
    exact ⟨s.toks, t, s.toks + 1, Heap.get?_push_size _ rfl⟩
/-- a name that holds a range is walked -/
def iRgv (i : Nat) : TI := fun σ H R => ∃ a lo hi, σ[i]? = some (some (.ref a)) ∧ H a = some (.rng lo hi) ∧ (-(2 ^ 62) ≤ lo ∧ lo < 2 ^ 62 ∧ -(2 ^ 62) ≤ hi ∧ hi < 2 ^ 62) ∧ R (Itr lo (hi - lo).toNat) H
theorem pi_rgv {tg : Expr} (i : Nat) {x : Str} {pos : Pos} (hN : X.N[i]? = some x := by rfl) (hv : Vis X.env.scope x := by first | exact Or.inl rfl | exact Or.inr (Or.inl rfl) | exact Or.inr (Or.inr rfl)) (hd : (x == ("__debug__" : Str)) = false := by decide)
    (hcd : (x == ("__classdict__" : Str)) = false := by decide) : PI X tg (.Name x pos) (iRgv i) := by
  refine ⟨fun pins s σ H R I h => ?_⟩
  obtain ⟨a, lo, hi, hs, hH, hb, q⟩ := h
  refine thn ((pe_var hN hv hd hcd).run pins s σ H (fun v H' => v = .ref a ∧ H' = H) I ⟨_, hs, rfl, rfl⟩) fun v s1 ⟨x1, H1, I1, r1, e1, e2⟩ => ?_
  subst e2
  subst e1
  cases r1
  obtain ⟨t, u, w, ho⟩ := I1.hok a _ hH
  refine wpAny_pyIter_range ho (small_one hb.1 hb.2.1 hb.2.2.1 hb.2.2.2) ?_
  refine ⟨s1.heap.objs.size, [s1.heap.objs.size], _, _, H1, rfl, I1.kept (t' := s1.toks) fun b o e => Heap.get?_push_of_some _ e, turn_range _ lo (hi - lo).toNat, ?_, fun b hb => ?_, q⟩
  · have e1 : lo + ((0 : Nat) : Int) * 1 = lo := by simp
    have e2 : (((hi - lo).toNat : Nat) : Int) - ((0 : Nat) : Int) = Builtin.Range.rangeSize lo hi 1 := by rw [rangeSize_one]; split <;> omega
    show IsRangeIter _ _ (lo + ((0 : Nat) : Int) * 1) ((((hi - lo).toNat : Nat) : Int) - ((0 : Nat) : Int)) 1
    rw [e1, e2]
    exact Heap.get?_push_size _ rfl
  · have e : b = s1.heap.objs.size := by simpa using hb
    subst e
    exact I1.fpOk (Nat.le_refl _) (I1.hok.fresh (Nat.le_refl _))
end
def mRg1 (ma : MA) : MO := bnd ma fun ps e => match ps with
  | [.val (.int j)] => some (.rg 0 j, e)
  | _ => none
theorem ro_rg1 {pu : Bool} {ta : TA} {ma : MA} (h : RA pu ta ma) : RO (tCB (fun vs H Q => ∃ j, vs = [V.int j] ∧ ∀ p, H p = none → Q (.ref p) (upd H p (.rng 0 j))) ta) (mRg1 ma) := by
  intro F H σ env Sl R o env' e Q q
  obtain ⟨ps, e1, h1, h2⟩ := bnd_of e
  split at h2
  · rename_i j
    cases h2
    refine h F H σ env Sl R _ _ h1 _ fun r F1 H1 Sl1 s1 pu1 R1 r1 => ?_
    cases r1 with
    | cons x t =>
      cases t
      refine ⟨j, by rw [pint x], fun p np => ?_⟩
      have fp := R1.ex.none np
      have n : ∀ b u, upd F1 p (.rng 0 j) b = some u → F1 b = some u ∨ H1 b = none := fun b u z => by
        by_cases hb : b = p
        · subst hb; exact .inr np
        · rw [upd_ne hb] at z; exact .inl z
      have ex : Ex (upd F1 p (.rng 0 j)) (upd H1 p (.rng 0 j)) := fun b u z => by
        by_cases hb : b = p
        · subst hb; rw [upd_same] at z ⊢; exact z
        · rw [upd_ne hb] at z ⊢; exact R1.ex b u z
      exact q _ _ _ Sl1 (fun _ => False) (s1.trans (Step.grow (Ex.new fp) (Ex.new np) n)) (R1.grow (Ex.new fp) (Ex.new np) ex n) ⟨⟨p, rfl, upd_same⟩, fun _ _ z => z.elim, fun _ z => z.elim, fun _ z => z.elim⟩
  · cases h2
def mRgv (i : Nat) : ML := fun env => match env[i]? with
  | some (some (.rg lo hi)) => if -(2 ^ 62) ≤ lo ∧ lo < 2 ^ 62 ∧ -(2 ^ 62) ≤ hi ∧ hi < 2 ^ 62 then some (rgD lo (hi - lo).toNat, env) else none
  | _ => none
theorem ri_rgv {i : Nat} : RI (iRgv i) (mRgv i) := by
  intro F H σ env Sl R ds env' e Q q
  unfold mRgv at e
  split at e
  · rename_i lo hi h0
    split at e
    · rename_i hb
      cases e
      obtain ⟨v, hv, a, rfl, ha⟩ := R.at_ i _ h0
      exact ⟨a, lo, hi, hv, R.ex _ _ ha, hb, q _ F H Sl Step.refl R it_r⟩
    · cases e
  · cases e
end Tr
namespace Tr
open PySem PySem.Spec PyProof.Rows L2
variable [TC]
/-! ### defs that are called where no repr is under way -/
structure FnG (P : Program) (w : World) (K : PySem.W.Frag) (mg : Str → Option Value) (base : Heap) (k : Nat) (f : Addr) (fd : FuncData) (ps : List Str) (sp : Sp) : Prop where
  len : ∀ vs H Q E, sp vs H Q E → vs.length = ps.length
  go : ∀ (A : Around) (ou : List Env) (s : Shared) (H : Hp) (ar : Args) (us : List Value) (vs : List V) (Q : VK) (E : XK), Room k A → A.guards = some [] → Env0 P w K mg base A ou s H → BindsTo s fd ar (ps.zip us) → Vals vs us → sp vs H Q E →
    codeAny (model P w) A (.call (.ref f) ar) (CR CX0 ou P w H s Q E) s
section
variable {P : Program} {w : World} {K : PySem.W.Frag} {mg : Str → Option Value} {base : Heap}
theorem FnG.mono {j k : Nat} {f : Addr} {fd : FuncData} {ps : List Str} {sp : Sp} (F : FnG P w K mg base j f fd ps sp) (h : j ≤ k) : FnG P w K mg base k f fd ps sp :=
  ⟨F.len, fun A ou s H ar us vs Q E r => F.go A ou s H ar us vs Q E (r.mono h)⟩
theorem FnG.of {k : Nat} {f : Addr} {fd : FuncData} {ps : List Str} {sp : Sp} (F : FnOk P w K mg base CX0 k f fd ps sp) : FnG P w K mg base k f fd ps sp :=
  ⟨F.len, fun A ou s H ar us vs Q E r _ => F.run A ou s H ar us vs Q E r⟩
/-- a def by its body -/
theorem okG {x qual : Str} {st : Stmt} {f : Addr} {fd : FuncData} {N ps : List Str} {k : Nat} {sp : Sp} (F : Fun K x qual st f fd) (S : FnScope N ps (defScope st)) (len : ∀ vs H Q E, sp vs H Q E → vs.length = ps.length)
    (body : ∀ (cdv : Value) (A : Around) (ou : List Env) (s : Shared) (H : Hp) (vs : List V) (Q : VK) (E : XK), Room k (A.deeper (envOfC qual (defScope st) s.heap.objs.size f cdv)) → A.guards = some [] → sp vs H Q E →
      ∃ t, PSs (cxOf CX0 P w K mg base N qual (defScope st) f cdv A ou s H E).nox (defBody st) t ∧ t { nx := fun _ H' => Q .non H', rt := Q } (L2.start N vs) H) : FnG P w K mg base (k + 1) f fd ps sp := by
  obtain ⟨oc, od, kV, doc, pm, an, cdv, ct, osl, rfl, lk, hcd⟩ := F.ex
  constructor
  · exact len
  intro A ou s H ar us vs Q E room gu e0 bi rv want
  have hl := len vs H Q E want
  have here : ∀ b o, base.get? b = some o → s.heap.get? b = some o := fun b o z => (e0.bs b o z).1
  have inK : K.In s.heap := e0.mod.kin.keeps here
  have nol : s.heap.NoLimit := e0.mod.nolimit.keeps here
  have kinds : ∀ y ∈ ps.zip us, (defScope st).names.lookup y.1 = some .local ∨ ((defScope st).names.lookup y.1 = some .cell ∧ ((cellsFrom (s.heap.objs.size + 1) (defScope st).names []).lookup y.1).isSome = true) := by
    rintro ⟨nm, u⟩ hy
    cases S.par nm (List.of_mem_zip hy).1 with
    | inl z => exact .inl z
    | inr z => exact .inr ⟨z, PySem.W.cellsFrom_some _ _ _ (.inl z)⟩
  apply codeAny_call_function room.depth (inK _ _ lk) rfl S.co S.gen rfl (PySem.W.codeRec_of inK hcd)
  refine bi _ _ _ _ (wpAny_newFunctionEnv_cells S.kind kinds ?_)
  intro env eenv s1 made
  subst eenv
  refine ⟨nol.keeps made.toInCall.keep, ?_⟩
  apply codeAny_func
  obtain ⟨t, pt, qt⟩ := body cdv A ou s H vs Q E (room.deeper _) gu want
  have inv0 : Inv (cxOf CX0 P w K mg base N qual (defScope st) f cdv A ou s H E) [] (L2.start N vs) H s1 := inv_start S room.hd e0 hl rv made
  have done : ∀ {σ1 : L2.St} {H1 : Hp} {v : V} {u : Value} {s2 : Shared}, Inv (cxOf CX0 P w K mg base N qual (defScope st) f cdv A ou s H E) [] σ1 H1 s2 → RelV v u → Q v H1 → CE ou P w H s Q u s2 := by
    intro σ1 H1 v u s2 J r q
    exact ⟨v, H1, J.os, J.bare, J.base, J.hok, r, q⟩
  refine wpAny_mono (PSs.run (PSs.nox pt) [] s1 (L2.start N vs) H _ inv0 qt) ?_ fun e s2 z => z
  intro fl s2 z
  match fl, z with
  | .ret u, ⟨v, σ1, H1, J, r, q⟩ => exact done J r q
  | .next, ⟨σ1, H1, J, q⟩ => exact done (v := V.non) (u := Value.none) J rfl q
  | .brk, ⟨_, _, _, q⟩ => exact False.elim q
  | .cont, ⟨_, _, _, q⟩ => exact False.elim q
end
section
variable {X : Cx} {k n : Nat} {f : Addr} {fd : FuncData} {ps ks : List Str} {sp : Sp} {x : Str} {p pos : Pos} {e : Expr} {es : List Expr} {t tk : TA} {ds : List Value} {dvs : List V} {kws : List Keyword} {g : List Value → List Value → List Value} {gV : List V → List V → List V}
/-- behind the call: nothing but a value comes back -/
theorem backG {pins : List (Addr × Obj)} {σ : L2.St} {H : Hp} {s : Shared} {Q : VK} {u : List Value} {v : List V} {ar : Args} (F : FnG X.prog X.w X.K X.mg X.base k f fd ps sp) (room : Room k X.A) (gu : X.A.guards = some []) (I : Inv X pins σ H s)
    (bi : BindsTo s fd ar (ps.zip u)) (rv : Vals v u) (want : sp v H Q E0) : codeAny (model X.prog X.w) X.A (.call (.ref f) ar) (fun r s' => match r with | .ok (.ret u) => EP X pins σ Q u s' | .ok _ => False | .error _ => False) s := by
  refine codeAny_mono (F.go X.A X.stack s H ar u v Q E0 room gu I.env0 bi rv want) ?_
  intro r s' z
  match r, z with
  | .ok (.ret _), z => exact I.after z
  | .ok .next, z => exact z
  | .ok .brk, z => exact z
  | .ok .cont, z => exact z
  | .error _, z => exact z
theorem pe_callG (F : FnG X.prog X.w X.K X.mg X.base k f fd ps sp) (room : Room k X.A) (gu : X.A.guards = some []) (hg : Gl X x) (hm : X.mg x = some (.ref f)) (hk : PySem.W.keepIn X.K (.ref f) = true) (hb : Binds X.K fd ps ds) (hd : Vals dvs ds)
    (ha : PA X (e :: es) t) (nd : (x == ("__debug__" : Str)) = false := by decide) (st : starEach (e :: es) X.env = (false, eval e X.env) :: starEach es X.env := by rfl) (pl : (backTo pos (starEach es X.env)).any (·.1) = false := by rfl) :
    PE X (.Call (.Name x p) (e :: es) [] pos) (tCall sp dvs E0 t) := by
  constructor
  intro pins s σ H Q I h
  apply wpAny_Call_Name_kw
  refine ld_glob I hg hm ?_ nd
  refine PySem.W.callWith_K (h₀ := X.base) I.ok.mod.kin hk (thn (ha.run pos pins s σ H _ I h) ?_) st pl
  rintro us s1 ⟨vs, H1, I1, rv, q⟩
  have rv2 := Vals.append rv hd
  have len2 : (us ++ ds).length = ps.length := rv2.length.symm.trans (F.len _ _ _ _ q)
  refine ⟨I1.kIn, wpAny_call (codeAny_mono (backG F room gu I1 (hb s1 us I1.kIn len2) rv2 q) ?_)⟩
  intro r s' z
  match r, z with
  | .ok (.ret _), z => exact z
  | .ok .next, z => exact z.elim
  | .ok .brk, z => exact z.elim
  | .ok .cont, z => exact z.elim
  | .error _, z => exact z.elim
/-- f(k = v, ..); f(e, .., k = v, ..) -/
theorem pe_callGK0 (F : FnG X.prog X.w X.K X.mg X.base k f fd ps sp) (room : Room k X.A) (gu : X.A.guards = some []) (hg : Gl X x) (hm : X.mg x = some (.ref f)) (hk : PySem.W.keepIn X.K (.ref f) = true) (hb : KBn X.K fd ps 0 ks g gV)
    (hkw : PK X kws tk) (al : (backToKw pos (keywordEach kws X.env)).all (·.1.isSome) = true := by rfl) (nm : (backToKw pos (keywordEach kws X.env)).filterMap (·.1) = ks := by rfl) (nd : (x == ("__debug__" : Str)) = false := by decide)
    (pl : ((backTo pos (starEach [] X.env)).any (·.1) || (backToKw pos (keywordEach kws X.env)).any (·.1.isNone)) = false := by rfl) : PE X (.Call (.Name x p) [] kws pos) (tCallN 0 ks.length sp gV E0 tNil tk) := by
  constructor
  intro pins s σ H Q I h
  apply wpAny_Call_Name_kw
  refine ld_glob I hg hm ?_ nd
  refine PySem.W.callWith_KW0 (h₀ := X.base) I.ok.mod.kin hk al ?_ pl
  refine thn (hkw.run pos pins s σ H _ I h) ?_
  rintro ws s1 ⟨zs, H1, I1, rz, l1, l2, q⟩
  rw [nm]
  refine ⟨I1.kIn, wpAny_call (codeAny_mono (backG F room gu I1 (hb.to s1 [] ws I1.kIn rfl (rz.length.symm.trans l2)) (hb.rel .nil rz) q) ?_)⟩
  intro r s' z
  match r, z with
  | .ok (.ret _), z => exact z
  | .ok .next, z => exact z.elim
  | .ok .brk, z => exact z.elim
  | .ok .cont, z => exact z.elim
  | .error _, z => exact z.elim
/-- no defaults: the values by their places among those given by place, then by name -/
def permV {α : Type} (ix : List Nat) (d : α) (us ws : List α) : List α := ix.map fun i => (us ++ ws).getD i d
theorem perm_vals {ix : List Nat} {us ws : List Value} {vs zs : List V} (r : Vals vs us) (rz : Vals zs ws) : Vals (permV ix .non vs zs) (permV ix .none us ws) := by
  have h := Vals.append r rz
  unfold permV
  induction ix with
  | nil => exact .nil
  | cons i t ih =>
    refine .cons ?_ ih
    show L2.RelV ((vs ++ zs).getD i V.non) ((us ++ ws).getD i Value.none)
    rw [List.getD_eq_getElem?_getD, List.getD_eq_getElem?_getD]
    cases q : (vs ++ zs)[i]? with
    | none => rw [h.none_of q]; rfl
    | some v =>
      obtain ⟨u, e, rr⟩ := h.get q
      rw [e]
      exact rr
theorem kb_of {K : PySem.W.Frag} {x qual : Str} {st : Stmt} (F : Fun K x qual st f fd) (ix : List Nat)
    (h : ∀ (kV doc pm : Value) (an : Option Addr) (cdv ct : Value) (us ws : List Value), us.length = n → ws.length = ks.length → bindArgs (PySem.W.fnOf x qual (defArgs st) (defBody st) (defScope st) .none kV doc pm an cdv ct) ⟨us, ks.zip ws⟩ = pure (ps.zip (permV ix .none us ws))) : KBn K fd ps n ks (permV ix .none) (permV ix .non) := by
  obtain ⟨oc, od, kV, doc, pm, an, cdv, ct, osl, rfl, lk, hcd⟩ := F.ex
  exact ⟨fun s us ws _ l1 l2 => .of_eq (h kV doc pm an cdv ct us ws l1 l2), perm_vals⟩
end
/-! the same over trees -/
def permP (ix : List Nat) (us ws : List P) : List P := ix.map fun i => (us ++ ws).getD i (.val .none)
theorem perm_rel {F : Hp} {σ : L2.St} {ix : List Nat} {vs zs : List V} {ps qs : List P} (r : relA F σ vs ps) (rz : relA F σ zs qs) : relA F σ (permV ix .non vs zs) (permP ix ps qs) := by
  have h := All2.app r rz
  unfold permV permP
  induction ix with
  | nil => exact .nil
  | cons i t ih =>
    refine .cons ?_ ih
    show RP F σ ((vs ++ zs).getD i V.non) ((ps ++ qs).getD i (.val .none))
    rw [List.getD_eq_getElem?_getD, List.getD_eq_getElem?_getD]
    cases q : (ps ++ qs)[i]? with
    | none =>
      have : (vs ++ zs)[i]? = none := by
        rw [List.getElem?_eq_none_iff, ← h.len]
        exact List.getElem?_eq_none_iff.mp q
      rw [this]
      rfl
    | some p =>
      obtain ⟨v, e, rr⟩ := h.get q
      rw [e]
      exact rr
/-- f(e, .., k = v, ..) -/
def mCallN (pn ix : List Nat) (mf : MF) (ma mk : MA) : MO := bnd ma fun ps e => bnd mk (fun qs e1 => callP pn mf (permP ix ps qs) e1) e
theorem ro_callN {pu pv : Bool} {ta tk : TA} {ma mk : MA} {mf : MF} {pn ix : List Nat} {n m : Nat} {E : XK} (h : RA pu ta ma) (h' : RA pv tk mk) (l1 : LenA n ma) (l2 : LenA m mk) : RO (tCallN n m (spOf pn mf) (permV ix .non) E ta tk) (mCallN pn ix mf ma mk) := by
  intro F H σ env Sl R o env' e Q q
  obtain ⟨ps, e1, h1, h2⟩ := bnd_of e
  obtain ⟨qs, e2, h3, h4⟩ := bnd_of h2
  refine h F H σ env Sl R ps _ h1 _ fun vs F1 H1 Sl1 s1 pu1 R1 r1 => ?_
  refine h' F1 H1 σ e1 Sl1 R1 qs _ h3 _ fun zs F2 H2 Sl2 s2 pu2 R2 r2 => ?_
  have r1' := monoA _ _ _ _ _ s2.exF r1
  exact ⟨by rw [← r1.len, l1 _ _ _ h1], by rw [← r2.len, l2 _ _ _ h3], call_core R2 (perm_rel r1' r2) h4 Q fun v F' H' Sl' T s R' n => q v F' H' Sl' T (s1.trans (s2.trans s)) R' (n.mono0 fun _ z => s1.tkb (s2.tkb z))⟩
end Tr
namespace Tr
open PySem PySem.Spec PyProof.Rows L2
variable [TC]
/-! ### repr of data -/
mutual
def reprD : PyData → Str
  | .none => "None"
  | .bool b => if b then "True" else "False"
  | .int i => toString i
  | .str s => reprText s
  | .list ds => listText (reprDs ds)
  | .tuple ds => tupleText (reprDs ds)
  | .dict _ => ""
def reprDs : List PyData → List Str
  | [] => []
  | d :: ds => reprD d :: reprDs ds
end
mutual
/-- what repr is asked of each part -/
def reprOk : PyData → Bool
  | .none => true
  | .bool _ => true
  | .int i => decide (i.natAbs.log2 < 1920)
  | .str s => decide ((reprText s).length ≤ sizeLine)
  | .list ds => reprOks ds
  | .tuple ds => reprOks ds
  | .dict _ => false
def reprOks : List PyData → Bool
  | [] => true
  | d :: ds => reprOk d && reprOks ds
end
mutual
/-- how deep -/
def deepD : PyData → Nat
  | .list ds => deepDs ds + 1
  | .tuple ds => deepDs ds + 1
  | _ => 0
def deepDs : List PyData → Nat
  | [] => 0
  | d :: ds => max (deepD d) (deepDs ds)
end
theorem reprDs_len : ∀ ds : List PyData, (reprDs ds).length = ds.length
  | [] => rfl
  | d :: ds => by show (reprDs ds).length + 1 = ds.length + 1; rw [reprDs_len ds]
/-! one value is one datum -/
mutual
theorem rp_inj {F : Hp} : ∀ {d d' : PyData} {v : V}, Rp F d v → Rp F d' v → d = d'
  | .none, d', v, h, h' => by
    have e : v = .non := h
    subst e
    cases d' with
    | none => rfl
    | bool _ => exact nomatch (show V.non = V.bl _ from h')
    | int _ => exact nomatch (show V.non = V.int _ from h')
    | str _ => exact nomatch (show V.non = V.str _ from h')
    | list _ => obtain ⟨_, _, z, _⟩ := h'; exact nomatch z
    | tuple _ => obtain ⟨_, _, z, _⟩ := h'; exact nomatch z
    | dict _ => obtain ⟨_, _, z, _⟩ := h'; exact nomatch z
  | .bool b, d', v, h, h' => by
    have e : v = .bl b := h
    subst e
    cases d' with
    | none => exact nomatch (show V.bl b = V.non from h')
    | bool _ => rw [V.bl.inj (show V.bl b = V.bl _ from h')]
    | int _ => exact nomatch (show V.bl b = V.int _ from h')
    | str _ => exact nomatch (show V.bl b = V.str _ from h')
    | list _ => obtain ⟨_, _, z, _⟩ := h'; exact nomatch z
    | tuple _ => obtain ⟨_, _, z, _⟩ := h'; exact nomatch z
    | dict _ => obtain ⟨_, _, z, _⟩ := h'; exact nomatch z
  | .int b, d', v, h, h' => by
    have e : v = .int b := h
    subst e
    cases d' with
    | none => exact nomatch (show V.int b = V.non from h')
    | bool _ => exact nomatch (show V.int b = V.bl _ from h')
    | int _ => rw [V.int.inj (show V.int b = V.int _ from h')]
    | str _ => exact nomatch (show V.int b = V.str _ from h')
    | list _ => obtain ⟨_, _, z, _⟩ := h'; exact nomatch z
    | tuple _ => obtain ⟨_, _, z, _⟩ := h'; exact nomatch z
    | dict _ => obtain ⟨_, _, z, _⟩ := h'; exact nomatch z
  | .str b, d', v, h, h' => by
    have e : v = .str b := h
    subst e
    cases d' with
    | none => exact nomatch (show V.str b = V.non from h')
    | bool _ => exact nomatch (show V.str b = V.bl _ from h')
    | int _ => exact nomatch (show V.str b = V.int _ from h')
    | str _ => rw [V.str.inj (show V.str b = V.str _ from h')]
    | list _ => obtain ⟨_, _, z, _⟩ := h'; exact nomatch z
    | tuple _ => obtain ⟨_, _, z, _⟩ := h'; exact nomatch z
    | dict _ => obtain ⟨_, _, z, _⟩ := h'; exact nomatch z
  | .list ds, d', v, h, h' => by
    obtain ⟨a, vs, rfl, hF, hr⟩ := h
    cases d' with
    | none => exact nomatch (show V.ref a = V.non from h')
    | bool _ => exact nomatch (show V.ref a = V.bl _ from h')
    | int _ => exact nomatch (show V.ref a = V.int _ from h')
    | str _ => exact nomatch (show V.ref a = V.str _ from h')
    | list ds' =>
      obtain ⟨a', vs', e, hF', hr'⟩ := h'
      cases e
      rw [hF] at hF'
      cases hF'
      rw [rps_inj hr hr']
    | tuple _ =>
      obtain ⟨a', vs', e, hF', hr'⟩ := h'
      cases e
      rw [hF] at hF'
      cases hF'
    | dict _ =>
      obtain ⟨_, a', e, hF'⟩ := h'
      cases e
      rw [hF] at hF'
      cases hF'
  | .tuple ds, d', v, h, h' => by
    obtain ⟨a, vs, rfl, hF, hr⟩ := h
    cases d' with
    | none => exact nomatch (show V.ref a = V.non from h')
    | bool _ => exact nomatch (show V.ref a = V.bl _ from h')
    | int _ => exact nomatch (show V.ref a = V.int _ from h')
    | str _ => exact nomatch (show V.ref a = V.str _ from h')
    | tuple ds' =>
      obtain ⟨a', vs', e, hF', hr'⟩ := h'
      cases e
      rw [hF] at hF'
      cases hF'
      rw [rps_inj hr hr']
    | list _ =>
      obtain ⟨a', vs', e, hF', hr'⟩ := h'
      cases e
      rw [hF] at hF'
      cases hF'
    | dict _ =>
      obtain ⟨_, a', e, hF'⟩ := h'
      cases e
      rw [hF] at hF'
      cases hF'
  | .dict ks, d', v, h, h' => by
    obtain ⟨rfl, a, rfl, hF⟩ := h
    cases d' with
    | none => exact nomatch (show V.ref a = V.non from h')
    | bool _ => exact nomatch (show V.ref a = V.bl _ from h')
    | int _ => exact nomatch (show V.ref a = V.int _ from h')
    | str _ => exact nomatch (show V.ref a = V.str _ from h')
    | list _ =>
      obtain ⟨a', vs', e, hF', hr'⟩ := h'
      cases e
      rw [hF] at hF'
      cases hF'
    | tuple _ =>
      obtain ⟨a', vs', e, hF', hr'⟩ := h'
      cases e
      rw [hF] at hF'
      cases hF'
    | dict _ =>
      obtain ⟨rfl, _⟩ := h'
      rfl
theorem rps_inj {F : Hp} : ∀ {ds ds' : List PyData} {vs : List V}, Rps F ds vs → Rps F ds' vs → ds = ds'
  | [], ds', vs, h, h' => by
    have e : vs = [] := h
    subst e
    cases ds' with
    | nil => rfl
    | cons _ _ => obtain ⟨_, _, z, _⟩ := h'; exact nomatch z
  | d :: ds, ds', vs, h, h' => by
    obtain ⟨v, r, rfl, h1, h2⟩ := h
    cases ds' with
    | nil => exact nomatch (show v :: r = [] from h')
    | cons d' ds' =>
      obtain ⟨v', r', e, h1', h2'⟩ := h'
      cases e
      rw [rp_inj h1 h1', rps_inj h2 h2']
end
/-! what repr says of data that stand in the heap -/
mutual
theorem repr_ok {prog : Program} {w : World} {H : Hp} {h₀ : Heap} (ok : HOk prog w H h₀) : ∀ (d : PyData) (v : V) (u : Value), Rp H d v → L2.RelV v u → reprOk d = true →
    ∃ as : List Addr, (∀ b ∈ as, ∃ d', Rp H d' (.ref b) ∧ sizeOf d' ≤ sizeOf d) ∧ ReprK prog w as h₀ (deepD d) u (reprD d)
  | .none, v, u, h, r, k => by
    have e : v = .non := h
    subst e
    cases (show u = Value.none from r)
    exact ⟨[], fun _ z => by simp at z, ReprK.of_is ReprIs.none _ _ _⟩
  | .bool b, v, u, h, r, k => by
    have e : v = .bl b := h
    subst e
    cases (show u = Value.bool b from r)
    refine ⟨[], fun _ z => by simp at z, ?_⟩
    have := ReprK.of_is (prog := prog) (w := w) (ReprIs.bool b) [] h₀ 0
    cases b <;> exact this
  | .int i, v, u, h, r, k => by
    have e : v = .int i := h
    subst e
    obtain ⟨t, rfl⟩ := (show ∃ t, u = Value.int i t from r)
    exact ⟨[], fun _ z => by simp at z, ReprK.of_is (ReprIs.int t (of_decide_eq_true k)) _ _ _⟩
  | .str x, v, u, h, r, k => by
    have e : v = .str x := h
    subst e
    obtain ⟨t, rfl⟩ := (show ∃ t, u = Value.str x t from r)
    exact ⟨[], fun _ z => by simp at z, ReprK.of_is (ReprIs.str x t (of_decide_eq_true k)) _ _ _⟩
  | .list ds, v, u, h, r, k => by
    have h0 := h
    obtain ⟨a, vs, rfl, hF, hr⟩ := h
    cases (show u = Value.ref a from r)
    obtain ⟨z, its, n, rv, hg⟩ := ok a _ hF
    cases its with
    | nil =>
      have e1 : vs = [] := by cases rv; rfl
      subst e1
      have e2 : ds = [] := by
        cases ds with
        | nil => rfl
        | cons _ _ => obtain ⟨_, _, y, _⟩ := hr; exact nomatch y
      subst e2
      have : reprD (.list []) = ("[]" : Str) := by kernel_rfl
      rw [this]
      exact ⟨[], fun _ z => by simp at z, ReprK.listEmpty hg rfl rfl⟩
    | cons x l =>
      obtain ⟨as, has, hT⟩ := repr_oks ok ds vs (x :: l) hr rv k
      have hlen : (reprDs ds).length = (x :: l).toArray.size := by
        rw [reprDs_len, ← (rps_iff.mp hr).len.symm, rv.length]
        simp
      have na : a ∉ as := fun y => by
        obtain ⟨d', r', hs⟩ := has a y
        have := rp_inj r' h0
        rw [this] at hs
        simp at hs
        omega
      refine ⟨a :: as, fun b hb => ?_, ReprK.list hg rfl rfl na hlen fun i y hy => hT i y (by simpa using hy)⟩
      rcases List.mem_cons.mp hb with rfl | hb
      · exact ⟨_, h0, Nat.le_refl _⟩
      · obtain ⟨d', r', hs⟩ := has b hb
        exact ⟨d', r', by simp; omega⟩
  | .tuple ds, v, u, h, r, k => by
    have h0 := h
    obtain ⟨a, vs, rfl, hF, hr⟩ := h
    cases (show u = Value.ref a from r)
    obtain ⟨z, its, rv, o, hg, hc, n, hd⟩ := ok a _ hF
    obtain ⟨as, has, hT⟩ := repr_oks ok ds vs its hr rv k
    have na : a ∉ as := fun y => by
      obtain ⟨d', r', hs⟩ := has a y
      have := rp_inj r' h0
      rw [this] at hs
      simp at hs
      omega
    have hlen : (reprDs ds).length = its.length := by rw [reprDs_len, (rps_iff.mp hr).len, rv.length]
    refine ⟨a :: as, fun b hb => ?_, ReprK.tuple hg hc hd na ?_⟩
    · rcases List.mem_cons.mp hb with rfl | hb
      · exact ⟨_, h0, Nat.le_refl _⟩
      · obtain ⟨d', r', hs⟩ := has b hb
        exact ⟨d', r', by simp; omega⟩
    · show ReprAllK prog w as h₀ (deepDs ds) its.toArray.toList (reprDs ds)
      have all : ∀ (us : List Value) (ts : List Str), ts.length = us.length → (∀ (i : Nat) (y : Value), us[i]? = some y → ∃ t, ts[i]? = some t ∧ ReprK prog w as h₀ (deepDs ds) y t) → ReprAllK prog w as h₀ (deepDs ds) us ts := by
        intro us
        induction us with
        | nil => intro ts hl _; cases ts with
          | nil => exact .nil
          | cons _ _ => simp at hl
        | cons y us ih =>
          intro ts hl hx
          cases ts with
          | nil => simp at hl
          | cons t ts =>
            obtain ⟨t', e, k1⟩ := hx 0 y rfl
            cases e
            exact .cons k1 (ih ts (by simpa using hl) fun i y hy => by
              obtain ⟨t', e, k2⟩ := hx (i + 1) y (by rw [List.getElem?_cons_succ]; exact hy)
              rw [List.getElem?_cons_succ] at e
              exact ⟨t', e, k2⟩)
      exact all _ _ (by simpa using hlen) fun i y hy => hT i y (by simpa using hy)
  | .dict _, _, _, _, _, ok => nomatch ok
theorem repr_oks {prog : Program} {w : World} {H : Hp} {h₀ : Heap} (ok : HOk prog w H h₀) : ∀ (ds : List PyData) (vs : List V) (us : List Value), Rps H ds vs → L2.Vals vs us → reprOks ds = true →
    ∃ as : List Addr, (∀ b ∈ as, ∃ d', Rp H d' (.ref b) ∧ sizeOf d' < sizeOf ds) ∧ ∀ (i : Nat) (y : Value), us[i]? = some y → ∃ t, (reprDs ds)[i]? = some t ∧ ReprK prog w as h₀ (deepDs ds) y t
  | [], vs, us, h, r, k => by
    have e : vs = [] := h
    subst e
    cases r
    exact ⟨[], fun _ z => by simp at z, fun i y z => by simp at z⟩
  | d :: ds, vs, us, h, r, k => by
    obtain ⟨v, rest, rfl, h1, h2⟩ := h
    cases r with
    | cons a b =>
      have k' : (reprOk d && reprOks ds) = true := k
      rw [Bool.and_eq_true] at k'
      obtain ⟨as, x1, x2⟩ := repr_ok ok d v _ h1 a k'.1
      obtain ⟨bs, y1, y2⟩ := repr_oks ok ds rest _ h2 b k'.2
      refine ⟨as ++ bs, fun c hc => ?_, fun i y hy => ?_⟩
      · rcases List.mem_append.mp hc with hc | hc
        · obtain ⟨d', r', hs⟩ := x1 c hc
          exact ⟨d', r', by simp; omega⟩
        · obtain ⟨d', r', hs⟩ := y1 c hc
          exact ⟨d', r', by simp; omega⟩
      · cases i with
        | zero =>
          cases hy
          exact ⟨_, rfl, (x2.more fun c hc => List.mem_append.mpr (.inl hc)).level_le (Nat.le_max_left _ _)⟩
        | succ i =>
          rw [List.getElem?_cons_succ] at hy
          obtain ⟨t, e, z⟩ := y2 i y hy
          exact ⟨t, e, (z.more fun c hc => List.mem_append.mpr (.inr hc)).level_le (Nat.le_max_right _ _)⟩
end
end Tr
namespace Tr
open PySem PySem.Spec PyProof.Rows L2
variable [TC]
section
variable {X : Cx}
def isTup : PyData → Bool
  | .tuple _ => true
  | _ => false
/-- repr(x) of data that is no tuple itself, where no repr is under way -/
def rRepr : List V → Hp → VK → Prop := fun xs H Q => ∃ x d, xs = [x] ∧ Rp H d x ∧ isTup d = false ∧ reprOk d = true ∧ deepD d ≤ 60 ∧ (reprD d).length ≤ sizeLine ∧ Q (.str (reprD d)) H
/-- the built-in over a class's own __repr__ -/
theorem repr_by {T id : String} {v : Value} {Q : Value → Shared → Prop} {E : Value → Shared → Prop} {s : Shared} {A : Around} {prog : Program} {w : World} (hu : A.units + 1 < cLine) (ty : s.TypeIs v T) (sl : Slot T "__repr__" id)
    (core : wpAny (model prog w) A.in1 (call (.builtin id) [v]) (fun u s' => ∃ x t, u = .str x t ∧ Q u s') E s) : wpAny (model prog w) A (call (.builtin "repr") [v]) Q E s := by
  apply Calls.call_function_entry F.kind_repr F.plain_repr F.entry_repr (F.args_repr1 v)
  unfold Builtin.«repr»; apply wpAny_bind (m := oneArg "repr" _); apply wpAny_pure
  apply wpAny_bind; apply wpAny_cRoomFor (show A.in1.units < cLine from hu)
  apply wpAny_bind; apply wpAny_specialOf (name := Str.ofString "__repr__") ty sl.lookup
  apply wpAny_bind (m := callSpecialIfBound? v (Str.ofString "__repr__")); apply wpAny_callSpecialIfBound?_slot (name := Str.ofString "__repr__") ty sl
  refine wpAny_mono core ?_ fun _ _ z => z
  rintro u s' ⟨x, t, rfl, q⟩
  apply wpAny_bind; apply wpAny_isInstance (T := "str") (b := true) (typeIs_str _ _ _) isSubtype_str_str
  exact wpAny_pure ⟨_, rfl, q⟩
theorem call_repr (gu : X.A.guards = some []) (hu : X.A.units + 64 < cLine) : CallR X (.builtin "repr") rRepr := by
  intro pins s σ H xs us Q I r h
  obtain ⟨x, d, rfl, hd, nt, ok, dp, sz, q⟩ := h
  obtain ⟨u, rfl, ru⟩ := vals1 r
  have fin : ∀ (h' : Heap) (tk : Nat) (t : Tok), (∀ b o, s.heap.get? b = some o → h'.get? b = some o) → EP X pins σ Q (.str (reprD d) t) { s with heap := h', toks := tk } :=
    fun h' tk t k => ⟨.str (reprD d), H, I.kept k, ⟨t, rfl⟩, q⟩
  cases d with
  | none =>
    have e : x = .non := hd
    subst e
    cases (show u = Value.none from ru)
    exact PySem.P.repr_of_none (fin s.heap _ _ fun _ _ z => z)
  | bool b =>
    have e : x = .bl b := hd
    subst e
    cases (show u = Value.bool b from ru)
    refine PySem.P.repr_of_bool ?_
    have := fin s.heap (s.toks + 1) s.toks fun _ _ z => z
    cases b <;> exact this
  | int i =>
    have e : x = .int i := hd
    subst e
    obtain ⟨t, rfl⟩ := (show ∃ t, u = Value.int i t from ru)
    exact PySem.P.repr_of_int (of_decide_eq_true ok) (fin s.heap _ _ fun _ _ z => z)
  | str y =>
    have e : x = .str y := hd
    subst e
    obtain ⟨t, rfl⟩ := (show ∃ t, u = Value.str y t from ru)
    exact PySem.P.repr_of_str (fin s.heap _ _ fun _ _ z => z) (of_decide_eq_true ok)
  | list ds =>
    have hd0 := hd
    obtain ⟨a, vs, rfl, hF, hr⟩ := hd
    cases (show u = Value.ref a from ru)
    obtain ⟨z, its, n, rv, hg⟩ := I.hok a _ hF
    refine repr_by (by omega) ⟨_, hg, rfl⟩ F.slot_list_repr ?_
    cases its with
    | nil =>
      have e1 : vs = [] := by cases rv; rfl
      subst e1
      have e2 : ds = [] := by
        cases ds with
        | nil => rfl
        | cons _ _ => obtain ⟨_, _, y, _⟩ := hr; exact nomatch y
      subst e2
      have e3 : reprD (.list []) = ("[]" : Str) := by kernel_rfl
      refine call_list_repr_empty ⟨_, hg, rfl⟩ hg rfl ?_
      rw [← e3]
      exact ⟨_, _, rfl, fin s.heap _ _ fun _ _ z => z⟩
    | cons y l =>
      obtain ⟨as, has, hT⟩ := repr_oks I.hok ds vs (y :: l) hr rv ok
      have hlen : (reprDs ds).length = (y :: l).toArray.size := by
        rw [reprDs_len, ← (rps_iff.mp hr).len.symm, rv.length]
        simp
      have na : a ∉ as := fun y => by
        obtain ⟨d', r', hs⟩ := has a y
        have := rp_inj r' hd0
        rw [this] at hs
        simp at hs
        omega
      have dp' : deepDs ds + 1 ≤ 60 := dp
      refine call_list_reprK hg rfl rfl na hlen (fun i y hy => hT i y (by simpa using hy)) (A := X.A.in1) gu (fun b _ => Clear.nil b) ?_ (fun _ _ z => z) (fun h' t tk k => ⟨_, _, rfl, fin h' tk t k⟩) sz
      show X.A.units + 1 + (deepDs ds + 1) < cLine
      omega
  | tuple ds => exact nomatch nt
  | dict _ => exact nomatch ok
end
def gRepr : En → List P → Option P := fun env ps => match ps with
  | [p] => match vw env p with
    | some d => if isTup d = false ∧ reprOk d = true ∧ deepD d ≤ 60 ∧ (reprD d).length ≤ sizeLine then some (.val (.str (reprD d))) else none
    | none => none
  | _ => none
theorem f_repr : FnK rRepr gRepr := by
  intro F H σ env Sl xs ps p R h e Q q
  unfold gRepr at e
  split at e
  · rename_i p1
    cases h with
    | cons a t =>
      cases t
      split at e
      · rename_i d h1
        split at e
        · rename_i hd
          cases e
          exact ⟨_, d, rfl, vw_rp R a h1, hd.1, hd.2.1, hd.2.2.1, hd.2.2.2, q _ F H (Ex.refl F) (Ex.refl H) R.ex (fun _ _ z => .inl z) rfl⟩
        · cases e
      · cases e
  · cases e
end Tr
namespace Tr
open PySem PySem.Spec PyProof.Rows L2
variable [TC]
/-! ### the law's call behind the top -/
section
variable {P : Program} {w : World} {K : PySem.W.Frag} {mg mb : Str → Option Value} {k : Nat} {fa a : Addr} {fd : FuncData} {x : Str} {sp : Sp} {s1 : Shared} {vs : List Value} {ns : List Int}
end
end Tr
namespace Tr
open PySem PySem.Spec L2
variable [TC]
/-! ### loops as plain functions: invariants by the turn -/
theorem lcGo_inv {mg : PyData → En → Option En} {mt : MT} {me : ME} {vs : List Nat} : ∀ {ds : List PyData} (J : Nat → List PyData → En → Prop), (∀ i d, ds[i]? = some d → ∀ acc env, J i acc env → ∃ e1, mg d env = some e1 ∧ ∃ e2, mt e1 = some (true, e2) ∧ ∃ p e3, me e2 = some (p, e3) ∧ ∃ y e4, fzP e3 p = some (y, e4) ∧ J (i + 1) (acc ++ [y]) (wipeE e4 vs)) →
    ∀ acc env, J 0 acc env → acc.length + ds.length ≤ sizeLine → ∃ acc' e', mLcGo mg mt me vs ds acc env = some (acc', e') ∧ J ds.length acc' e'
  | [], J, h, acc, env, h0, _ => ⟨acc, env, rfl, h0⟩
  | d :: ds, J, h, acc, env, h0, hz => by
    rw [List.length_cons] at hz
    obtain ⟨e1, h1, e2, h2, p, e3, h3, y, e4, h4, h5⟩ := h 0 d rfl acc env h0
    obtain ⟨acc', e', h6, h7⟩ := lcGo_inv (ds := ds) (fun i => J (i + 1)) (fun i x hx => h (i + 1) x (by rw [List.getElem?_cons_succ]; exact hx)) (acc ++ [y]) _ h5 (by rw [List.length_append, List.length_singleton]; omega)
    refine ⟨acc', e', ?_, h7⟩
    unfold mLcGo
    simp only [h1, h2, h3, h4]
    rw [if_pos (by omega)]
    exact h6
/-- every item gives its own, and nothing changes -/
theorem lcGo_map {i : Nat} {me : ME} {ds : List PyData} {E : En} (y : PyData → PyData) (h : ∀ d ∈ ds, ∃ p e3, me (E.set i (some (.fz d))) = some (p, e3) ∧ ∃ e4, fzP e3 p = some (y d, e4) ∧ wipeE e4 [i] = E) (hz : ds.length ≤ sizeLine) :
    mLcGo (mgN i) mYes me [i] ds [] E = some (ds.map y, E) := by
  obtain ⟨acc', e', h1, h2, h3⟩ := lcGo_inv (ds := ds) (mg := mgN i) (mt := mYes) (me := me) (vs := [i]) (fun k acc env => acc = (ds.take k).map y ∧ env = E) (fun k d hd acc env hj => by
    obtain ⟨rfl, rfl⟩ := hj
    obtain ⟨p, e3, h1, e4, h2, h3⟩ := h d (List.mem_of_getElem? hd)
    refine ⟨_, rfl, _, rfl, p, e3, h1, y d, e4, h2, ?_, h3⟩
    rw [List.take_add_one, hd, List.map_append]
    rfl) [] E ⟨rfl, rfl⟩ (by simpa using hz)
  subst h3
  rw [h1, h2, List.take_length]
end Tr
namespace Tr
open PySem PySem.Spec PyProof.Rows L2
variable [TC]
/-! ### sum, max and min of a list of whole numbers -/
/-! ### sorted, whole numbers -/
end Tr
namespace Tr
open PySem PySem.Spec PyProof.Rows L2
variable [TC]
/-! ### xs[i][j] = e, where xs holds lists of its own -/
theorem all_at {α β : Type} {R R' : α → β → Prop} : ∀ {l1 : List α} {l2 : List β}, All2 R l1 l2 → (∀ (i : Nat) a b, l2[i]? = some b → R a b → R' a b) → All2 R' l1 l2
  | _, _, .nil, _ => .nil
  | _, _, .cons r t, h => .cons (h 0 _ _ rfl r) (all_at t fun i a b e x => h (i + 1) a b (by rw [List.getElem?_cons_succ]; exact e) x)
theorem all_put {α β : Type} {R R' : α → β → Prop} : ∀ {l1 : List α} {l2 : List β}, All2 R l1 l2 → ∀ (n : Nat) (x : α) (y : β), l2[n]? = some y → R' x y → (∀ (i : Nat) a b, i ≠ n → l2[i]? = some b → R a b → R' a b) → All2 R' (l1.set n x) l2
  | _, _, .nil, _, _, _, h, _, _ => by simp at h
  | _, _, .cons _ t, 0, _, _, h, h2, h3 => by
    cases h
    exact .cons h2 (all_at t fun i a b e r => h3 (i + 1) a b (by omega) (by rw [List.getElem?_cons_succ]; exact e) r)
  | _, _, .cons r t, n + 1, x, y, h, h2, h3 => .cons (h3 0 _ _ (by omega) rfl r) (all_put t n x y (by rw [List.getElem?_cons_succ] at h; exact h) h2 fun i a b ne e r => h3 (i + 1) a b (by omega) (by rw [List.getElem?_cons_succ]; exact e) r)
theorem refs_inj : ∀ {xs ys : List Addr}, xs.map V.ref = ys.map V.ref → xs = ys
  | [], [], _ => rfl
  | [], _ :: _, h => by cases h
  | _ :: _, [], h => by cases h
  | x :: xs, y :: ys, h => by
    rw [List.map_cons, List.map_cons] at h
    have h1 := List.cons.inj h
    rw [V.ref.inj h1.1, refs_inj h1.2]
theorem REnv.held2 {F H : Hp} {σ : L2.St} {env : En} {Sl : Nat → Addr → Prop} {j : Nat} {rows : List (List PyData)} (R : REnv F H σ env Sl) (hj : env[j]? = some (some (.ow2 rows))) :
    ∃ a rs, σ[j]? = some (some (.ref a)) ∧ H a = some (.lst (rs.map V.ref)) ∧ a ∉ rs ∧ rs.Nodup ∧ Sl j a ∧ All2 (fun row r => Sl j r ∧ ∃ vs, H r = some (.lst vs) ∧ All2 (Rp F) row vs) rows rs := by
  obtain ⟨v, e1, a, rs, e2, sa, hH, n, nd, r⟩ := R.at_ j _ hj
  subst e2
  exact ⟨a, rs, e1, hH, n, nd, sa, r⟩
theorem REnv.write2 {F H : Hp} {σ : L2.St} {env : En} {Sl : Nat → Addr → Prop} {j n : Nat} {a r : Addr} {rows : List (List PyData)} {row' : List PyData} {rs : List Addr} {vs' : List V} (R : REnv F H σ env Sl) (hj : env[j]? = some (some (.ow2 rows)))
    (hv : σ[j]? = some (some (.ref a))) (hH : H a = some (.lst (rs.map V.ref))) (na : a ∉ rs) (nd : rs.Nodup) (sa : Sl j a) (all : All2 (fun row r => Sl j r ∧ ∃ vs, H r = some (.lst vs) ∧ All2 (Rp F) row vs) rows rs) (hn : rs[n]? = some r) (w : All2 (Rp F) row' vs') :
    Step F H Sl F (upd H r (.lst vs')) Sl ∧ REnv F (upd H r (.lst vs')) σ (env.set j (some (.ow2 (rows.set n row')))) Sl := by
  obtain ⟨row0, _, sr, vs0, hr0, _⟩ := all.getR hn
  have ar : a ≠ r := fun z => na (by rw [z]; exact List.mem_of_getElem? hn)
  have ns : ∀ i, i ≠ j → ¬ Sl i r := fun i n z => n (R.dj i j r z sr)
  have fr := (R.tr j r sr).1
  refine ⟨⟨Ex.refl F, fun b o h n _ => ?_, fun b o h => ?_, fun _ _ z => .inl z, fun _ _ z => .inl z, tabs_put (slo_of hr0)⟩, ⟨fun b o h => ?_, by rw [List.length_set]; exact R.len, fun i o h => ?_, R.dj, fun i b z => ?_, ⟨tabs_put (slo_of hr0) R.tb.tabs, R.tb.nF, R.tb.nS⟩⟩⟩
  · rw [upd_ne (fun z => n j (by rw [z]; exact sr))]; exact h
  · by_cases z : b = r
    · subst z; exact ⟨_, upd_same⟩
    · exact ⟨o, by rw [upd_ne z]; exact h⟩
  · rw [upd_ne (fun z => by rw [z, fr] at h; cases h)]; exact R.ex b o h
  · rcases set_at h with ⟨rfl, e2, _⟩ | ⟨ne, h'⟩
    · cases e2
      refine ⟨_, hv, a, rs, rfl, sa, by rw [upd_ne ar]; exact hH, na, nd, all_put all n row' r hn ⟨sr, vs', upd_same, w⟩ fun k x y kn hy hx => ?_⟩
      obtain ⟨s1, vs, h1, h2⟩ := hx
      have yr : y ≠ r := fun z => kn ((List.getElem?_inj (List.getElem?_eq_some_iff.mp hy).1 nd).mp (by rw [hy, hn, z]))
      exact ⟨s1, vs, by rw [upd_ne yr]; exact h1, h2⟩
    · obtain ⟨v2, e2, w2⟩ := R.at_ i o h'
      exact ⟨v2, e2, w2.ext (Ex.refl F) fun b u s q => by rw [upd_ne (fun z => ns i ne (by rw [← z]; exact s))]; exact q⟩
  · obtain ⟨y1, u, y2⟩ := R.tr i b z
    refine ⟨y1, ?_⟩
    by_cases e : b = r
    · subst e; exact ⟨_, upd_same⟩
    · exact ⟨u, by rw [upd_ne e]; exact y2⟩
/-! ### y = xs[i]; y.append(e), where xs holds lists of its own and y is not read again -/
theorem REnv.other {F H : Hp} {σ : L2.St} {env : En} {Sl : Nat → Addr → Prop} {i : Nat} (v : Option V) (R : REnv F H σ env Sl) : REnv F H (σ.set i v) (env.set i none) (lose Sl i) := by
  refine ⟨R.ex, by rw [List.length_set, List.length_set]; exact R.len, fun j u h => ?_, fun j k a x y => R.dj j k a x.2 y.2, fun j a x => R.tr j a x.2, R.tb.fewer fun _ _ z => ⟨_, z.2⟩⟩
  rcases set_at h with ⟨rfl, e2, _⟩ | ⟨ne, h'⟩
  · cases e2
  · obtain ⟨v2, e2, w2⟩ := R.at_ j u h'
    refine ⟨v2, ?_, w2.sub fun a s => ⟨ne, s⟩⟩
    rw [List.getElem?_set_ne (Ne.symm ne)]
    exact e2
def mAlias (j l : Nat) (mi : ME) (ma : MA) (m : MS) : MS := fun env => match env[j]? with
  | some (some (.ow2 rows)) => match mi env with
    | some (.val (.int x), _) => match ixN rows.length x with
      | some n => match rows[n]? with
        | some row => match ma (env.set l none) with
          | some ([.val d], _) => if l < env.length ∧ row.length < sizeLine then m ((env.set l none).set j (some (.ow2 (rows.set n (row ++ [d]))))) else none
          | _ => none
        | none => none
      | none => none
    | _ => none
  | _ => none
theorem rs_alias {K : PySem.W.Frag} {pn : List Nat} {ti : TE} {ta : TA} {mi : ME} {ma : MA} {t : TS} {m : MS} {j l : Nat} (hi : RE true ti mi) (ha : RA true ta ma) (h : RS pn t m) (hl : l ≠ j := by decide) (hp : l ∉ pn := by decide) :
    RS pn (tSeq (tAsg (tOp (rIx K) (tVar j) ti) (gName l)) (tSeq (tDrop (tBM K "list" rAppend (tVar l) ta)) t)) (mAlias j l mi ma m) := by
  intro F H σ env Sl R c env' e D q
  unfold mAlias at e
  split at e
  · rename_i rows h0
    split at e
    · rename_i x e3 h4
      split at e
      · rename_i n h5
        split at e
        · rename_i row h7
          split at e
          · rename_i d e4 h6
            split at e
            · rename_i hs
              obtain ⟨a, rs, ea, hH, na, nd, sa, all⟩ := R.held2 h0
              refine ⟨_, ea, ?_⟩
              refine hi F H σ env Sl R _ _ h4 _ fun r' F3 H3 Sl3 s3 pu3 R3 r3 => ?_
              obtain ⟨rfl, x3, rfl⟩ := pu3 rfl
              have hl2 : rows.length = rs.length := all.len
              obtain ⟨r0, hr0, sr0, vs, hv0, rr0⟩ := all.get h7
              have at0 : atI (rs.map V.ref) x = some (.ref r0) := by
                unfold atI
                rw [List.length_map, ← hl2, h5]
                show (rs.map V.ref)[n]? = _
                rw [List.getElem?_map, hr0]
                rfl
              refine .inl ⟨a, rs.map V.ref, x, .ref r0, rfl, pint r3, SqL.of (x3 _ _ hH), at0, ?_⟩
              have R4 := R3.other (i := l) (some (V.ref r0))
              have ll : l < σ.length := by rw [R.len]; exact hs.1
              have s4 : Step F3 H3 Sl3 F3 H3 (lose Sl3 l) := ⟨Ex.refl _, fun _ _ h _ _ => h, fun _ _ h => ⟨_, h⟩, fun _ _ z => .inl z.2, fun _ _ h => .inl h, fun t => t⟩
              refine ⟨_, List.getElem?_set_self ll, ?_, ?_⟩
              · exact Or.inl ⟨rfl, vs, SqL.of (x3 _ _ hv0)⟩
              refine ha F3 H3 _ _ _ R4 _ _ h6 _ fun r5 F5 H5 Sl5 s5 pu5 R5 r5' => ?_
              obtain ⟨rfl, x5, rfl⟩ := pu5 rfl
              cases r5' with
              | cons y ty =>
                cases ty
                rename_i v
                have h0' := show (e3.set l none)[j]? = some (some (.ow2 rows)) from by rw [List.getElem?_set_ne hl]; exact h0
                obtain ⟨a', rs', ea', hH', na', nd', sa', all'⟩ := R5.held2 h0'
                rw [List.getElem?_set_ne hl, ea] at ea'
                cases ea'
                have hH5 := x5 _ _ (x3 _ _ hH)
                rw [hH5] at hH'
                have ers : rs = rs' := refs_inj (HO.lst.inj (Option.some.inj hH'))
                subst ers
                obtain ⟨r1', hr1, sr1, vs1, hv1, rr1⟩ := all'.get h7
                rw [hr0] at hr1
                cases hr1
                obtain ⟨s6, R6⟩ := R5.write2 h0' (by rw [List.getElem?_set_ne hl]; exact ea) hH5 na nd sa' all' hr0 (rr1.snoc (pr_val y))
                refine ⟨r0, vs1, v, rfl, rfl, hv1, by rw [← rr1.len]; exact hs.2, ?_⟩
                exact h _ _ _ _ _ R6 c env' e D (q.step (s3.trans (s4.trans (s5.trans s6))) fun i z => List.getElem?_set_ne (fun w => hp (by rw [w]; exact z)))
            · cases e
          · cases e
        · cases e
      · cases e
    · cases e
  · cases e
end Tr
/-! Defs that may raise an own exception with one field. -/
namespace Tr
open PySem PySem.Spec PyProof.Rows L2
variable [TC]

/-! ### what a def gives: a thing, or an exception of the n-th class with the field d -/
inductive Xr where | ok (o : O) | ex (n : Nat) (d : PyData)
abbrev XF := List O → Option Xr
inductive Xc where | c (c : Ctl) | ex (n : Nat) (d : PyData)
abbrev MX := En → Option (Xc × En)
/-- classes: where they stand, and their field -/
abbrev Cl := Nat → Addr × Str
def XEnds (cl : Cl) (D : Ends) (W : WX) (F0 H0 : Hp) (Sl0 : Nat → Addr → Prop) (σ0 : L2.St) (c : Xc) (env' : En) : Prop := match c with
  | .c c => EndsAt [] D F0 H0 Sl0 σ0 c env'
  | .ex n d => ∀ F' H' σ' Sl' dx v, Step F0 H0 Sl0 F' H' Sl' → Ex F' H' → Rp F' d v → F' dx = none → H0 dx = none → H' dx = some (.xd [((cl n).2, v)]) → W (.ref (cl n).1) (some dx) σ' H'
def RX (cl : Cl) (W : WX) (t : TS) (m : MX) : Prop := ∀ F H σ env Sl, REnv F H σ env Sl → ∀ c env', m env = some (c, env') → ∀ D : Ends, XEnds cl D W F H Sl σ c env' → t D σ H
section
variable {cl : Cl} {W : WX}
theorem XEnds.step {D : Ends} {F H F1 H1 : Hp} {Sl Sl1 : Nat → Addr → Prop} {σ σ1 : L2.St} {c : Xc} {env' : En} (h : XEnds cl D W F H Sl σ c env') (s : Step F H Sl F1 H1 Sl1) : XEnds cl D W F1 H1 Sl1 σ1 c env' := by
  cases c with
  | c c => exact EndsAt.step (pn := []) h s fun _ z => by simp at z
  | ex n d => exact fun F' H' σ' Sl' dx v s' e r f n0 hd => h F' H' σ' Sl' dx v (s.trans s') e r f (s.tkb n0) hd
def xLift (m : MS) : MX := fun env => (m env).map fun r => (.c r.1, r.2)
theorem rx_lift {t : TS} {m : MS} (h : RS [] t m) : RX cl W t (xLift m) := by
  intro F H σ env Sl R c env' e D q
  unfold xLift at e
  cases h1 : m env with
  | none => rw [h1] at e; cases e
  | some r =>
    rw [h1] at e
    cases e
    exact h F H σ env Sl R r.1 r.2 h1 D q
def xSeq (m n : MX) : MX := fun env => match m env with
  | some (.c .nx, e) => n e
  | r => r
theorem rx_seq {t u : TS} {m n : MX} (h : RX cl W t m) (h' : RX cl W u n) : RX cl W (tSeq t u) (xSeq m n) := by
  intro F H σ env Sl R c env' e D q
  unfold xSeq at e
  split at e
  · rename_i e1 h1
    refine h F H σ env Sl R (.c .nx) e1 h1 _ fun F' H' σ' Sl' s R' p => ?_
    exact h' F' H' σ' e1 Sl' R' c env' e D (q.step s)
  · rename_i hn
    refine h F H σ env Sl R c env' e _ ?_
    cases c with
    | ex n d => exact q
    | c c =>
      cases c with
      | nx => exact absurd e (hn env')
      | bk => exact q
      | ct => exact q
      | rt o => exact q
theorem rx_if {pu : Bool} {tc : TT} {t u : TS} {mc : MT} {m n : MX} (h : RT pu tc mc) (h1 : RX cl W t m) (h2 : RX cl W u n) : RX cl W (tIfS tc t u) (mIf mc m n) := by
  intro F H σ env Sl R c env' e D q
  obtain ⟨b1, e1, x1, x2⟩ := bnd_of e
  refine h F H σ env Sl R b1 _ x1 _ fun r F1 H1 Sl1 s1 pu1 R1 r1 => ?_
  cases r1
  cases b1 with
  | true =>
    rw [if_pos rfl]
    exact h1 F1 H1 σ e1 Sl1 R1 c _ x2 D (q.step s1)
  | false =>
    rw [if_neg Bool.false_ne_true]
    exact h2 F1 H1 σ e1 Sl1 R1 c _ x2 D (q.step s1)
def xForGo (mg : PyData → En → Option En) (mb : MX) : List PyData → MX
  | [], env => some (.c .nx, env)
  | d :: ds, env => match mg d env with
    | some e1 => match mb e1 with
      | some (.c .nx, e2) => xForGo mg mb ds e2
      | some (.c .ct, e2) => xForGo mg mb ds e2
      | some (.c .bk, e2) => some (.c .nx, e2)
      | some (.c (.rt o), e2) => some (.c (.rt o), e2)
      | some (.ex n d, e2) => some (.ex n d, e2)
      | none => none
    | none => none
def xFor (mi : ML) (mg : PyData → En → Option En) (mb : MX) : MX := bnd mi fun ds e => xForGo mg mb ds e
theorem rx_for {wi : TI} {g : TG} {tb : TS} {is : List Nat} {mi : ML} {mg : PyData → En → Option En} {mb : MX} (hi : RI wi mi) (hg : RT' is g mg) (hb : RX cl W tb mb) : RX cl W (tFor wi g tb) (xFor mi mg mb) := by
  intro F H σ env Sl R c env' e D q
  obtain ⟨xs, e0, h1, h2⟩ := bnd_of e
  refine hi F H σ env Sl R xs _ h1 _ fun J F1 H1 Sl1 s1 R1 hJ => ?_
  have q1 := q.step (σ1 := σ) s1
  refine ⟨fun i m σi Hi => ∃ Fi Sli envi, i ≤ xs.length ∧ m = xs.length - i ∧ Ex F1 Fi ∧ REnv Fi Hi σi envi Sli ∧ XEnds cl D W Fi Hi Sli σi c env' ∧ xForGo mg mb (xs.drop i) envi = some (c, env'), ⟨xs.length, F1, Sl1, e0, Nat.zero_le _, by omega, Ex.refl F1, R1, q1, h2⟩, ?_⟩
  rintro i m σi Hi ⟨Fi, Sli, envi, hil, hm, exi, Ri, qi, go⟩
  cases hx : xs[i]? with
  | none =>
    have hge : xs.length ≤ i := List.getElem?_eq_none_iff.mp hx
    rw [List.drop_eq_nil_of_le hge] at go
    have go' : some (Xc.c Ctl.nx, envi) = some (c, env') := go
    cases go'
    exact .inl ⟨(hJ Fi Hi exi Ri.ex i).2 hx, qi Fi Hi σi Sli Step.refl Ri fun _ _ => rfl⟩
  | some d =>
    have hlt : i < xs.length := (List.getElem?_eq_some_iff.mp hx).1
    have hd : xs.drop i = d :: xs.drop (i + 1) := by
      rw [List.drop_eq_getElem_cons hlt]
      have := (List.getElem?_eq_some_iff.mp hx).2
      rw [this]
    rw [hd] at go
    unfold xForGo at go
    obtain ⟨jg, jy⟩ := (hJ Fi Hi exi Ri.ex i).1 d hx
    refine .inr ⟨jg, fun σ' H' => ∃ Fj Slj envj, i + 1 ≤ xs.length ∧ Ex F1 Fj ∧ REnv Fj H' σ' envj Slj ∧ XEnds cl D W Fj H' Slj σ' c env' ∧ xForGo mg mb (xs.drop (i + 1)) envj = some (c, env'), fun σ' H' ⟨Fj, Slj, envj, z1, z2, z3, z4, z5⟩ => ⟨xs.length - (i + 1), by omega, Fj, Slj, envj, z1, rfl, z2, z3, z4, z5⟩, fun x H' hy => ?_⟩
    obtain ⟨Fj, f1, f2, f3, f4, f5⟩ := jy x H' hy
    have Rj : REnv Fj H' σi envi Sli := Ri.grow f1 f2 f3 f4
    have qj := qi.step (σ1 := σi) (Step.grow (Sl := Sli) f1 f2 f4)
    cases hg1 : mg d envi with
    | none => rw [hg1] at go; cases go
    | some e1 =>
      rw [hg1] at go
      refine hg Fj H' σi envi Sli x d Rj f5 e1 hg1 _ fun σ2 Sl4 R4 k4 p4 l4 => ?_
      have q4 := qj.step (σ1 := σ2) (Step.fewer k4)
      cases hb1 : mb e1 with
      | none => simp only [hb1] at go; cases go
      | some ce =>
        obtain ⟨c1, e2⟩ := ce
        simp only [hb1] at go
        refine hb Fj H' σ2 e1 Sl4 R4 c1 e2 hb1 _ ?_
        cases c1 with
        | ex n d => cases go; exact q4
        | c c1 =>
          cases c1 with
          | nx => exact fun F' H'' σ' Sl' s' R' p' => ⟨F', Sl', e2, hlt, exi.trans (f1.trans s'.exF), R', q4.step s', go⟩
          | ct => exact fun F' H'' σ' Sl' s' R' p' => ⟨F', Sl', e2, hlt, exi.trans (f1.trans s'.exF), R', q4.step s', go⟩
          | bk => cases go; exact q4
          | rt o => cases go; exact q4

/-! ### raise X(e) -/
/-- X's own __init__: self.f = e -/
def spI (f : Str) (C : Addr) : Sp := fun vs H Q _ => ∃ a v, vs = [.ref a, v] ∧ H a = some (exo a C none) ∧ ∀ d, H d = none → Q .non (upd (upd H d (exd d [(f, v)])) a (exo a C (some d)))
def xRaise (n : Nat) (ma : MA) : MX := bnd ma fun ps e => match fzPs e ps with
  | some ([d], e2) => some (.ex n d, e2)
  | _ => none
theorem made_heap {H : Hp} {a d : Addr} {C : Addr} {f : Str} {v : V} {o : HO} (na : H a = none) (nd : d ≠ a) :
    upd (del (upd (upd (upd H a o) d (exd d [(f, v)])) a (exo a C (some d))) a) d (.xd [(f, v)]) = upd H d (.xd [(f, v)]) := by
  funext b
  by_cases hd : b = d
  · rw [hd, upd_same, upd_same]
  · rw [upd_ne hd, upd_ne hd]
    by_cases ha : b = a
    · rw [ha, del_same, na]
    · rw [del_ne ha, upd_ne ha, upd_ne hd, upd_ne ha]
theorem rx_raise {pu : Bool} {ta : TA} {ma : MA} {C : Addr} {f : Str} {n : Nat} (hcl : cl n = (C, f)) (h : RA pu ta ma) : RX cl W (fun _ σ H => tMkO C (spI f C) [] ta σ H fun cls d H' => W cls d σ H') (xRaise n ma) := by
  intro F H σ env Sl R c env' e D q
  obtain ⟨ps, e1, h1, h2⟩ := bnd_of e
  split at h2
  · rename_i d e2 h3
    cases h2
    refine h F H σ env Sl R ps _ h1 _ fun vs F1 H1 Sl1 s1 pu1 R1 r1 => ?_
    obtain ⟨F2, Sl2, s2, R2, r2⟩ := fzPs_ok R1 r1 h3
    cases r2 with
    | cons rv rn =>
      cases rn
      rename_i v
      refine ⟨by simp, fun a na => ⟨a, v, rfl, upd_same, fun dx hdx => ⟨rfl, dx, [(f, v)], upd_same, ?_, ?_, ?_⟩⟩⟩
      · have nd : dx ≠ a := fun z => by rw [z, upd_same] at hdx; cases hdx
        rw [upd_ne nd, upd_same]
      · have nd : dx ≠ a := fun z => by rw [z, upd_same] at hdx; cases hdx
        rw [upd_ne nd] at hdx
        exact hdx
      · have nd : dx ≠ a := fun z => by rw [z, upd_same] at hdx; cases hdx
        rw [upd_ne nd] at hdx
        rw [made_heap na nd]
        have fd : F2 dx = none := R2.ex.none hdx
        have s3 : Step F2 H1 Sl2 F2 (upd H1 dx (.xd [(f, v)])) Sl2 := Step.grow (Ex.refl F2) (fun b o z => by rw [upd_ne (ne_of_none z hdx)]; exact z) fun b o z => .inl z
        have q' := q F2 (upd H1 dx (.xd [(f, v)])) σ Sl2 dx v (s1.trans (s2.trans s3)) (R2.ex.trans (Ex.new hdx)) rv fd (s1.tkb hdx) (by rw [hcl]; exact upd_same)
        rw [hcl] at q'
        exact q'
  · cases h2
end
end Tr
namespace Tr
open PySem PySem.Spec PyProof.Rows L2
variable [TC]
/-! ### defs that may raise -/
structure FnX (P : Program) (w : World) (K : PySem.W.Frag) (mg : Str → Option Value) (base : Heap) (k : Nat) (f : Addr) (fd : FuncData) (ps : List Str) (sp : Sp) : Prop where
  len : ∀ vs H Q E, sp vs H Q E → vs.length = ps.length
  go : ∀ (A : Around) (ou : List Env) (s : Shared) (H : Hp) (ar : Args) (us : List Value) (vs : List V) (Q : VK) (E : XK), Room k A → A.guards = some [] → Env0 P w K mg base A ou s H → BindsTo s fd ar (ps.zip us) → Vals vs us → sp vs H Q E →
    codeAny (model P w) A (.call (.ref f) ar) (CR (L2.CX P w) ou P w H s Q E) s
section
variable {P : Program} {w : World} {K : PySem.W.Frag} {mg : Str → Option Value} {base : Heap}
theorem FnX.mono {j k : Nat} {f : Addr} {fd : FuncData} {ps : List Str} {sp : Sp} (F : FnX P w K mg base j f fd ps sp) (h : j ≤ k) : FnX P w K mg base k f fd ps sp :=
  ⟨F.len, fun A ou s H ar us vs Q E r => F.go A ou s H ar us vs Q E (r.mono h)⟩
end
section
variable {X : Cx} {k : Nat} {f : Addr} {fd : FuncData} {ps : List Str} {sp : Sp} {x : Str} {p pos : Pos} {e : Expr} {es : List Expr} {t : TA} {E : L2.St → XK}
end

def spX (cl : Cl) (xf : XF) : Sp := fun vs H Q E => ∃ (F : Hp) (os : List O) (Sl : Nat → Addr → Prop) (r : Xr), REnv F H (vs.map some) (os.map some) Sl ∧ (∀ (k : Nat) (b : Addr), ¬ Sl k b) ∧ (∀ (k : Nat) (o : O), os[k]? = some o → plainO o = true) ∧ xf os = some r ∧
  match r with
  | .ok o => ∀ v F' H' Sl' T, Step F H Sl F' H' Sl' → REnv F' H' (vs.map some) (os.map some) Sl' → (∀ k b, ¬ Sl' k b) → New F' H H' Sl' o v T → Q v H'
  | .ex n d => ∀ F' H' dx v, Step F H Sl F' H' (fun _ _ => False) → Ex F' H' → Rp F' d v → F' dx = none → H dx = none → H' dx = some (.xd [((cl n).2, v)]) → E (.ref (cl n).1) (some dx) H'
def xDef (n np : Nat) (m : MX) : XF := fun os => if os.length = np then match m (os.map some ++ List.replicate (n - os.length) none) with
  | some (.c (.rt r), _) => some (.ok r)
  | some (.c .nx, _) => some (.ok (.fz .none))
  | some (.ex n d, _) => some (.ex n d)
  | _ => none else none
theorem byX_len {cl : Cl} {n np : Nat} {m : MX} {vs : List V} {H : Hp} {Q : VK} {E : XK} (h : spX cl (xDef n np m) vs H Q E) : vs.length = np := by
  obtain ⟨F, os, Sl, r, R, _, _, hm, _⟩ := h
  have hl := R.len
  rw [List.length_map, List.length_map] at hl
  unfold xDef at hm
  split at hm
  · rename_i hn
    rw [hl, hn]
  · cases hm
theorem def_okX {cl : Cl} {t : TS} {m : MX} {N : List Str} {vs : List V} {H : Hp} {Q : VK} {E : XK} (h : RX cl (fun cls d _ H => E cls d H) t m) {np : Nat} (hsp : spX cl (xDef N.length np m) vs H Q E) : t { nx := fun _ H' => Q .non H', rt := Q } (L2.start N vs) H := by
  obtain ⟨F, os, Sl, r, R, hs, pl, hm, q⟩ := hsp
  have hs' : ∀ k b, Sl k b → k ∈ ([] : List Nat) := fun k b z => (hs k b z).elim
  have pl' : ∀ k o, os[k]? = some o → k ∉ ([] : List Nat) → plainO o = true := fun k o z _ => pl k o z
  unfold xDef at hm
  split at hm
  case isFalse => cases hm
  split at hm
  · rename_i o env' h1
    cases hm
    refine h F H _ _ Sl R.enter (.c (.rt o)) env' h1 _ fun v F' H' σ' Sl' T s R' p w dj tr nw => ?_
    obtain ⟨_, Sl'', s'', R'', hs'', k⟩ := leave (N := N) (pn := []) (r' := o) (r := o) R pl' hs' s R' (fun i z => by simp at z) rfl
    refine q v F' H' Sl'' T s'' R'' (fun k b z => nomatch hs'' k b z) ⟨w, fun i a x y => dj i a x (k i a y), tr, fun a z => ?_⟩
    rcases nw a z with y | ⟨i, hi, y⟩
    · exact y
    · exact (hs i a y).elim
  · rename_i env' h1
    cases hm
    refine h F H _ _ Sl R.enter (.c .nx) env' h1 _ fun F' H' σ' Sl' s R' p => ?_
    obtain ⟨_, Sl'', s'', R'', hs'', k⟩ := leave (N := N) (pn := []) (r' := O.fz .none) (r := O.fz .none) R pl' hs' s R' (fun i z => by simp at z) rfl
    exact q .non F' H' Sl'' (fun _ => False) s'' R'' (fun k b z => nomatch hs'' k b z) ⟨rfl, fun _ _ z => z.elim, fun _ z => z.elim, fun _ z => z.elim⟩
  · rename_i n d env' h1
    cases hm
    refine h F H _ _ Sl R.enter (.ex n d) env' h1 _ fun F' H' σ' Sl' dx v s e rv fd hd0 hd => ?_
    exact q F' H' dx v (s.trans (Step.fewer fun _ _ z => z.elim)) e rv fd hd0 hd
  · cases hm
/-- f(..) as a statement -/
def xCall (xf : XF) (ma : MA) : MX := bnd ma fun ps e => match prepX ps e with
  | some (os, e2) => match xf os with
    | some (.ok _) => some (.c .nx, e2)
    | some (.ex n d) => some (.ex n d, e2)
    | none => none
  | none => none
/-- what a call of such a def leaves for its caller -/
theorem callX_any {cl : Cl} {pu : Bool} {ta : TA} {ma : MA} {xf : XF} {F H : Hp} {σ : L2.St} {env : En} {Sl : Nat → Addr → Prop} {ps : List P} {e1 e2 : En} {os : List O} {r : Xr} (h : RA pu ta ma) (R : REnv F H σ env Sl) (h1 : ma env = some (ps, e1)) (h3 : prepX ps e1 = some (os, e2)) (h4 : xf os = some r)
    {Q : VK} {E : L2.St → XK}
    (ok : ∀ o, r = .ok o → ∀ v F' H' Sl' T, Step F H Sl F' H' Sl' → REnv F' H' σ e2 Sl' → New F' H H' Sl' o v T → Q v H')
    (ex : ∀ n d, r = .ex n d → ∀ F' H' Sl' dx v, Step F H Sl F' H' Sl' → REnv F' H' σ e2 Sl' → Rp F' d v → F' dx = none → H dx = none → H' dx = some (.xd [((cl n).2, v)]) → E σ (.ref (cl n).1) (some dx) H') : tCallS (spX cl xf) E ta σ H Q := by
  refine h F H σ env Sl R ps _ h1 _ fun vs F1 H1 Sl1 s1 pu1 R1 r1 => ?_
  obtain ⟨F2, Sl2, s2, R2, l2, r2⟩ := prepX_ok R1 r1 h3
  refine ⟨F2, os, fun _ _ => False, r, ⟨R2.ex, by rw [List.length_map, List.length_map, l2], fun i u hu => ?_, fun _ _ _ z => z.elim, fun _ _ z => z.elim, R2.tb.fewer fun _ _ z => z.elim⟩, fun _ _ z => z, fun k u hu => ?_, h4, ?_⟩
  · have hi := args_at hu
    have hv : i < vs.length := by rw [← l2]; exact (List.getElem?_eq_some_iff.mp hi).1
    obtain ⟨rp, rr⟩ := r2 i u vs[i] hi (List.getElem?_eq_getElem hv)
    exact ⟨vs[i], by rw [List.getElem?_map, List.getElem?_eq_getElem hv]; rfl, rr _ _⟩
  · have hv : k < vs.length := by rw [← l2]; exact (List.getElem?_eq_some_iff.mp hu).1
    obtain ⟨rp, rr⟩ := r2 k u vs[k] hu (List.getElem?_eq_getElem hv)
    exact rp
  · cases r with
    | ok o =>
      intro v F3 H3 Sl3 T s3 R3 hs3 n3
      have s4 : Step F2 H1 Sl2 F3 H3 Sl2 := s3.frame fun _ _ y => y
      have R4 : REnv F3 H3 σ e2 Sl2 := R2.frame s3 (fun _ _ y => y) R3.ex
      refine ok o rfl v F3 H3 Sl2 T (s1.trans (s2.trans s4)) R4 ⟨n3.own, fun i a x y => ?_, n3.tr, fun a x => s1.tkb (s2.tkb (n3.nw a x))⟩
      obtain ⟨_, u, z⟩ := R2.tr i a y
      rw [n3.nw a x] at z
      cases z
    | ex n d =>
      intro F3 H3 dx v s3 e3 rv fd hd0 hd
      have s4 : Step F2 H1 Sl2 F3 H3 Sl2 := s3.frame fun _ _ y => y
      have R4 : REnv F3 H3 σ e2 Sl2 := R2.frame s3 (fun _ _ y => y) e3
      exact ex n d rfl F3 H3 Sl2 dx v (s1.trans (s2.trans s4)) R4 rv fd (s1.tkb (s2.tkb hd0)) hd
theorem rx_call {cl : Cl} {W : WX} {pu : Bool} {ta : TA} {ma : MA} {xf : XF} (h : RA pu ta ma) : RX cl W (tDrop (tCallS (spX cl xf) (WE W) ta)) (xCall xf ma) := by
  intro F H σ env Sl R c env' e D q
  obtain ⟨ps, e1, h1, h2⟩ := bnd_of e
  split at h2
  · rename_i os e2 h3
    split at h2
    · rename_i o h4
      cases h2
      exact callX_any h R h1 h3 h4 (fun o' eo v F' H' Sl' T s R' n => q F' H' σ Sl' s R' fun _ _ => rfl) fun n d z => nomatch z
    · rename_i n d h4
      cases h2
      refine callX_any h R h1 h3 h4 (fun o z => nomatch z) fun n' d' z F' H' Sl' dx v s R' rv fd hd0 hd => ?_
      cases z
      exact q F' H' σ Sl' dx v s R'.ex rv fd hd0 hd
    · cases h2
  · cases h2
end Tr
namespace Tr
open PySem PySem.Spec PyProof.Rows L2
variable [TC]
/-! ### an exception that is kept behind its except suite -/
def ExK (a : Addr) (cls : Value) (d : Option Addr) : HO := .ext fun h => ∃ (oe : Obj) (vs : Array Value), h.get? a = some oe ∧ Zc cls d oe ∧ oe.data = .fields vs
theorem exK_ok {P : Program} {w : World} {H : Hp} {h : Heap} {a : Addr} {cls : Value} {d : Option Addr} {oe : Obj} {vs : Array Value} (e : h.get? a = some oe) (z : Zc cls d oe) (q : oe.data = .fields vs) : ObjOk P w H h a (ExK a cls d) :=
  ⟨⟨oe, vs, e, z, q⟩, ⟨oe, e⟩, fun _ _ ⟨o, v, x, r⟩ k => ⟨o, v, k o x, r⟩⟩
section
variable {X : Cx} {pins : List (Addr × Obj)} {σ : L2.St} {H : Hp} {s : Shared}
theorem Inv.track {a : Addr} {oe : Obj} {vs : Array Value} {cls : Value} {d : Option Addr} (I : Inv X pins σ H s) (ha : s.heap.get? a = some oe) (hz : Zc cls d oe) (hd : oe.data = .fields vs) (na : H a = none) (n0 : X.s_0.heap.get? a = none) (nL : a ≠ X.env.locals)
    (nc : ∀ x c, X.env.cells.lookup x = some c → c ≠ a) (np : ∀ p ∈ X.pn ++ pins, p.1 ≠ a) : Inv X pins σ (upd H a (ExK a cls d)) s := by
  have old : ∀ b o, X.s_0.heap.get? b = some o → b ≠ a := fun b o e z => by rw [z, n0] at e; cases e
  have neT : ∀ {b : Addr} {o : HO}, H b = some o → b ≠ a := fun {b o} e z => by rw [z, na] at e; cases e
  refine ⟨I.ok, I.os, I.bare, ⟨I.base.keep, I.base.slot, fun b o e n hx => ?_, I.base.there, fun b xs e => ?_, fun b o u e => ?_, fun b ps e => ?_⟩, I.loc, I.cell, ?_, fun x c e => ?_, fun p hp => ?_, fun b u e => ?_, I.len⟩
  · rw [upd_ne (old b o e)]; exact I.base.free b o e n hx
  · have q := I.base.tups b xs e
    rw [upd_ne (neT q)]; exact q
  · have q := I.base.frzs b o u e
    rw [upd_ne (neT q)]; exact q
  · obtain ⟨m, q⟩ := I.base.tbls b ps e
    exact ⟨m, by rw [upd_ne (neT q)]; exact q⟩
  · rw [upd_ne (Ne.symm nL)]; exact I.free
  · rw [upd_ne (nc x c e)]; exact I.freeC x c e
  · obtain ⟨e, n, r⟩ := I.pin p hp
    exact ⟨e, by rw [upd_ne (np p hp)]; exact n, r⟩
  · by_cases hb : b = a
    · subst hb
      rw [upd_same] at e
      cases e
      exact exK_ok ha hz hd
    · rw [upd_ne hb] at e
      exact (I.hok b u e).stay (fun c v _ q => q) (fun c q => by rw [upd_ne (neT q)]; exact q) fun c xs q => by rw [upd_ne (neT q)]; exact q
end
section
variable {X : Cx} {x n : Str} {c : Value} {i : Nat} {body suite : List Stmt} {b₀ : Stmt} {np pos pos' : Pos} {tb : WX → TS} {ts : Addr → Value → Option Addr → TS} {Wout : WX}
end
/-! ### kept.f; isinstance(kept, T) -/
/-- what the written part says of the class -/
structure KcC (K : PySem.W.Frag) (C : Addr) (f : Str) : Prop where
  ga : PySem.W.findIn K (.ref C) "__getattribute__" = some (some (.builtin "BaseException.__getattribute__"))
  gg : PySem.W.findIn K (.ref C) "__getattr__" = some none
  exC : PySem.W.subIn K (.ref C) (.type "BaseException") = some true
  hdC : PySem.W.hasDictIn K C = true
  noF : PySem.W.findIn K (.ref C) f = some none
  clC : (PySem.W.clsIn K C).isSome = true
  ca : PySem.W.findIn K (.ref C) "__class__" = some (some (.builtin "object.__class__"))
  cn : PySem.W.specialIn K (.builtin "object.__class__") "__get__" = some (some (.builtin "getset_descriptor.__get__"))
  ct : PySem.W.takesIn K (.builtin "object.__class__") = some true
  cm : PySem.W.mroIn K C (.type "object") = some true
def tKf (K : PySem.W.Frag) (f : Str) (te : TE) : TE := fun σ H Q => te σ H fun x H1 => ∃ a C d v, x = .ref a ∧ H1 a = some (ExK a (.ref C) (some d)) ∧ H1 d = some (.xd [(f, v)]) ∧ KcC K C f ∧ Q v H1
theorem kept_at {P : Program} {w : World} {H : Hp} {h : Heap} {a C d : Addr} {f : Str} {v : V} (hok : HOk P w H h) (ea : H a = some (ExK a (.ref C) (some d))) (ed : H d = some (.xd [(f, v)])) : ∃ (oe : Obj) (od : Obj) (u : Value), PySem.W.InstAt h a oe C (some od) ∧ RelV v u ∧ PySem.W.lookIn f od = some (some u) := by
  obtain ⟨⟨oe, vs, e, z, q⟩, _⟩ := hok a _ ea
  obtain ⟨mA, hns, hr⟩ := hok d _ ed
  obtain ⟨od, ho, hl⟩ := lookIn_ns hns
  have l : List.lookup f [(f, v)] = some v := by simp [List.lookup]
  obtain ⟨u, hu, ru⟩ := RelO.some_of (v := v) (o := mA f) (by rw [← l]; exact hr f)
  exact ⟨oe, od, u, ⟨e, z.1, by unfold PySem.W.notCls; rw [q] <;> rfl, by rw [z.2]; exact ho⟩, ru, by rw [hl, hu]⟩
theorem pe_kf {X : Cx} {e : Expr} {te : TE} {pos : Pos} {f : Str} (he : PE X e te) (hb : attributeBase e f X.env (eval e X.env) = eval e X.env := by rfl) : PE X (.Attribute e f pos) (tKf X.K f te) := by
  refine ⟨fun pins s σ H Q I h => ?_⟩
  refine attr_of hb (thn (he.run pins s σ H _ I h) fun u s1 hh => ?_)
  obtain ⟨x, H1, I1, rx, a, C, d, v, ex, ea, ed, T, q⟩ := hh
  subst ex
  obtain rfl : u = Value.ref a := rx
  obtain ⟨oe, od, u, J, ru, hl⟩ := kept_at I1.hok ea ed
  exact HandSPX.exc_get I1.kIn J T.ga T.gg T.exC (PySem.W.findObj_own T.hdC T.noF rfl hl) (handed_of ru) ⟨v, H1, I1.tok _, ru, q⟩
/-- isinstance(kept, T) -/
def rIsK (K : PySem.W.Frag) : List V → Hp → VK → Prop := fun xs H Q => ∃ (a C d : Addr) (f : Str) (v c : V) (cv : Value) (b : Bool), xs = [.ref a, c] ∧ H a = some (ExK a (.ref C) (some d)) ∧ H d = some (.xd [(f, v)]) ∧ KcC K C f ∧ ClsV c cv ∧ PySem.W.kitOne K (.ref C) cv = some b ∧ Q (.bl b) H
theorem call_isK {X : Cx} : CallR X (.builtin "isinstance") (rIsK X.K) := by
  intro pins s σ H xs us Q I r h
  obtain ⟨a, C, d, f, v, c, cv, b, rfl, ea, ed, T, k, e, q⟩ := h
  obtain ⟨u1, u2, rfl, r1, r2⟩ := vals2 r
  have e2 := k.eq r2
  subst e2
  cases (show u1 = Value.ref a from r1)
  obtain ⟨oe, od, u, J, ru, hl⟩ := kept_at I.hok ea ed
  exact PySem.W.kia_one (PySem.W.kitx_exc (gt := none) T.clC T.ga T.gg T.exC T.ca T.cn T.ct T.cm) I.kIn J e (fun z => nomatch z) fun tk => ⟨.bl b, H, I.tok tk, rfl, q⟩
end Tr
namespace Tr
open PySem PySem.Spec PyProof.Rows L2
variable [TC]
end Tr
namespace Tr
open PySem PySem.Spec PyProof.Rows L2
variable [TC]
/-! ### {} -/
def mDict : ME := fun env => some (.val (.dict []), env)
theorem re_dict : RE false tDNewK mDict := by
  intro F H σ env Sl R p env' e Q q
  cases e
  intro a na
  have fa := R.ex.none na
  have x : Ex F (upd F a (.dK [])) := Ex.new fa
  have y : Ex H (upd H a (.dK [])) := Ex.new na
  have z : Ex (upd F a (.dK [])) (upd H a (.dK [])) := fun b o h => by
    by_cases e : b = a
    · subst e; rw [upd_same] at h ⊢; exact h
    · rw [upd_ne e] at h ⊢; exact R.ex _ _ h
  have w : ∀ b o, upd F a (.dK []) b = some o → F b = some o ∨ H b = none := fun b o h => by
    by_cases e : b = a
    · subst e; exact .inr na
    · rw [upd_ne e] at h; exact .inl h
  exact q _ _ _ Sl (Step.grow x y w) (fun z => nomatch z) (R.grow x y z w) ⟨rfl, a, rfl, upd_same⟩
/-! ### tuple(xs), str(n) -/
theorem tupleK {X : Cx} {K : PySem.W.Frag} (h : X.K = K := by rfl) : CallR X (.type "tuple") (fun xs H Q => ∃ p ys, xs = [.ref p] ∧ ((SqL K H p ys ∧ ∀ l, H l = none → Q (.ref l) (upd H l (.tup ys))) ∨ (SqT K H p ys ∧ Q (.ref p) H))) := by subst h; exact call_tuple_of
def gTupleOf : En → List P → Option P := fun env ps => match ps with
  | [p] => (sq env p).map fun ds => .val (.tuple ds)
  | _ => none
theorem f_tuple {K : PySem.W.Frag} : FnK (fun xs H Q => ∃ p ys, xs = [.ref p] ∧ ((SqL K H p ys ∧ ∀ l, H l = none → Q (.ref l) (upd H l (.tup ys))) ∨ (SqT K H p ys ∧ Q (.ref p) H))) gTupleOf := by
  intro F H σ env Sl xs ps p R h e Q q
  unfold gTupleOf at e
  split at e
  · rename_i p1
    cases h with
    | cons a t =>
      cases t
      cases h1 : sq env p1 with
      | none => rw [h1] at e; cases e
      | some ds =>
        rw [h1] at e
        cases e
        obtain ⟨b, vs, rfl, hl, r⟩ := sq_of R a h1
        refine ⟨b, vs, rfl, .inl ⟨SqL.of hl, fun l nl => ?_⟩⟩
        obtain ⟨x, y, z, w, rr⟩ := new_tup R.ex nl r
        exact q _ _ _ x y z w rr
  · cases e
def gStrI : En → List P → Option P := fun env ps => match ps with
  | [.val (.int i)] => if i.natAbs.log2 < 1920 then some (.val (.str (toString i))) else none
  | _ => none
theorem f_strI : FnK (fun xs H Q => ∃ i : Int, xs = [.int i] ∧ i.natAbs.log2 < 1920 ∧ Q (.str (toString i)) H) gStrI := by
  intro F H σ env Sl xs ps p R h e Q q
  unfold gStrI at e
  split at e
  · rename_i i
    split at e
    · rename_i hb
      cases e
      cases h with
      | cons a t =>
        cases t
        exact ⟨i, by rw [show _ = V.int i from a], hb, q _ F H (Ex.refl F) (Ex.refl H) R.ex (fun _ _ z => .inl z) rfl⟩
    · cases e
  · cases e
/-! ### [a, b] == [c, d] of names, none of which is fixed by it -/
def vws (env : En) : List Nat → Option (List PyData)
  | [] => some []
  | i :: is => match vw env (.var i), vws env is with
    | some d, some ds => some (d :: ds)
    | _, _ => none
def tVars : List Nat → TA
  | [] => tNil
  | i :: is => tCons (tVar i) (tVars is)
theorem vws_ok {F H : Hp} {σ : L2.St} {env : En} {Sl : Nat → Addr → Prop} (R : REnv F H σ env Sl) : ∀ {is : List Nat} {ds : List PyData} {Q : List V → Hp → Prop}, vws env is = some ds → (∀ vs, All2 (Rp H) ds vs → Q vs H) → tVars is σ H Q
  | [], ds, Q, e, q => by
    cases e
    exact q [] .nil
  | i :: is, ds, Q, e, q => by
    unfold vws at e
    split at e
    · rename_i d ds' h1 h2
      cases e
      have hv : ∃ v, σ[i]? = some (some v) := by
        simp only [vw] at h1
        split at h1
        · rename_i o he; obtain ⟨v, a, _⟩ := R.at_ i _ he; exact ⟨v, a⟩
        · rename_i o he; obtain ⟨v, a, _⟩ := R.at_ i _ he; exact ⟨v, a⟩
        · rename_i o he; obtain ⟨v, a, _⟩ := R.at_ i _ he; exact ⟨v, a⟩
        · cases h1
      obtain ⟨v, hv⟩ := hv
      refine ⟨v, hv, vws_ok R h2 fun vs r => q (v :: vs) (.cons (vw_rp (p := .var i) R hv h1) r)⟩
    · cases e
theorem tVars_len {is : List Nat} {σ : L2.St} {H : Hp} {Q : List V → Hp → Prop} (h : tVars is σ H Q) : tVars is σ H fun vs H' => vs.length = is.length ∧ Q vs H' := by
  induction is generalizing Q with
  | nil => exact ⟨rfl, h⟩
  | cons i is ih =>
    obtain ⟨v, hv, h⟩ := h
    refine ⟨v, hv, ?_⟩
    have := ih h
    exact tVars_mono this fun vs H' ⟨l, q⟩ => ⟨by simp [l], q⟩
where
  tVars_mono : ∀ {is : List Nat} {σ : L2.St} {H : Hp} {Q Q' : List V → Hp → Prop}, tVars is σ H Q → (∀ vs H', Q vs H' → Q' vs H') → tVars is σ H Q'
    | [], _, _, _, _, h, k => k _ _ h
    | i :: is, σ, H, Q, Q', ⟨v, hv, h⟩, k => ⟨v, hv, tVars_mono (is := is) h fun vs H' q => k _ _ q⟩
/-! ### a, b = e, e' where both hold what is new -/
def mAsg2 (i j : Nat) (m n : MO) : MS := bnd m fun o e => bnd n (fun o' e2 => if i ≠ j then some (.nx, (e2.set i (some o)).set j (some o')) else none) e
theorem rs_asg2 {pn : List Nat} {te te' : TE} {m n : MO} {i j : Nat} (h : RO te m) (h' : RO te' n) (hp : i ∉ pn := by decide) (hp' : j ∉ pn := by decide) :
    RS pn (tPar i j (tCons te (tCons te' tNil))) (mAsg2 i j m n) := by
  intro F H σ env Sl R c env' e D q
  obtain ⟨o, e1, h1, h2⟩ := bnd_of e
  obtain ⟨o', e2, h3, h4⟩ := bnd_of h2
  split at h4
  · rename_i hij
    cases h4
    refine h F H σ env Sl R o _ h1 _ fun v F1 H1 Sl1 T s1 R1 n1 => ?_
    refine h' F1 H1 σ e1 Sl1 R1 o' _ h3 _ fun v' F2 H2 Sl2 T' s2 R2 n2 => ?_
    have y : Ex H2 H2 := Ex.refl H2
    -- what v holds stands as it did
    have keep : ∀ a u, T a → H1 a = some u → H2 a = some u := fun a u t z => s2.fr a u z (fun k => n1.dj k a t) (notT0 R.tb.tabs (n1.nw a t))
    have w1 : Own F2 H2 o v T := n1.own.ext s2.exF keep
    have t1 : ∀ a, T a → F2 a = none ∧ ∃ u, H2 a = some u := fun a t => by
      obtain ⟨x, u, z⟩ := n1.tr a t
      refine ⟨?_, u, keep a u t z⟩
      cases w : F2 a with
      | none => rfl
      | some u' =>
        rcases s2.fz a u' w with q | q | ⟨k, q⟩
        · rw [x] at q; cases q
        · rw [z] at q; cases q
        · exact (n1.dj k a t q).elim
    have d1 : ∀ k a, T a → ¬ Sl2 k a := fun k a t z => by
      rcases s2.own k a z with q | q
      · exact n1.dj k a t q
      · obtain ⟨_, u, w⟩ := n1.tr a t
        rw [q] at w; cases w
    have d2 : ∀ a, T a → ¬ T' a := fun a t z => by
      have q := n2.nw a z
      obtain ⟨_, u, w⟩ := n1.tr a t
      rw [q] at w; cases w
    have R3 : REnv F2 H2 σ e2 Sl2 := R2.grow (Ex.refl F2) y (R2.ex.trans y) fun b o z => .inl z
    have R4 := R3.put (i := i) (w1.ext (Ex.refl F2) fun a u _ z => y a u z) (fun k a x z => (d1 k a x z).elim) (fun a t => ⟨(t1 a t).1, let ⟨u, z⟩ := (t1 a t).2; ⟨u, y a u z⟩⟩) fun a t => notT0 R.tb.tabs (n1.nw a t)
    have R5 := R4.put (i := j) (n2.own.ext (Ex.refl F2) fun a u _ z => y a u z) (fun k a x z => by
      rcases z with ⟨_, z⟩ | ⟨_, z⟩
      · exact (n2.dj k a x z).elim
      · exact (d2 a z x).elim) (fun a t => ⟨(n2.tr a t).1, let ⟨u, z⟩ := (n2.tr a t).2; ⟨u, y a u z⟩⟩) fun a t => notT0 R1.tb.tabs (n2.nw a t)
    refine ⟨v, v', rfl, ?_⟩
    refine q _ _ _ _ ?_ R5 fun k z => pin_set k ?_ |>.trans (pin_set k ?_)
    · have s3 : Step F2 H2 Sl2 F2 H2 Sl2 := Step.grow (Ex.refl F2) y fun b o z => .inl z
      have s := s1.trans (s2.trans s3)
      exact ⟨s.exF, s.fr, s.tk, fun k b z => by
        rcases z with ⟨_, z⟩ | ⟨_, z⟩
        · rcases z with ⟨_, z⟩ | ⟨_, z⟩
          · exact s.own k b z
          · exact .inr (n1.nw b z)
        · exact .inr (s1.tkb (n2.nw b z)), s.fz, s.tb⟩
    · simp; intro y; exact hp' (y ▸ z)
    · simp; intro y; exact hp (y ▸ z)
  · cases h4
end Tr
namespace Tr
open PySem PySem.Spec PyProof.Rows L2
variable [TC]
theorem isKK {X : Cx} {K : PySem.W.Frag} (h : X.K = K := by rfl) : CallR X (.builtin "isinstance") (rIsK K) := by subst h; exact call_isK
theorem kfK {X : Cx} {K : PySem.W.Frag} {e : Expr} {te : TE} {pos : Pos} {f : Str} (he : PE X e te) (h : X.K = K := by rfl) (hb : attributeBase e f X.env (eval e X.env) = eval e X.env := by rfl) : PE X (.Attribute e f pos) (tKf K f te) := by subst h; exact pe_kf he hb
theorem kit_ve {K : PySem.W.Frag} {C : Addr} (h : PySem.W.subIn K (.ref C) (.type "ValueError") = some true) : PySem.W.kitOne K (.ref C) (.type "ValueError") = some true := by
  have e : PySem.W.kitMeta "ValueError" = true := by decide +kernel
  have e2 : (Value.ref C == Value.type "ValueError") = false := by
    rw [beq_eq_false_iff_ne]
    intro z
    cases z
  show (if (Value.ref C == Value.type "ValueError") = true then some true else (if PySem.W.kitMeta "ValueError" = true then PySem.W.subIn K (.ref C) (.type "ValueError") else none)) = some true
  rw [e2, if_neg Bool.false_ne_true, if_pos e]
  exact h
/-- what the body of an own __init__ asks -/
theorem init_read {K : PySem.W.Frag} {C : Addr} {f m : Str} {N : List Str} {vs : List V} {H : Hp} {Q : VK} {E : XK} (hN : N.length = 2) (T : OexC K C) (hno : PySem.W.findIn K (.ref C) f = some none) (h : spI f C vs H Q E) :
    tSeq (tDrop (tVeI K (tCons (tVar 0) (tCons (tC (.str m)) tNil)))) (tOst K f (tVar 0) (tVar 1)) { nx := fun _ H' => Q .non H', rt := Q } (L2.start N vs) H := by
  obtain ⟨a, v, rfl, ha, q⟩ := h
  have s0 : (L2.start N [V.ref a, v])[0]? = some (some (.ref a)) := start_of rfl
  have s1 : (L2.start N [V.ref a, v])[1]? = some (some v) := start_of rfl
  refine ⟨.ref a, s0, a, C, [.str m], rfl, by simp, T, ha, ?_⟩
  refine ⟨v, s1, .ref a, s0, a, C, rfl, T, hno, .inl ⟨ha, fun dx hdx hne => ?_⟩⟩
  exact q dx hdx
end Tr
namespace Tr
open PySem PySem.Spec PyProof.Rows L2
variable [TC]
/-! ### a comprehension over two -/
/-- the list at p is being made -/
structure Acc (p : Addr) (F1 H1 : Hp) (Sl1 : Nat → Addr → Prop) (F H : Hp) (Sl : Nat → Addr → Prop) (σ : L2.St) (env : En) (acc : List PyData) (ys : List V) : Prop where
  R : REnv F H σ env Sl
  st : Step F1 H1 Sl1 F H Sl
  ra : All2 (Rp F) acc ys
  fp : F p = none
  nsp : ∀ i, ¬ Sl i p
  hp : H p = some (.lst ys)
theorem Acc.more {p : Addr} {F1 H1 F H F' H' : Hp} {Sl1 Sl Sl' : Nat → Addr → Prop} {σ σ' : L2.St} {env env' : En} {acc : List PyData} {ys : List V} (A : Acc p F1 H1 Sl1 F H Sl σ env acc ys) (s : Step F H Sl F' H' Sl') (R' : REnv F' H' σ' env' Sl') : Acc p F1 H1 Sl1 F' H' Sl' σ' env' acc ys := by
  refine ⟨R', A.st.trans s, all_mono s.exF A.ra, ?_, fun i z => ?_, s.fr _ _ A.hp A.nsp (notT A.R.tb.tabs A.hp)⟩
  · cases z : F' p with
    | none => rfl
    | some o =>
      rcases s.fz p o z with y | y | ⟨j, y⟩
      · rw [A.fp] at y; cases y
      · rw [A.hp] at y; cases y
      · exact absurd y (A.nsp j)
  · rcases s.own i p z with y | y
    · exact A.nsp i y
    · rw [A.hp] at y; cases y
/-! ### is a list empty -/
/-! ### abs(n) -/
/-! ### sorted, pairs of whole numbers -/
/-! ### a default that fills up -/
end Tr
namespace Tr
open PySem PySem.Spec PyProof.Rows L2
variable [TC]
/-! ### a def that calls itself: no promise at depth 0 -/
/-! ### zip of two lists -/
/-! ### xs[::-1] -/
/-! ### max, min of two whole numbers -/
/-! ### any value into a name, as what a pair of names takes -/
/-! ### a tuple of texts of the module's top -/
/-! ### a default that is a text -/
end Tr
namespace Tr
open PySem PySem.Spec PyProof.Rows L2
variable [TC]
/-! ### instances of own classes -/
end Tr
namespace Tr
open PySem PySem.Spec PyProof.Rows L2
variable [TC]
/-! ### xs.insert(i, e), xs.remove(k), xs.pop() -/
/-- the first place of k -/
def atFirst (k : Int) : List Int → Option Nat
  | [] => none
  | n :: ns => if n = k then some 0 else (atFirst k ns).map (· + 1)
/-! xs.index(x) -/
def atEqv (d : PyData) : List PyData → Option Nat
  | [] => none
  | y :: ys => if PyData.eqv y d = true then some 0 else (atEqv d ys).map (· + 1)
theorem atEqv_spec {F : Hp} {d : PyData} {v : V} (hd : Rp F d v) (fd : flat d = true) : ∀ {ds : List PyData} {vs : List V} {j : Nat}, All2 (Rp F) ds vs → ds.all flat = true → atEqv d ds = some j → (∃ z, vs[j]? = some z ∧ eqV z v = true) ∧ ∀ (m : Nat) (z : V), m < j → vs[m]? = some z → eqV z v = false
  | [], _, j, _, _, h => nomatch h
  | y :: ds, _, j, .cons (b := w) a t, fl, h => by
    rw [List.all_cons, Bool.and_eq_true] at fl
    unfold atEqv at h
    have e := flat_eq a hd fl.1 fd
    by_cases q : PyData.eqv y d = true
    · rw [if_pos q] at h
      cases h
      exact ⟨⟨w, rfl, by rw [e, q]⟩, fun m z hm => by omega⟩
    · rw [if_neg q] at h
      cases h1 : atEqv d ds with
      | none => rw [h1] at h; cases h
      | some i =>
        rw [h1] at h
        cases h
        obtain ⟨⟨z, x1, x2⟩, b⟩ := atEqv_spec hd fd t fl.2 h1
        refine ⟨⟨z, by simpa using x1, x2⟩, fun m z hm hz => ?_⟩
        cases m with
        | zero => cases hz; rw [e]; simpa using q
        | succ m => exact b m z (Nat.lt_of_succ_lt_succ hm) (by simpa using hz)
def gIdx : En → P → P → Option P := fun env p q => match sq env p, q with
  | some ds, .val d => if flat d = true ∧ ds.all flat = true then (atEqv d ds).map fun j => .val (.int (j : Nat)) else none
  | _, _ => none
def mIdx (me : ME) (ma : ME) : ME := bnd me fun p e => match sq e p with
  | some _ => bnd ma (fun q e2 => (gIdx e2 p q).map fun r => (r, e2)) e
  | none => none
theorem re_idx {K : PySem.W.Frag} {pu pv : Bool} {te ta : TE} {me ma : ME} (h : RE pu te me) (h' : RE pv ta ma) : RE (pu && pv) (tBM K "list" (rIndex K) te (tCons ta tNil)) (mIdx me ma) := by
  intro F H σ env Sl R p env' e Q q
  obtain ⟨p1, e1, h1, h2⟩ := bnd_of e
  split at h2
  case h_2 => cases h2
  rename_i ds0 h0
  obtain ⟨p2, e2, h3, h4⟩ := bnd_of h2
  cases h5 : gIdx e2 p1 p2 with
  | none => rw [h5] at h4; cases h4
  | some r =>
    rw [h5] at h4
    cases h4
    unfold gIdx at h5
    split at h5
    case h_2 => cases h5
    rename_i ds d h6
    split at h5
    case isFalse => cases h5
    rename_i hf
    cases h7 : atEqv d ds with
    | none => rw [h7] at h5; cases h5
    | some j =>
      rw [h7] at h5
      cases h5
      refine h F H σ env Sl R p1 _ h1 _ fun x F1 H1 Sl1 s1 pu1 R1 r1 => ?_
      obtain ⟨a, vs0, rfl, hH0, _⟩ := sq_of R1 r1 h0
      refine ⟨Or.inl ⟨rfl, vs0, SqL.of hH0⟩, ?_⟩
      refine h' F1 H1 σ e1 Sl1 R1 _ _ h3 _ fun y F2 H2 Sl2 s2 pu2 R2 r2 => ?_
      obtain ⟨a', vs, ea, hH, rr⟩ := sq_of R2 (r1.mono s2.exF) h6
      cases ea
      have r2' : Rp F2 d y := r2
      obtain ⟨⟨z, z1, z2⟩, no⟩ := atEqv_spec r2' hf.1 rr hf.2 h7
      exact ⟨a, vs, y, j, z, rfl, rfl, SqL.of hH, flat_v r2' hf.1, flat_vs rr hf.2, z1, z2, no, q _ F2 H2 Sl2 (s1.trans s2) (pu_step (F := F) (F1 := F1) (F2 := F2) pu1 pu2) R2 rfl⟩
/-! a, b = a list -/
/-! range(i, j, -1) -/
/-! xs[i], xs[k] = a, b -/
/-! repr([a, b]), names that may still be changed afterwards -/
def mReprV (is : List Nat) : ME := fun env => match vws env is with
  | some ds => if reprOk (.list ds) = true ∧ deepD (.list ds) ≤ 60 ∧ (reprD (.list ds)).length ≤ sizeLine ∧ is.length ≤ 1000 then some (.val (.str (reprD (.list ds))), env) else none
  | none => none
theorem re_reprV (is : List Nat) : RE false (tCB rRepr (tCons (tLst (tVars is)) tNil)) (mReprV is) := by
  intro F H σ env Sl R p env' e Q q
  unfold mReprV at e
  split at e
  case h_2 => cases e
  rename_i ds h1
  split at e
  case isFalse => cases e
  rename_i hh
  obtain ⟨o1, o2, o3, o4⟩ := hh
  cases e
  refine tVars_len.tVars_mono (tVars_len (vws_ok R h1 (Q := fun vs H' => All2 (Rp H) ds vs ∧ H' = H) fun vs r => ⟨r, rfl⟩)) ?_
  rintro vs H1 ⟨hl1, r1, rfl⟩
  refine ⟨by rw [hl1, sizeLine_eq]; omega, fun a na => ?_⟩
  have ya : Ex H1 (upd H1 a (.lst vs)) := Ex.new na
  have R1 : REnv F (upd H1 a (.lst vs)) σ env Sl := R.grow (Ex.refl F) ya (R.ex.trans ya) fun b o z => .inl z
  exact ⟨.ref a, .list ds, rfl, rp_list.mpr ⟨a, vs, rfl, upd_same, all_mono ya r1⟩, rfl, o1, o2, o3, q _ F _ Sl (Step.grow (Ex.refl F) ya fun b o z => .inl z) (fun z => nomatch z) R1 rfl⟩
/-! ### a dict of defs at the module's top -/
/-- of several defs that a name may hold -/
structure HeldG (P : Program) (w : World) (K : PySem.W.Frag) (mg : Str → Option Value) (base : Heap) (k : Nat) (f : Addr) (sp : Sp) : Prop where
  ex : ∃ (fd : FuncData) (ps : List Str), FnG P w K mg base k f fd ps sp ∧ PySem.W.keepIn K (.ref f) = true ∧ Binds K fd ps []
end Tr
namespace Tr
open PySem PySem.Spec PyProof.Rows L2
variable [TC]
section
variable {X : Cx} {k : Nat} {f C : Addr} {fd : FuncData} {ps : List Str} {sp : Sp} {x m : Str} {p pos apos : Pos} {o e : Expr} {es : List Expr} {t ta : TA} {te : TE} {ds : List Value} {dvs : List V}
end
section
variable {X : Cx} {K : PySem.W.Frag} {e o : Expr} {f : Str} {pos pos' : Pos} {te tv : TE} {value : Expr}
end
end Tr
namespace Tr
open PySem PySem.Spec PyProof.Rows L2
variable [TC]
/-! ### typed: plain functions over typed values that the functions over trees keep to -/
/-- where t gives b, m gives av b and leaves st b -/
def XV {α β : Type} (m : En → Option (α × En)) (env : En) (t : Option β) (av : β → α) (st : β → En) : Prop := ∀ b, t = some b → m env = some (av b, st b)
section
variable {α β γ δ : Type} {env : En} {m : En → Option (α × En)} {k : α → En → Option (γ × En)}
theorem xv_PV' {a : α} {e2 : En} {t : Option β} {cv : β → γ} {st : β → En} (h : m env = some (a, e2)) (hk : XV (k a) e2 t cv st) : XV (bnd m k) env t cv st := fun b hb => (bnd_eq h).trans (hk b hb)
theorem xv_VP {t : Option β} {av : β → α} {st : β → En} {cv : β → γ} {st2 : β → En} (h : XV m env t av st) (hk : ∀ b, k (av b) (st b) = some (cv b, st2 b)) : XV (bnd m k) env t cv st2 := fun b hb => (bnd_eq (h b hb)).trans (hk b)
theorem xv_VV {t : Option β} {av : β → α} {st : β → En} {t2 : β → Option δ} {cv : β × δ → γ} {st2 : β × δ → En} (h : XV m env t av st) (hk : ∀ b, XV (k (av b)) (st b) (t2 b) (fun c => cv (b, c)) (fun c => st2 (b, c))) :
    XV (bnd m k) env (t.bind fun b => (t2 b).map fun c => (b, c)) cv st2 := fun p hp => by
  cases ht : t with
  | none => rw [ht] at hp; cases hp
  | some b =>
    rw [ht] at hp
    cases h2 : t2 b with
    | none =>
      have hp' : (t2 b).map (fun c => (b, c)) = some p := hp
      rw [h2] at hp'
      cases hp'
    | some c =>
      have hp' : (t2 b).map (fun c => (b, c)) = some p := hp
      rw [h2] at hp'
      cases hp'
      exact (bnd_eq (h b ht)).trans (hk b c h2)
/-- told in other words -/
theorem xv_map {t : Option β} {f : β → δ} {av : δ → α} {st : δ → En} (h : XV m env t (fun b => av (f b)) (fun b => st (f b))) : XV m env (t.map f) av st := fun d hd => by
  cases ht : t with
  | none => rw [ht] at hd; cases hd
  | some b => rw [ht] at hd; cases hd; exact h b ht
theorem xv_some {av : β → α} {st : β → En} {b : β} (h : m env = some (av b, st b)) : XV m env (some b) av st := fun c hc => by cases hc; exact h
end
/-! ### operators that may fail -/
def modI (i j : Int) : Option Int := if j = 0 then none else some (i.fmod j)
def fdivI (i j : Int) : Option Int := if j ≠ 0 ∧ j.natAbs < 1073741824 then some (i.fdiv j) else none
def mulI (i j : Int) : Option Int := if i.natAbs.log2 + j.natAbs.log2 < 1000000 then some (i * j) else none
def powI (i j : Int) : Option Int := if 0 ≤ j ∧ (Builtin.Int.intBits i : Int) * j ≤ 2 ^ 27 then some (i ^ j.toNat) else none
section
variable {env : En}
theorem xo_mod {i j : Int} : XV (fun e => (gMod e (.val (.int i)) (.val (.int j))).map fun r => (r, e)) env (modI i j) (fun r => .val (.int r)) (fun _ => env) := fun b hb => by
  unfold modI at hb
  split at hb
  · cases hb
  · rename_i h
    cases hb
    simp only [gMod, gI, decide_eq_true h, if_true]
    rfl
theorem xo_fdiv {i j : Int} : XV (fun e => (gFdiv e (.val (.int i)) (.val (.int j))).map fun r => (r, e)) env (fdivI i j) (fun r => .val (.int r)) (fun _ => env) := fun b hb => by
  unfold fdivI at hb
  split at hb
  · rename_i h
    cases hb
    simp only [gFdiv, gI, decide_eq_true h, if_true]
    rfl
  · cases hb
theorem xo_mul {i j : Int} : XV (fun e => (gMul e (.val (.int i)) (.val (.int j))).map fun r => (r, e)) env (mulI i j) (fun r => .val (.int r)) (fun _ => env) := fun b hb => by
  unfold mulI at hb
  split at hb
  · rename_i h
    cases hb
    simp only [gMul, gI, decide_eq_true h, if_true]
    rfl
  · cases hb
theorem xo_pow {i j : Int} : XV (fun e => (gPow e (.val (.int i)) (.val (.int j))).map fun r => (r, e)) env (powI i j) (fun r => .val (.int r)) (fun _ => env) := fun b hb => by
  unfold powI at hb
  split at hb
  · rename_i h
    cases hb
    simp only [gPow, gI, decide_eq_true h, if_true]
    rfl
  · cases hb
theorem atI_map {α : Type} {en : α → PyData} {xs : List α} {i : Int} : atI (xs.map en) i = (atI xs i).map en := by
  unfold atI
  rw [List.length_map]
  cases ixN xs.length i with
  | none => rfl
  | some k => exact List.getElem?_map ..
/-- xs[i] -/
theorem xo_ix {α : Type} {en : α → PyData} {xs : List α} {p : P} {i : Int} (hs : sqT env p = some (xs.map en)) : XV (fun e => (gIx e p (.val (.int i))).map fun r => (r, e)) env (atI xs i) (fun a => .val (en a)) (fun _ => env) := fun a ha => by
  have h : gIx env p (.val (.int i)) = (sqT env p).bind fun ds => (atI ds i).map .val := by
    unfold gIx
    split
    · cases hs
    · rename_i h; cases h; rfl
    · rename_i h1 h2; first | exact absurd rfl (h1 i) | exact absurd rfl (h1 _ i) | exact absurd rfl (h2 i) | exact absurd rfl (h2 _ i) | (exfalso; simp_all)
  show (gIx env p (.val (.int i))).map _ = _
  rw [h, hs, Option.bind_some, atI_map, ha]
  rfl
end
/-! ### typed values as data -/
def encI (i : Int) : PyData := .int i
def encB (b : Bool) : PyData := .bool b
def encS (s : Str) : PyData := .str s
def encD (d : PyData) : PyData := d
def encL {α : Type} (en : α → PyData) (xs : List α) : PyData := .list (xs.map en)
def encT {α β : Type} (ea : α → PyData) (eb : β → PyData) (p : α × β) : PyData := .tuple [ea p.1, eb p.2]
/-! ### equal -/
/-- == of such data is equality, and it may be asked -/
structure EncOk {α : Type} (en : α → PyData) (n : Nat) : Prop where
  eq : ∀ a b, PyData.eqv (en a) (en b) = true ↔ a = b
  can : ∀ a, (en a).canLay0 = true
  dep : ∀ a, (en a).depth ≤ n
theorem eo_I : EncOk encI 0 := ⟨fun a b => by simp [encI, PyData.eqv], fun _ => rfl, fun _ => Nat.le_refl _⟩
theorem eqvAll_map {α : Type} {en : α → PyData} (h : ∀ a b, PyData.eqv (en a) (en b) = true ↔ a = b) : ∀ xs ys : List α, PyData.eqvAll (xs.map en) (ys.map en) = true ↔ xs = ys
  | [], [] => by simp [PyData.eqvAll]
  | [], _ :: _ => by simp [PyData.eqvAll]
  | _ :: _, [] => by simp [PyData.eqvAll]
  | x :: xs, y :: ys => by
    show (PyData.eqv (en x) (en y) && PyData.eqvAll (xs.map en) (ys.map en)) = true ↔ _
    rw [Bool.and_eq_true, h, eqvAll_map h, List.cons.injEq]
theorem canAll_map {α : Type} {en : α → PyData} (h : ∀ a, (en a).canLay0 = true) : ∀ xs : List α, PyData.canLayAll0 (xs.map en) = true
  | [] => rfl
  | x :: xs => by
    show ((en x).canLay0 && PyData.canLayAll0 (xs.map en)) = true
    rw [h, canAll_map h]; rfl
theorem depAll_map {α : Type} {en : α → PyData} {n : Nat} (h : ∀ a, (en a).depth ≤ n) : ∀ xs : List α, PyData.depthAll (xs.map en) ≤ n
  | [] => Nat.zero_le _
  | x :: xs => by
    show max (en x).depth (PyData.depthAll (xs.map en)) ≤ n
    exact Nat.max_le.mpr ⟨h x, depAll_map h xs⟩
theorem eo_L {α : Type} {en : α → PyData} {n : Nat} (h : EncOk en n) : EncOk (encL en) (n + 1) := ⟨fun a b => eqvAll_map h.eq a b, fun a => canAll_map h.can a, fun a => Nat.succ_le_succ (depAll_map h.dep a)⟩
theorem shaped_enc {α : Type} {en : α → PyData} {n : Nat} (h : EncOk en n) (hn : n ≤ 64) (a : α) : SeqAt.shaped (en a) = true := by
  unfold SeqAt.shaped
  rw [h.can, Bool.true_and]
  exact decide_eq_true (Nat.le_trans (h.dep a) hn)
section
variable {env : En}
def sg : Bool → Bool → Bool | true, b => !b | false, b => b
theorem sg_xor {n b : Bool} : sg n b = (n ^^ b) := by cases n <;> cases b <;> rfl
theorem oe_eq0 {α : Type} [DecidableEq α] {en : α → PyData} {n : Nat} {neg : Bool} {p q : P} {a b : α} (h : EncOk en n) (hp : vw env p = some (en a)) (hq : vw env q = some (en b)) (hn : n ≤ 64 := by decide) : (gEq neg env p q).map (fun r => (r, env)) = some (.val (.bool (neg ^^ decide (a = b))), env) := by
  unfold gEq
  rw [hp, hq]
  simp only [shaped_enc h hn, Bool.and_self, if_true]
  rw [show PyData.eqv (en a) (en b) = decide (a = b) from by rw [Bool.eq_iff_iff, h.eq, decide_eq_true_eq]]
  rfl
theorem oe_eq {α : Type} [DecidableEq α] {en : α → PyData} {n : Nat} {neg : Bool} {p q : P} {a b : α} (h : EncOk en n) (hp : vw env p = some (en a)) (hq : vw env q = some (en b)) (hn : n ≤ 64 := by decide) : (gEq neg env p q).map (fun r => (r, env)) = some (.val (.bool (sg neg (decide (a = b)))), env) := by
  have h0 := oe_eq0 (neg := neg) h hp hq hn
  simp only [sg_xor]
  exact h0
/-- texts -/
def eqS (x y : Str) : Option Bool := if SeqAt.shaped (.str x) = true ∧ SeqAt.shaped (.str y) = true then some (x == y) else none
theorem xo_eqS0 {neg : Bool} {p q : P} {a b : Str} (hp : vw env p = some (.str a)) (hq : vw env q = some (.str b)) : XV (fun e => (gEq neg e p q).map fun r => (r, e)) env (eqS a b) (fun c => .val (.bool (neg ^^ c))) (fun _ => env) := fun c hc => by
  unfold eqS at hc
  split at hc
  · rename_i h
    cases hc
    show (gEq neg env p q).map _ = _
    unfold gEq
    rw [hp, hq]
    simp only [h.1, h.2, Bool.and_self, if_true]
    rfl
  · cases hc
theorem xo_eqS {neg : Bool} {p q : P} {a b : Str} (hp : vw env p = some (.str a)) (hq : vw env q = some (.str b)) : XV (fun e => (gEq neg e p q).map fun r => (r, e)) env (eqS a b) (fun c => .val (.bool (sg neg (c)))) (fun _ => env) := by
  have h0 := xo_eqS0 (neg := neg) hp hq
  simp only [sg_xor]
  exact h0
theorem flat_I {xs : List Int} : (xs.map encI).all flat = true := by
  rw [List.all_eq_true]
  intro d hd
  obtain ⟨x, _, rfl⟩ := List.mem_map.mp hd
  rfl
theorem oe_len {α : Type} {en : α → PyData} {p : P} {xs : List α} (hp : vw env p = some (.list (xs.map en))) : (gLen env [p]).map (fun r => (r, env)) = some (.val (.int (xs.length : Nat)), env) := by
  unfold gLen
  simp only [hp, List.length_map]
  rfl
theorem oe_chain {i j k : Int} {f g : Int → Int → Bool} {ma mb mc : ME} (h1 : ma env = some (.val (.int i), env)) (h2 : mb env = some (.val (.int j), env)) (h3 : mc env = some (.val (.int k), env)) :
    mChain (gI0 fun i j => .bool (f i j)) (gI0 fun i j => .bool (g i j)) ma mb mc env = some (.val (.bool (f i j && g j k)), env) := by
  unfold mChain bnd
  simp only [h1, h2, gI0]
  cases h : f i j with
  | true => simp only [h3]; rfl
  | false => rfl
theorem oe_or {m n : MT} {c d : Bool} (h : m env = some (c, env)) (h' : n env = some (d, env)) : mOr m n env = some (c || d, env) := by
  unfold mOr bnd
  simp only [h]
  cases c with
  | true => rfl
  | false => exact h'
theorem oe_not {m : MT} {c : Bool} {e : En} (h : m env = some (c, e)) : mNot m env = some (!c, e) := by
  unfold mNot bnd
  simp only [h]
theorem xv_not {m : MT} {β : Type} {t : Option β} {av : β → Bool} {st : β → En} (h : XV m env t av st) : XV (mNot m) env t (fun b => !av b) st := fun b hb => oe_not (h b hb)
theorem xv_orV {σ : Type} {m n : MT} {t : Option (Bool × σ)} {t2 : σ → Option (Bool × σ)} {E : σ → En} (h : XV m env t (fun p => p.1) (fun p => E p.2)) (h' : ∀ s, XV n (E s) (t2 s) (fun p => p.1) (fun p => E p.2)) : XV (mOr m n) env (t.bind fun p => if p.1 = true then some (true, p.2) else t2 p.2) (fun p => p.1) (fun p => E p.2) := fun p hp => by
  cases ht : t with
  | none => rw [ht] at hp; cases hp
  | some q =>
    rw [ht] at hp
    obtain ⟨c, s⟩ := q
    unfold mOr bnd
    simp only [h _ ht]
    cases c with
    | true => cases hp; rfl
    | false => exact h' s p hp
theorem oe_andV {ma mb : ME} {c d : Bool} (h : ma env = some (.val (.bool c), env)) (h' : mb env = some (.val (.bool d), env)) : mAndV ma mb env = some (.val (.bool (c && d)), env) := by
  unfold mAndV mT bnd
  simp only [h, gB, Option.map_some]
  cases c with
  | true => exact h'
  | false => rfl
theorem xv_andVV {σ : Type} {ma mb : ME} {t : Option (Bool × σ)} {t2 : σ → Option (Bool × σ)} {E : σ → En} (h : XV ma env t (fun p => .val (.bool p.1)) (fun p => E p.2)) (h' : ∀ s, XV mb (E s) (t2 s) (fun p => .val (.bool p.1)) (fun p => E p.2)) : XV (mAndV ma mb) env (t.bind fun p => if p.1 = true then t2 p.2 else some (false, p.2)) (fun p => .val (.bool p.1)) (fun p => E p.2) := fun p hp => by
  cases ht : t with
  | none => rw [ht] at hp; cases hp
  | some q =>
    rw [ht] at hp
    obtain ⟨c, s⟩ := q
    unfold mAndV mT bnd
    simp only [h _ ht, gB, Option.map_some]
    cases c with
    | true => exact h' s p hp
    | false => cases hp; rfl
theorem xv_ifP {α β : Type} {m : MT} {ma mb : En → Option (α × En)} {c : Bool} {av : β → α} {st : β → En} {ta tb : Option β} {e : En} (h : m env = some (c, e)) (ha : XV ma e ta av st) (hb : XV mb e tb av st) : XV (mIf m ma mb) env (if c = true then ta else tb) av st := fun p hp => by
  unfold mIf bnd
  simp only [h]
  cases c with
  | true => exact ha p hp
  | false => exact hb p hp
/-! ### lists -/
def cutG {α : Type} (xs : List α) (lo hi : Option Int) : List α := (xs.drop (HT.sIx xs.length 0 lo)).take (HT.sIx xs.length xs.length hi - HT.sIx xs.length 0 lo)
theorem cut_map {α : Type} {en : α → PyData} {xs : List α} {lo hi : Option Int} : cutD (xs.map en) lo hi = (cutG xs lo hi).map en := by
  unfold cutD cutG
  rw [List.length_map, List.map_take, List.map_drop]
theorem oe_cut {α : Type} {en : α → PyData} {xs : List α} {p : P} {lo hi : Option Int} (hs : sq env p = some (xs.map en)) : (sq env p).map (fun ds => (cutD ds lo hi, env)) = some ((cutG xs lo hi).map en, env) := by
  rw [hs]
  show some (cutD (xs.map en) lo hi, env) = _
  rw [cut_map]
def catG {α : Type} (xs ys : List α) : Option (List α) := if xs.length + ys.length ≤ sizeLine then some (xs ++ ys) else none
theorem xo_cat {α : Type} {en : α → PyData} {xs ys : List α} {p q : P} (hp : sq env p = some (xs.map en)) (hq : sq env q = some (ys.map en)) : XV (fun e => (gCat e p q).map fun r => (r, e)) env (catG xs ys) (fun r => r.map en) (fun _ => env) := fun r hr => by
  unfold catG at hr
  split at hr
  · rename_i h
    cases hr
    show (gCat env p q).map _ = _
    unfold gCat
    simp only [hp, hq, List.length_map]
    rw [if_pos h, List.map_append]
    rfl
  · cases hr
def repG {α : Type} (xs : List α) (k : Int) : Option (List α) := if -(2 ^ 63) ≤ k ∧ k < 2 ^ 63 ∧ xs.length * k.toNat ≤ sizeLine then some (List.replicate k.toNat xs).flatten else none
theorem rep_map {α : Type} {en : α → PyData} {xs : List α} : ∀ n : Nat, (List.replicate n (xs.map en)).flatten = ((List.replicate n xs).flatten).map en
  | 0 => rfl
  | n + 1 => by rw [List.replicate_succ, List.replicate_succ, List.flatten_cons, List.flatten_cons, List.map_append, rep_map n]
theorem xo_rep {α : Type} {en : α → PyData} {xs : List α} {p : P} {k : Int} (hp : sq env p = some (xs.map en)) : XV (fun e => (gRep e p (.val (.int k))).map fun r => (r, e)) env (repG xs k) (fun r => r.map en) (fun _ => env) := fun r hr => by
  unfold repG at hr
  split at hr
  · rename_i h
    cases hr
    show (gRep env p (.val (.int k))).map _ = _
    unfold gRep
    simp only [hp, List.length_map]
    rw [if_pos h, rep_map]
    rfl
  · cases hr
def rangeL (lo : Int) (n : Nat) : List Int := (List.range n).map fun k => lo + (k : Nat)
theorem range_map {lo : Int} {n : Nat} : rgD lo n = (rangeL lo n).map encI := by
  unfold rgD rangeL
  rw [List.map_map]; rfl
def rng1 (j : Int) : Option (List Int) := if -(2 ^ 62) ≤ j ∧ j < 2 ^ 62 then some (rangeL 0 j.toNat) else none
def rngV (i j : Int) : Option (List Int) := if (-(2 ^ 62) ≤ i ∧ i < 2 ^ 62 ∧ -(2 ^ 62) ≤ j ∧ j < 2 ^ 62) ∧ (j - i).toNat ≤ 2 ^ 24 then some (rangeL i (j - i).toNat) else none
theorem xo_rng1 {j : Int} : XV (fun e => (match [P.val (.int j)] with | [.val (.int j)] => if -(2 ^ 62) ≤ j ∧ j < 2 ^ 62 then some (rgD 0 j.toNat, e) else none | _ => none : Option (List PyData × En))) env (rng1 j) (fun r => r.map encI) (fun _ => env) := fun r hr => by
  unfold rng1 at hr
  split at hr
  · rename_i h
    cases hr
    show (if _ then _ else _) = _
    rw [if_pos h, range_map]
  · cases hr
/-- list(range(..)) -/
theorem xo_lrg1 {j : Int} : XV (fun e => (match P.val (.int j) with | .val (.int n) => if okRg 0 n = true then some (rgD 0 n.toNat, e) else none | _ => none : Option (List PyData × En))) env (rngV 0 j) (fun r => r.map encI) (fun _ => env) := fun r hr => by
  unfold rngV at hr
  split at hr
  · rename_i h
    cases hr
    show (if _ then _ else _) = _
    rw [if_pos (show okRg 0 j = true from decide_eq_true ⟨by omega, by omega, h.1.2.2.1, h.1.2.2.2, h.2⟩), range_map, Int.sub_zero]
  · cases hr
/-! enumerate, zip -/
def enL {α : Type} (xs : List α) : List (Int × α) := xs.mapIdx fun i x => ((i : Nat), x)
theorem en_map {α : Type} {en : α → PyData} {xs : List α} : enD (xs.map en) = (enL xs).map (encT encI en) := by
  refine List.ext_getElem? fun i => ?_
  rw [enD_get, List.getElem?_map, List.getElem?_map]
  unfold enL
  rw [List.getElem?_mapIdx]
  cases xs[i]? <;> rfl
theorem oe_enum {α : Type} {en : α → PyData} {xs : List α} {ma : MA} {p : P} {e1 e2 : En} (h : ma env = some ([p], e1)) (hs : fzP e1 p = some (.list (xs.map en), e2)) : mEnum ma env = some ((enL xs).map (encT encI en), e2) := by
  unfold mEnum bnd
  simp only [h, hs, en_map]
end
/-! ### comprehensions -/
section
variable {α β σ : Type} {mi : ML} {mg : PyData → En → Option En} {mt : MT} {me : ME} {vs : List Nat} {en : α → PyData} {en' : β → PyData}
def cmpGo (cond : α → σ → Option (Bool × σ)) (elt : α → σ → Option (β × σ)) : List α → σ → Option (List β × σ)
  | [], s => some ([], s)
  | a :: as, s => (cond a s).bind fun r => if r.1 = true then (elt a r.2).bind fun y => (cmpGo cond elt as y.2).map fun ys => (y.1 :: ys.1, ys.2) else cmpGo cond elt as r.2
def cmpG (cond : α → σ → Option (Bool × σ)) (elt : α → σ → Option (β × σ)) (xs : List α) (s : σ) : Option (List β × σ) := if xs.length ≤ sizeLine then cmpGo cond elt xs s else none
theorem lc_go {cond : α → σ → Option (Bool × σ)} {elt : α → σ → Option (β × σ)} {E : σ → En} {E1 : α → σ → En} (hg : ∀ a s, mg (en a) (E s) = some (E1 a s)) (ht : ∀ a s, XV mt (E1 a s) (cond a s) (fun p => p.1) (fun p => E1 a p.2))
    (he : ∀ a s, XV me (E1 a s) (elt a s) (fun p => .val (en' p.1)) (fun p => E1 a p.2)) (hw : ∀ a s, wipeE (E1 a s) vs = E s) : ∀ (xs : List α) (s : σ) (acc : List PyData), acc.length + xs.length ≤ sizeLine → ∀ r, cmpGo cond elt xs s = some r → mLcGo mg mt me vs (xs.map en) acc (E s) = some (acc ++ r.1.map en', E r.2)
  | [], s, acc, hz, r, hr => by cases hr; simp [mLcGo]
  | a :: as, s, acc, hz, r, hr => by
    rw [List.length_cons] at hz
    unfold cmpGo at hr
    cases hc : cond a s with
    | none => rw [hc] at hr; cases hr
    | some c =>
      rw [hc, Option.bind_some] at hr
      have h2 := ht a s c hc
      show mLcGo mg mt me vs (en a :: as.map en) acc (E s) = _
      unfold mLcGo
      simp only [hg, h2]
      split at hr
      · rename_i hc1
        cases hy : elt a c.2 with
        | none => rw [hy] at hr; cases hr
        | some y =>
          rw [hy, Option.bind_some] at hr
          cases hys : cmpGo cond elt as y.2 with
          | none => rw [hys] at hr; cases hr
          | some ys =>
            rw [hys] at hr
            cases hr
            have h3 := he a c.2 y hy
            have ih := lc_go hg ht he hw as y.2 (acc ++ [en' y.1]) (by rw [List.length_append, List.length_singleton]; omega) ys hys
            simp only [hc1, h3, fzP, hw]
            rw [if_pos (by omega), ih, List.append_assoc]
            rfl
      · rename_i hc1
        have hc2 : c.1 = false := by simpa using hc1
        have ih := lc_go hg ht he hw as c.2 acc (by omega) r hr
        simp only [hc2, hw]
        exact ih
/-- any comprehension: what it changes is s -/
theorem lc_G {cond : α → σ → Option (Bool × σ)} {elt : α → σ → Option (β × σ)} {E : σ → En} {E1 : α → σ → En} {xs : List α} {s : σ} {e0 : En} (hw0 : wipeE e0 vs = E s) (hg : ∀ a s, mg (en a) (E s) = some (E1 a s)) (ht : ∀ a s, XV mt (E1 a s) (cond a s) (fun p => p.1) (fun p => E1 a p.2))
    (he : ∀ a s, XV me (E1 a s) (elt a s) (fun p => .val (en' p.1)) (fun p => E1 a p.2)) (hw : ∀ a s, wipeE (E1 a s) vs = E s) : XV (fun e => mLcGo mg mt me vs (xs.map en) [] (wipeE e vs)) e0 (cmpG cond elt xs s) (fun r => r.1.map en') (fun r => E r.2) := fun r hr => by
  unfold cmpG at hr
  split at hr
  · rename_i hz
    have := lc_go (E := E) (E1 := E1) hg ht he hw xs s [] (by simpa using hz) r hr
    show mLcGo _ _ _ _ _ _ (wipeE e0 vs) = _
    rw [hw0, this]
    rfl
  · cases hr
/-- nothing changes, nothing fails -/
def cmpT (f : α → β) (xs : List α) : Option (List β) := if xs.length ≤ sizeLine then some (xs.map f) else none
def cmpF (c : α → Bool) (f : α → β) (xs : List α) : Option (List β) := if xs.length ≤ sizeLine then some ((xs.filter c).map f) else none
theorem lc_F {c : α → Bool} {f : α → β} {env : En} {E1 : α → En} {xs : List α} {e0 : En} (hw0 : wipeE e0 vs = env) (hg : ∀ a, mg (en a) env = some (E1 a)) (ht : ∀ a, mt (E1 a) = some (c a, E1 a)) (he : ∀ a, me (E1 a) = some (.val (en' (f a)), E1 a)) (hw : ∀ a, wipeE (E1 a) vs = env) : XV (fun e => mLcGo mg mt me vs (xs.map en) [] (wipeE e vs)) e0 (cmpF c f xs) (fun r => r.map en') (fun _ => env) := fun r hr => by
  have go : ∀ (xs : List α) (acc : List PyData), acc.length + xs.length ≤ sizeLine → mLcGo mg mt me vs (xs.map en) acc env = some (acc ++ ((xs.filter c).map f).map en', env) := by
    intro xs
    induction xs with
    | nil => intro acc _; simp [mLcGo]
    | cons a as ih =>
      intro acc hz
      rw [List.length_cons] at hz
      show mLcGo mg mt me vs (en a :: as.map en) acc env = _
      unfold mLcGo
      simp only [hg, ht]
      cases hc : c a with
      | true =>
        simp only [he, fzP, hw]
        rw [if_pos (by omega), ih _ (by rw [List.length_append, List.length_singleton]; omega), List.filter_cons_of_pos hc, List.append_assoc]
        rfl
      | false =>
        simp only [hw]
        rw [ih _ (by omega), List.filter_cons_of_neg (by rw [hc]; exact Bool.false_ne_true)]
  unfold cmpF at hr
  split at hr
  · rename_i hz
    cases hr
    show mLcGo _ _ _ _ _ _ (wipeE e0 vs) = _
    rw [hw0, go xs [] (by simpa using hz)]
    rfl
  · cases hr
theorem lc_T {f : α → β} {env : En} {E1 : α → En} {xs : List α} {e0 : En} (hw0 : wipeE e0 vs = env) (hg : ∀ a, mg (en a) env = some (E1 a)) (he : ∀ a, me (E1 a) = some (.val (en' (f a)), E1 a)) (hw : ∀ a, wipeE (E1 a) vs = env) : XV (fun e => mLcGo mg mYes me vs (xs.map en) [] (wipeE e vs)) e0 (cmpT f xs) (fun r => r.map en') (fun _ => env) := fun r hr => by
  refine lc_F (c := fun _ => true) (f := f) hw0 hg (fun a => rfl) he hw r ?_
  unfold cmpT at hr
  unfold cmpF
  rw [List.filter_eq_self.mpr (fun _ _ => rfl)]
  exact hr
/-- nothing changes -/
def cmpOGo (cond : α → Option Bool) (elt : α → Option β) : List α → Option (List β)
  | [] => some []
  | a :: as => (cond a).bind fun r => if r = true then (elt a).bind fun y => (cmpOGo cond elt as).map fun ys => y :: ys else cmpOGo cond elt as
def cmpO (cond : α → Option Bool) (elt : α → Option β) (xs : List α) : Option (List β) := if xs.length ≤ sizeLine then cmpOGo cond elt xs else none
theorem cmpO_G {cond : α → Option Bool} {elt : α → Option β} : ∀ xs : List α, cmpGo (σ := Unit) (fun a s => (cond a).map fun c => (c, s)) (fun a s => (elt a).map fun y => (y, s)) xs () = (cmpOGo cond elt xs).map fun ys => (ys, ())
  | [] => rfl
  | a :: as => by
    unfold cmpGo cmpOGo
    cases cond a with
    | none => rfl
    | some c =>
      simp only [Option.map_some, Option.bind_some]
      cases c with
      | true =>
        simp only [if_true]
        cases elt a with
        | none => rfl
        | some y =>
          simp only [Option.map_some, Option.bind_some]
          rw [cmpO_G as]
          cases cmpOGo cond elt as <;> rfl
      | false =>
        simp only [Bool.false_eq_true, if_false]
        exact cmpO_G as
theorem lc_O {cond : α → Option Bool} {elt : α → Option β} {env : En} {E1 : α → En} {xs : List α} {e0 : En} (hw0 : wipeE e0 vs = env) (hg : ∀ a, mg (en a) env = some (E1 a)) (ht : ∀ a, XV mt (E1 a) (cond a) (fun c => c) (fun _ => E1 a)) (he : ∀ a, XV me (E1 a) (elt a) (fun y => .val (en' y)) (fun _ => E1 a)) (hw : ∀ a, wipeE (E1 a) vs = env) : XV (fun e => mLcGo mg mt me vs (xs.map en) [] (wipeE e vs)) e0 (cmpO cond elt xs) (fun r => r.map en') (fun _ => env) := fun r hr => by
  refine (lc_G (σ := Unit) (s := ()) (E := fun _ => env) (E1 := fun a _ => E1 a) (cond := fun a s => (cond a).map fun c => (c, s)) (elt := fun a s => (elt a).map fun y => (y, s)) hw0 (fun a _ => hg a) (fun a s => xv_map (ht a)) (fun a s => xv_map (he a)) (fun a _ => hw a)) (r, ()) ?_
  unfold cmpO at hr
  unfold cmpG
  split at hr
  · rename_i hz
    rw [if_pos hz, cmpO_G, hr]
    rfl
  · cases hr
end
/-! ### statements -/
inductive Rs (ρ σ : Type) where | nx (s : σ) | bk (s : σ) | rt (r : ρ)
def Rs.on {ρ σ τ : Type} (r : Rs ρ σ) (f : ρ → τ) (g : σ → τ) : τ := match r with
  | .nx s => g s
  | .bk s => g s
  | .rt r => f r
def SV {β : Type} (m : MS) (env : En) (t : Option β) (post : β → Ctl → En → Prop) : Prop := ∀ b, t = some b → ∃ c e, m env = some (c, e) ∧ post b c e
section
variable {α β γ δ σ ρ : Type} {env e : En} {m n : MS} {t : Option β} {post : β → Ctl → En → Prop}
theorem seq_next {m : MS} {env : En} : mSeq m mNext env = m env := by
  unfold mSeq mNext
  split
  · rename_i h; rw [h]
  · rfl
theorem sv_last (h : SV (mSeq m mNext) env t post) : SV m env t post := fun b hb => by
  obtain ⟨c, e, h1, h2⟩ := h b hb
  rw [seq_next] at h1
  exact ⟨c, e, h1, h2⟩
theorem sv_assoc {a b c : MS} (h : SV (mSeq a (mSeq b c)) env t post) : SV (mSeq (mSeq a b) c) env t post := fun x hx => by
  obtain ⟨k, e, h1, h2⟩ := h x hx
  refine ⟨k, e, ?_, h2⟩
  rw [← h1]
  unfold mSeq
  cases a env with
  | none => rfl
  | some r =>
    obtain ⟨k1, e1⟩ := r
    cases k1 <;> rfl
theorem sv_nx (h : m env = some (.nx, e)) (k : SV n e t post) : SV (mSeq m n) env t post := fun b hb => by
  obtain ⟨c, e', h1, h2⟩ := k b hb
  refine ⟨c, e', ?_, h2⟩
  unfold mSeq
  rw [h]
  exact h1
theorem sv_V {t1 : Option γ} {st : γ → En} {t2 : γ → Option β} (h : XV m env t1 (fun _ => Ctl.nx) st) (k : ∀ c, SV n (st c) (t2 c) post) : SV (mSeq m n) env (t1.bind t2) post := fun b hb => by
  cases ht : t1 with
  | none => rw [ht] at hb; cases hb
  | some c => rw [ht] at hb; exact sv_nx (h c ht) (k c) b hb
/-- a value gets a name -/
theorem sv_let {v : γ} {E : γ → En} {f : γ → Option β} (h : ∀ x, SV m (E x) (f x) post) : SV m (E v) ((some v).bind f) post := h v
theorem sv_exit {ct : Ctl} (h : m env = some (ct, e)) (hx : ct ≠ .nx) {b : β} (hp : post b ct e) : SV (mSeq m n) env (some b) post := fun b' hb => by
  cases hb
  refine ⟨ct, e, ?_, hp⟩
  unfold mSeq
  split
  · rename_i e1 h1; rw [h] at h1; cases h1; exact absurd rfl hx
  · exact h
theorem sv_exitV {t1 : Option γ} {ct : γ → Ctl} {st : γ → En} {f : γ → β} (h : XV m env t1 ct st) (hx : ∀ c, ct c ≠ .nx) (hp : ∀ c, post (f c) (ct c) (st c)) : SV (mSeq m n) env (t1.map f) post := fun b hb => by
  cases ht : t1 with
  | none => rw [ht] at hb; cases hb
  | some c => rw [ht] at hb; cases hb; exact sv_exit (h c ht) (hx c) (hp c) _ rfl
theorem sv_end {b : β} (hp : post b .nx env) : SV mNext env (some b) post := fun b' hb => by cases hb; exact ⟨_, _, rfl, hp⟩
theorem sv_never : SV m env (none : Option β) post := fun _ h => nomatch h
theorem sv_if {mc : MT} {mA mB : MS} {c : Bool} {tA tB : Option β} (h : mc env = some (c, e)) (ha : SV (mSeq mA n) e tA post) (hb : SV (mSeq mB n) e tB post) : SV (mSeq (mIf mc mA mB) n) env (if c = true then tA else tB) post := fun b hx => by
  have e1 : mSeq (mIf mc mA mB) n env = if c = true then mSeq mA n e else mSeq mB n e := by
    unfold mSeq mIf bnd
    rw [h]
    cases c <;> rfl
  rw [e1]
  cases c with
  | true => exact ha b hx
  | false => exact hb b hx
theorem sv_ifV {mc : MT} {mA mB : MS} {t1 : Option γ} {cv : γ → Bool} {st : γ → En} {tA tB : γ → Option β} (h : XV mc env t1 cv st) (ha : ∀ c, SV (mSeq mA n) (st c) (tA c) post) (hb : ∀ c, SV (mSeq mB n) (st c) (tB c) post) : SV (mSeq (mIf mc mA mB) n) env (t1.bind fun c => if cv c = true then tA c else tB c) post := fun b hx => by
  cases ht : t1 with
  | none => rw [ht] at hx; cases hx
  | some c => rw [ht] at hx; exact sv_if (h c ht) (ha c) (hb c) b hx
theorem sv_seq {t1 : Option γ} {Q : γ → En → Prop} {t2 : γ → Option β} (h : SV m env t1 (fun c k e => k = .nx ∧ Q c e)) (k : ∀ c e, Q c e → SV n e (t2 c) post) : SV (mSeq m n) env (t1.bind t2) post := fun b hb => by
  cases ht : t1 with
  | none => rw [ht] at hb; cases hb
  | some c =>
    rw [ht] at hb
    obtain ⟨_, e, h1, rfl, h2⟩ := h c ht
    exact sv_nx h1 (k c e h2) b hb
/-! loops -/
def forN (body : α → σ → Option σ) : List α → σ → Option σ
  | [], s => some s
  | a :: as, s => (body a s).bind (forN body as)
def forR (body : α → σ → Option (Rs ρ σ)) : List α → σ → Option (Rs ρ σ)
  | [], s => some (.nx s)
  | a :: as, s => (body a s).bind fun r => match r with
    | .nx s' => forR body as s'
    | .bk s' => some (.nx s')
    | .rt r => some (.rt r)
theorem sv_goN {en : α → PyData} {P : σ → En → Prop} {body : α → σ → Option σ} {mg : PyData → En → Option En} {mb : MS} (hb : ∀ a s e, P s e → ∃ e1, mg (en a) e = some e1 ∧ SV mb e1 (body a s) (fun s' c e' => (c = .nx ∨ c = .ct) ∧ P s' e')) :
    ∀ (xs : List α) (s : σ) (e : En), P s e → SV (mForGo mg mb (xs.map en)) e (forN body xs s) (fun s' c e' => c = .nx ∧ P s' e')
  | [], s, e, h, s', hs => by cases hs; exact ⟨.nx, e, rfl, rfl, h⟩
  | a :: as, s, e, h, s', hs => by
    unfold forN at hs
    cases h1 : body a s with
    | none => rw [h1] at hs; cases hs
    | some s1 =>
      rw [h1] at hs
      obtain ⟨e1, g1, sv⟩ := hb a s e h
      obtain ⟨c, e2, g2, gc, p2⟩ := sv s1 h1
      obtain ⟨c', e3, g3, g4⟩ := sv_goN hb as s1 e2 p2 s' hs
      refine ⟨c', e3, ?_, g4⟩
      show mForGo mg mb (en a :: as.map en) e = _
      unfold mForGo
      rcases gc with rfl | rfl
      · simp only [g1, g2, g3]
      · simp only [g1, g2, g3]
theorem sv_forN {en : α → PyData} {Q : σ → En → Prop} {body : α → σ → Option σ} {mi : ML} {mg : PyData → En → Option En} {mb : MS} {xs : List α} {s0 : σ} {t2 : σ → Option β} (hi : mi env = some (xs.map en, e)) (h0 : Q s0 e)
    (hb : ∀ a s e, Q s e → ∃ e1, mg (en a) e = some e1 ∧ SV mb e1 (body a s) (fun s' c e' => (c = .nx ∨ c = .ct) ∧ Q s' e')) (k : ∀ s e, Q s e → SV n e (t2 s) post) : SV (mSeq (mFor mi mg mb) n) env ((forN body xs s0).bind t2) post :=
  sv_seq (Q := Q) (fun s' hs => by
    obtain ⟨c, e', h1, h2⟩ := sv_goN hb xs s0 e h0 s' hs
    exact ⟨c, e', (bnd_eq hi).trans h1, h2⟩) k
theorem sv_forNV {en : α → PyData} {Q : γ → σ → En → Prop} {body : γ → α → σ → Option σ} {mi : ML} {mg : PyData → En → Option En} {mb : MS} {t1 : Option γ} {xs : γ → List α} {st : γ → En} {s0 : γ → σ} {t2 : γ → σ → Option β} (hi : XV mi env t1 (fun c => (xs c).map en) st) (h0 : ∀ c, Q c (s0 c) (st c))
    (hb : ∀ c a s e, Q c s e → ∃ e1, mg (en a) e = some e1 ∧ SV mb e1 (body c a s) (fun s' k e' => (k = .nx ∨ k = .ct) ∧ Q c s' e')) (k : ∀ c s e, Q c s e → SV n e (t2 c s) post) : SV (mSeq (mFor mi mg mb) n) env (t1.bind fun c => (forN (body c) (xs c) (s0 c)).bind (t2 c)) post := fun b hx => by
  cases ht : t1 with
  | none => rw [ht] at hx; cases hx
  | some c => rw [ht] at hx; exact sv_forN (hi c ht) (h0 c) (hb c) (k c) b hx
/-- at most so many turns -/
def whN (cond : σ → Option (Bool × σ)) (body : σ → Option σ) : Nat → σ → Option σ
  | 0, _ => none
  | n + 1, s => (cond s).bind fun r => if r.1 = true then (body r.2).bind (whN cond body n) else some r.2
theorem sv_wgoN {P : σ → En → Prop} {cond : σ → Option (Bool × σ)} {body : σ → Option σ} {mc : MT} {mb : MS} (hc : ∀ s e, P s e → ∀ r, cond s = some r → ∃ e', mc e = some (r.1, e') ∧ P r.2 e') (hb : ∀ s e, P s e → SV mb e (body s) (fun s' c e' => (c = .nx ∨ c = .ct) ∧ P s' e')) :
    ∀ (n : Nat) (s : σ) (e : En), P s e → SV (mWhile mc mb n) e (whN cond body n s) (fun s' c e' => c = .nx ∧ P s' e')
  | 0, s, e, h, s', hs => nomatch hs
  | n + 1, s, e, h, s', hs => by
    unfold whN at hs
    cases h1 : cond s with
    | none => rw [h1] at hs; cases hs
    | some r =>
      rw [h1, Option.bind_some] at hs
      obtain ⟨e1, g1, p1⟩ := hc s e h r h1
      unfold mWhile
      split at hs
      · rename_i hr
        rw [hr] at g1
        cases h2 : body r.2 with
        | none => rw [h2] at hs; cases hs
        | some s2 =>
          rw [h2] at hs
          obtain ⟨c, e2, g2, gc, p2⟩ := hb _ e1 p1 s2 h2
          obtain ⟨c', e3, g3, g4⟩ := sv_wgoN hc hb n s2 e2 p2 s' hs
          refine ⟨c', e3, ?_, g4⟩
          rcases gc with rfl | rfl
          · simp only [g1, g2, g3]
          · simp only [g1, g2, g3]
      · rename_i hr
        have hr' : r.1 = false := by simpa using hr
        rw [hr'] at g1
        cases hs
        exact ⟨.nx, e1, by simp only [g1], rfl, p1⟩
theorem sv_whN {Q : σ → En → Prop} {cond : σ → Option (Bool × σ)} {body : σ → Option σ} {mc : MT} {mb : MS} {k : Nat} {s0 : σ} {t2 : σ → Option β} (h0 : Q s0 env) (hc : ∀ s e, Q s e → ∀ r, cond s = some r → ∃ e', mc e = some (r.1, e') ∧ Q r.2 e')
    (hb : ∀ s e, Q s e → SV mb e (body s) (fun s' c e' => (c = .nx ∨ c = .ct) ∧ Q s' e')) (hk : ∀ s e, Q s e → SV n e (t2 s) post) : SV (mSeq (mWhile mc mb k) n) env ((whN cond body k s0).bind t2) post :=
  sv_seq (Q := Q) (sv_wgoN hc hb k s0 env h0) hk
/-! ### defs and calls -/
theorem def_T {N np : Nat} {pn : List Nat} {m : MS} {os : List O} {t : Option β} {ro : β → O} {ios : β → List O} (h1 : os.length = np) (h : SV m (os.map some ++ List.replicate (N - os.length) none) t (fun b c e => (c = .rt (ro b) ∨ (c = .nx ∧ ro b = .fz .none)) ∧ mDef.finL pn os e = some (ios b))) : ∀ b, t = some b → mDef N np pn m os = some (ro b, ios b) := fun b hb => by
  obtain ⟨c, e, h2, h3, h4⟩ := h b hb
  unfold mDef
  rw [if_pos h1, h2]
  rcases h3 with rfl | ⟨rfl, h5⟩
  · show mDef.fin pn os e (ro b) = _
    unfold mDef.fin
    rw [h4]; rfl
  · show mDef.fin pn os e (.fz .none) = _
    unfold mDef.fin
    rw [h4, h5]; rfl
theorem xo_call {pn : List Nat} {mf : MF} {ps : List P} {os os1 : List O} {ls : List (Option Nat)} {e2 : En} {t : Option γ} {ro : γ → O} {ios : γ → List O} {e3 : γ → En} (tk : ∀ c, t = some c → mf os1 = some (ro c, ios c)) (h1 : prepA pn 0 ps env = some (os, ls, e2)) (h2 : lentsOk ls = true) (h3 : lendA ls os e2 = some os1) (h4 : ∀ c, backA ls (ios c) e2 = some (e3 c)) :
    XV (fun e => callP pn mf ps e) env t ro e3 := fun c hc => by
  show callP pn mf ps env = _
  unfold callP
  rw [h1]
  simp only [h2, if_true, h3, tk c hc, h4 c]
end
/-! ### more words -/
section
variable {env : En} {α β γ : Type}
theorem oe_all {p : P} {bs : List Bool} (hs : sq env p = some (bs.map encB)) : (gAll env [p]).map (fun r => (r, env)) = some (.val (.bool (bs.all id)), env) := by
  have e : allB (bs.map encB) = some bs := allB_map bs
  unfold gAll
  simp only [hs, Option.bind_some, e, Option.map_some]
/-- repr of data -/
def reprG (d : PyData) : Option Str := if isTup d = false ∧ reprOk d = true ∧ deepD d ≤ 60 ∧ (reprD d).length ≤ sizeLine then some (reprD d) else none
theorem xo_repr {p : P} {d : PyData} (hv : vw env p = some d) : XV (fun e => (gRepr e [p]).map fun r => (r, e)) env (reprG d) (fun r => .val (.str r)) (fun _ => env) := fun r hr => by
  unfold reprG at hr
  split at hr
  · rename_i h
    cases hr
    show (gRepr env [p]).map _ = _
    unfold gRepr
    simp only [hv]
    rw [if_pos h]
    rfl
  · cases hr
theorem xo_reprV {is : List Nat} {ds : List PyData} (h : vws env is = some ds) (hl : is.length ≤ 1000) : XV (mReprV is) env (reprG (.list ds)) (fun r => .val (.str r)) (fun _ => env) := fun r hr => by
  unfold reprG at hr
  split at hr
  · rename_i hh
    cases hr
    unfold mReprV
    simp only [h]
    rw [if_pos ⟨hh.2.1, hh.2.2.1, hh.2.2.2, hl⟩]
  · cases hr
/-! instances -/
def appG (xs : List α) (x : α) : Option (List α) := if xs.length < sizeLine then some (xs ++ [x]) else none
/-! lists that a name alone holds -/
theorem xo_app_0 {en : α → PyData} {j : Nat} {ma : MA} {xs : List α} {x : α} {p : P} {e1 e2 : En} (h0 : ∃ ds, env[j]? = some (some (.ow ds))) (hm : ma env = some ([p], e1)) (hf : fzP e1 p = some (en x, e2)) (h : e2[j]? = some (some (.ow (xs.map en)))) : XV (mApp j ma) env (appG xs x) (fun _ => .nx) (fun r => e2.set j (some (.ow (r.map en)))) := fun r hr => by
  unfold appG at hr
  split at hr
  · rename_i hz
    cases hr
    obtain ⟨ds, h0⟩ := h0
    unfold mApp
    simp only [h0, hm, hf, h, List.length_map]
    rw [if_pos hz, List.map_append]
    rfl
  · cases hr
theorem xv_app_0 {en : α → PyData} {j : Nat} {ma : MA} {t : Option β} {xs : β → List α} {x : β → α} {p : β → P} {e1 e2 : β → En} (h0 : ∃ ds, env[j]? = some (some (.ow ds))) (hm : XV ma env t (fun b => [p b]) e1) (hf : ∀ b, fzP (e1 b) (p b) = some (en (x b), e2 b)) (h : ∀ b, (e2 b)[j]? = some (some (.ow ((xs b).map en)))) : XV (mApp j ma) env (t.bind fun b => (appG (xs b) (x b)).map fun r => (b, r)) (fun _ => .nx) (fun q => (e2 q.1).set j (some (.ow (q.2.map en)))) := fun q hq => by
  cases ht : t with
  | none => rw [ht] at hq; cases hq
  | some b =>
    rw [ht] at hq
    have hq' : (appG (xs b) (x b)).map (fun r => (b, r)) = some q := hq
    cases ha : appG (xs b) (x b) with
    | none => rw [ha] at hq'; cases hq'
    | some r =>
      rw [ha] at hq'
      cases hq'
      exact xo_app_0 h0 (hm b ht) (hf b) (h b) r ha
theorem xv_app {en : α → PyData} {j : Nat} {ma : MA} {t : Option β} {xs : β → List α} {x : β → α} {p : β → P} {e1 e2 : β → En} (h0 : ∃ ds, env[j]? = some (some (.ow ds))) (hm : XV ma env t (fun b => [p b]) e1) (hf : ∀ b, fzP (e1 b) (p b) = some (en (x b), e2 b)) (h : ∀ b, (e2 b)[j]? = some (some (.ow ((xs b).map en)))) {E0 : _ → En} (hE : ∀ q, (e2 q.1).set j (some (.ow (q.2.map en))) = E0 q) : XV (mApp j ma) env (t.bind fun b => (appG (xs b) (x b)).map fun r => (b, r)) (fun _ => .nx) E0 := by
  obtain rfl : (fun q => (e2 q.1).set j (some (.ow (q.2.map en)))) = E0 := funext hE
  exact xv_app_0 h0 hm hf h
/-- xs[i][k] = x -/
def set2G (xs : List (List α)) (i k : Int) (x : α) : Option (List (List α)) := (ixN xs.length i).bind fun n => (xs[n]?).bind fun row => (ixN row.length k).map fun m => xs.set n (row.set m x)
/-- xs[i][k] of rows that a name alone holds -/
def ix2G (xs : List (List α)) (i k : Int) : Option α := (atI xs i).bind fun row => atI row k
theorem xo_ix2 {en : α → PyData} {j : Nat} {ma mb : ME} {xs : List (List α)} {i k : Int} (h : env[j]? = some (some (.ow2 (xs.map fun r => r.map en)))) (hi : ma env = some (.val (.int i), env)) (hk : mb env = some (.val (.int k), env)) : XV (mIx2 j ma mb) env (ix2G xs i k) (fun a => .val (en a)) (fun _ => env) := fun r hr => by
  unfold ix2G at hr
  cases ha : atI xs i with
  | none => rw [ha] at hr; cases hr
  | some row =>
    rw [ha, Option.bind_some] at hr
    have e : atI (xs.map fun r => r.map en) i = some (row.map en) := by
      unfold atI at ha ⊢
      rw [List.length_map]
      cases hx : ixN xs.length i with
      | none => rw [hx] at ha; cases ha
      | some n =>
        rw [hx] at ha
        show (xs.map _)[n]? = _
        rw [List.getElem?_map, show xs[n]? = some row from ha]
        rfl
    unfold mIx2 bnd
    simp only [h, hi, e, hk, atI_map, hr, Option.map_some]
/-- xs.index(x) -/
theorem atEqv_I {k : Int} : ∀ xs : List Int, atEqv (.int k) (xs.map encI) = atFirst k xs
  | [] => rfl
  | x :: xs => by
    show (if PyData.eqv (encI x) (.int k) = true then some 0 else (atEqv (.int k) (xs.map encI)).map (· + 1)) = if x = k then some 0 else (atFirst k xs).map (· + 1)
    rw [atEqv_I xs]
    by_cases h : x = k
    · rw [if_pos h, if_pos (show PyData.eqv (encI x) (.int k) = true from (eo_I.eq x k).mpr h)]
    · rw [if_neg h, if_neg (show ¬ PyData.eqv (encI x) (.int k) = true from fun z => h ((eo_I.eq x k).mp z))]
theorem xo_idx {p : P} {xs : List Int} {k : Int} (hs : sq env p = some (xs.map encI)) : XV (fun e => (gIdx e p (.val (.int k))).map fun r => (r, e)) env (atFirst k xs) (fun j => .val (.int (j : Nat))) (fun _ => env) := fun j hj => by
  show (gIdx env p (.val (.int k))).map _ = _
  unfold gIdx
  simp only [hs]
  rw [if_pos ⟨rfl, flat_I⟩, atEqv_I, hj]
  rfl
theorem xv_idx {me ma : ME} {p : P} {q : P} {ds : List PyData} {t : Option β} {av : β → P} {st : β → En} (hm : me env = some (p, env)) (hs : sq env p = some ds) (h : XV (bnd ma fun q e2 => (gIdx e2 p q).map fun r => (r, e2)) env t av st) : XV (mIdx me ma) env t av st := fun b hb => by
  have e : mIdx me ma env = bnd ma (fun q e2 => (gIdx e2 p q).map fun r => (r, e2)) env := by
    rw [show mIdx me ma env = bnd me (fun p e => match sq e p with | some _ => bnd ma (fun q e2 => (gIdx e2 p q).map fun r => (r, e2)) e | none => none) env from rfl, bnd_eq hm]
    simp only [hs]
  rw [e]
  exact h b hb
/-- a cut of the script -/
theorem xo_slS {K : PySem.W.Frag} {i : Nat} {ml mh : MP} {ns : List Int} {lo hi : Option Int} (h : env[i]? = some (some (.sc K ns))) (hl : ml env = some (lo, env)) (hh : mh env = some (hi, env)) : mSlS K i ml mh env = some ((cutG ns lo hi).map encI, env) := by
  unfold mSlS bnd
  simp only [h, hl, hh, if_true]
  rw [show (ns.map PyData.int) = ns.map encI from rfl, cut_map]
/-- rows that a name alone holds -/
theorem lc_2 {mg : PyData → En → Option En} {mo : MO} {vs : List Nat} {en : γ → PyData} {en' : β → PyData} {elt : γ → Option (List β)} {E1 : γ → En} {xs : List γ} {e0 : En} (hw0 : wipeE e0 vs = env) (hg : ∀ a, mg (en a) env = some (E1 a)) (he : ∀ a, XV mo (E1 a) (elt a) (fun y => .ow (y.map en')) (fun _ => E1 a)) (hw : ∀ a, wipeE (E1 a) vs = env) :
    XV (fun e => (mLc2Go mg mYes mo vs (xs.map en) [] (wipeE e vs)).map fun r => (O.ow2 r.1, r.2)) e0 (cmpO (fun _ => some true) elt xs) (fun r => O.ow2 (r.map fun y => y.map en')) (fun _ => env) := fun r hr => by
  have go : ∀ (xs : List γ) (acc : List (List PyData)) (r : List (List β)), acc.length + xs.length ≤ sizeLine → cmpOGo (fun _ => some true) elt xs = some r → mLc2Go mg mYes mo vs (xs.map en) acc env = some (acc ++ r.map fun y => y.map en', env) := by
    intro xs
    induction xs with
    | nil => intro acc r _ h; cases h; simp [mLc2Go]
    | cons a as ih =>
      intro acc r hz h
      rw [List.length_cons] at hz
      unfold cmpOGo at h
      simp only [Option.bind_some, if_true] at h
      cases hy : elt a with
      | none => rw [hy] at h; cases h
      | some y =>
        rw [hy, Option.bind_some] at h
        cases hys : cmpOGo (fun _ => some true) elt as with
        | none => rw [hys] at h; cases h
        | some ys =>
          rw [hys] at h
          cases h
          have h3 := he a y hy
          show mLc2Go mg mYes mo vs (en a :: as.map en) acc env = _
          unfold mLc2Go mYes
          simp only [hg, h3, hw]
          have ih' := ih (acc ++ [y.map en']) ys (by rw [List.length_append, List.length_singleton]; omega) hys
          unfold mYes at ih'
          rw [if_pos (by omega), ih', List.append_assoc]
          rfl
  unfold cmpO at hr
  split at hr
  · rename_i hz
    show (mLc2Go _ _ _ _ _ _ (wipeE e0 vs)).map _ = _
    rw [hw0, go xs [] r (by simpa using hz) hr]
    rfl
  · cases hr
end
end Tr
namespace Tr
open PySem PySem.Spec PyProof.Rows L2
variable [TC]
/-! ### more typed words -/
section
variable {α β γ δ : Type} {env : En}
/-! a comprehension over two -/
/-! a range that has a name -/
def rgN (lo hi : Int) : Option (List Int) := if -(2 ^ 62) ≤ lo ∧ lo < 2 ^ 62 ∧ -(2 ^ 62) ≤ hi ∧ hi < 2 ^ 62 then some (rangeL lo (hi - lo).toNat) else none
theorem xo_rgv {i : Nat} {lo hi : Int} (h : env[i]? = some (some (.rg lo hi))) : XV (mRgv i) env (rgN lo hi) (fun r => r.map encI) (fun _ => env) := fun r hr => by
  unfold rgN at hr
  split at hr
  · rename_i hb
    cases hr
    unfold mRgv
    simp only [h]
    rw [if_pos hb, range_map]
  · cases hr
end
/-! what may not be there -/
/-! in, over pairs and the like -/
/-! places that are looked up -/
section
variable {α : Type} {env : En}
end
/-! names of ranges, lists unpacked, tuple(..) -/
section
variable {env : En}
theorem os_rg {i : Nat} {ma : MA} {j : Int} {e1 E0 : En} (h : ma env = some ([.val (.int j)], e1)) (hE : e1.set i (some (.rg 0 j)) = E0) : mAsgO i (mRg1 ma) env = some (.nx, E0) := by
  unfold mAsgO mRg1 bnd
  simp only [h]
  rw [← hE]
end
end Tr
namespace Tr
open PySem PySem.Spec PyProof.Rows L2
variable [TC]
/-! ### a property, read -/
section
variable {X : Cx} {k : Nat} {g C p : Addr} {fd : FuncData} {ps : List Str} {sp : Sp} {m : Str} {apos : Pos} {o : Expr} {te : TE} {ds : List Value} {dvs : List V}
end
/-! ### trees -/
inductive Tre where
  | nil
  | node (l : Tre) (x : Int) (r : Tre)
  deriving DecidableEq
def Tre.un : Tre → Option (Tre × Int × Tre)
  | .nil => none
  | .node l x r => some (l, x, r)
end Tr
namespace Tr
open PySem PySem.Spec PyProof.Rows L2
variable [TC]
/-! ### in a list, or in a tuple of texts of the top -/
/-! ### xs.pop(i) -/
section
variable {α β : Type} {env : En}
def popI (xs : List α) (i : Int) : Option (α × List α) := if -(2 ^ 63) ≤ i ∧ i < 2 ^ 63 then (seqIndex? i xs.length).bind fun k => (xs[k]?).map fun x => (x, xs.eraseIdx k) else none
theorem erase_mapG {en : α → PyData} : ∀ (xs : List α) (k : Nat), (xs.map en).eraseIdx k = (xs.eraseIdx k).map en
  | [], k => by simp
  | x :: xs, 0 => rfl
  | x :: xs, k + 1 => by
    show en x :: (xs.map en).eraseIdx k = en x :: (xs.eraseIdx k).map en
    rw [erase_mapG xs k]
theorem xo_popAt {en : α → PyData} {j : Nat} {ma : MA} {i : Int} {e1 : En} {xs : List α} (h0 : ∃ ds, env[j]? = some (some (.ow ds))) (hm : ma env = some ([.val (.int i)], e1)) (h : e1[j]? = some (some (.ow (xs.map en)))) {E0 : α × List α → En} (hE : ∀ q : α × List α, e1.set j (some (.ow (q.2.map en))) = E0 q) : XV (mPopAt j ma) env (popI xs i) (fun q => .val (en q.1)) E0 := fun r hr => by
  obtain ⟨ds, h0⟩ := h0
  unfold popI at hr
  split at hr
  · rename_i hi
    cases hk : seqIndex? i xs.length with
    | none => rw [hk] at hr; cases hr
    | some k =>
      rw [hk, Option.bind_some] at hr
      cases hx : xs[k]? with
      | none => rw [hx] at hr; cases hr
      | some x =>
        rw [hx] at hr
        cases hr
        unfold mPopAt
        simp only [h0, hm, h, List.length_map, hk, List.getElem?_map, hx, Option.map_some]
        rw [if_pos hi, ← hE, erase_mapG]
  · cases hr
theorem xv_popAt {en : α → PyData} {j : Nat} {ma : MA} {t : Option β} {i : β → Int} {e1 : β → En} {xs : β → List α} (h0 : ∃ ds, env[j]? = some (some (.ow ds))) (hm : XV ma env t (fun b => [.val (.int (i b))]) e1) (h : ∀ b, (e1 b)[j]? = some (some (.ow ((xs b).map en)))) {E0 : β × α × List α → En} (hE : ∀ q : β × α × List α, (e1 q.1).set j (some (.ow (q.2.2.map en))) = E0 q) :
    XV (mPopAt j ma) env (t.bind fun b => (popI (xs b) (i b)).map fun r => (b, r)) (fun q => .val (en q.2.1)) E0 := fun q hq => by
  cases ht : t with
  | none => rw [ht] at hq; cases hq
  | some b =>
    rw [ht, Option.bind_some] at hq
    cases hp : popI (xs b) (i b) with
    | none => rw [hp] at hq; cases hq
    | some r =>
      rw [hp] at hq
      cases hq
      exact (xo_popAt (E0 := fun r => (e1 b).set j (some (.ow (r.2.map en)))) h0 (hm b ht) (h b) (fun _ => rfl) r hp).trans (congrArg (fun z => some (_, z)) (hE (b, r)))
end
/-! ### a loop over lists that the loop alone holds -/
section
variable {α β γ σ ρ : Type} {env e : En} {n : MS} {post : β → Ctl → En → Prop}
theorem lc_2g {mg : PyData → En → Option En} {mo : MO} {vs : List Nat} {en : γ → PyData} {enr : β → List PyData} {elt : γ → Option β} {E1 : γ → En} {xs : List γ} {e0 : En} (hw0 : wipeE e0 vs = env) (hg : ∀ a, mg (en a) env = some (E1 a)) (he : ∀ a, XV mo (E1 a) (elt a) (fun y => .ow (enr y)) (fun _ => E1 a)) (hw : ∀ a, wipeE (E1 a) vs = env) :
    XV (fun e => (mLc2Go mg mYes mo vs (xs.map en) [] (wipeE e vs)).map fun r => (O.ow2 r.1, r.2)) e0 (cmpO (fun _ => some true) elt xs) (fun r => O.ow2 (r.map enr)) (fun _ => env) := fun r hr => by
  have go : ∀ (xs : List γ) (acc : List (List PyData)) (r : List β), acc.length + xs.length ≤ sizeLine → cmpOGo (fun _ => some true) elt xs = some r → mLc2Go mg mYes mo vs (xs.map en) acc env = some (acc ++ r.map enr, env) := by
    intro xs
    induction xs with
    | nil => intro acc r _ h; cases h; simp [mLc2Go]
    | cons a as ih =>
      intro acc r hz h
      rw [List.length_cons] at hz
      unfold cmpOGo at h
      simp only [Option.bind_some, if_true] at h
      cases hy : elt a with
      | none => rw [hy] at h; cases h
      | some y =>
        rw [hy, Option.bind_some] at h
        cases hys : cmpOGo (fun _ => some true) elt as with
        | none => rw [hys] at h; cases h
        | some ys =>
          rw [hys] at h
          cases h
          have h3 := he a y hy
          show mLc2Go mg mYes mo vs (en a :: as.map en) acc env = _
          unfold mLc2Go mYes
          simp only [hg, h3, hw]
          have ih' := ih (acc ++ [enr y]) ys (by rw [List.length_append, List.length_singleton]; omega) hys
          unfold mYes at ih'
          rw [if_pos (by omega), ih', List.append_assoc]
          rfl
  unfold cmpO at hr
  split at hr
  · rename_i hz
    show (mLc2Go _ _ _ _ _ _ (wipeE e0 vs)).map _ = _
    rw [hw0, go xs [] r (by simpa using hz) hr]
    rfl
  · cases hr
theorem sv_goMR {enr : α → List PyData} {P : σ → En → Prop} {PR : ρ → Ctl → En → Prop} {body : α → σ → Option (Rs ρ σ)} {i : Nat} {mb : MS} (hb : ∀ a s e, P s e → SV mb (e.set i (some (.ow (enr a)))) (body a s) (fun r c e' => match r with | .nx s' => (c = .nx ∨ c = .ct) ∧ P s' e' | .bk s' => c = .bk ∧ P s' e' | .rt r => (∃ o, c = .rt o) ∧ PR r c e')) :
    ∀ (xs : List α) (s : σ) (e : En), P s e → SV (mForMGo i mb (xs.map enr)) e (forR body xs s) (fun r c e' => match r with | .nx s' => c = .nx ∧ P s' e' | .bk _ => False | .rt r => (∃ o, c = .rt o) ∧ PR r c e')
  | [], s, e, h, s', hs => by cases hs; exact ⟨.nx, e, rfl, rfl, h⟩
  | a :: as, s, e, h, s', hs => by
    unfold forR at hs
    cases h1 : body a s with
    | none => rw [h1] at hs; cases hs
    | some r =>
      rw [h1] at hs
      obtain ⟨c, e2, g2, gp⟩ := hb a s e h r h1
      cases r with
      | nx s1 =>
        obtain ⟨gc, p2⟩ := gp
        obtain ⟨c', e3, g3, g4⟩ := sv_goMR (PR := PR) hb as s1 e2 p2 s' hs
        refine ⟨c', e3, ?_, g4⟩
        show mForMGo i mb (enr a :: as.map enr) e = _
        unfold mForMGo
        rcases gc with rfl | rfl
        · simp only [g2, g3]
        · simp only [g2, g3]
      | bk s1 =>
        obtain ⟨rfl, p2⟩ := gp
        cases hs
        refine ⟨.nx, e2, ?_, rfl, p2⟩
        show mForMGo i mb (enr a :: as.map enr) e = _
        unfold mForMGo
        simp only [g2]
      | rt r =>
        obtain ⟨⟨o, rfl⟩, p2⟩ := gp
        cases hs
        refine ⟨.rt o, e2, ?_, ⟨o, rfl⟩, p2⟩
        show mForMGo i mb (enr a :: as.map enr) e = _
        unfold mForMGo
        simp only [g2]
theorem sv_forMR {enr : α → List PyData} {Q : σ → En → Prop} {body : α → σ → Option (Rs ρ σ)} {mo : MO} {i : Nat} {mb : MS} {xs : List α} {s0 : σ} {f : ρ → Option β} {t2 : σ → Option β} {PR : ρ → Ctl → En → Prop} (hi : mo env = some (.ow2 (xs.map enr), e)) (h0 : Q s0 e)
    (hb : ∀ a s e, Q s e → SV mb (e.set i (some (.ow (enr a)))) (body a s) (fun r c e' => match r with | .nx s' => (c = .nx ∨ c = .ct) ∧ Q s' e' | .bk s' => c = .bk ∧ Q s' e' | .rt r => (∃ o, c = .rt o) ∧ PR r c e')) (hr : ∀ r c e b, (∃ o, c = .rt o) → PR r c e → f r = some b → post b c e) (k : ∀ s e, Q s e → SV n e (t2 s) post) :
    SV (mSeq (mForM mo i mb) n) env ((forR body xs s0).bind fun r => r.on f t2) post := fun b hx => by
  cases ht : forR body xs s0 with
  | none => rw [ht] at hx; cases hx
  | some r =>
    rw [ht] at hx
    obtain ⟨c, e', h1, h2⟩ := sv_goMR (PR := PR) hb xs s0 e h0 r ht
    have h3 : mForM mo i mb env = some (c, e') := (bnd_eq hi).trans h1
    cases r with
    | nx s =>
      obtain ⟨rfl, h2⟩ := h2
      exact sv_nx h3 (k s e' h2) b hx
    | bk s => exact h2.elim
    | rt r =>
      obtain ⟨⟨o, rfl⟩, h2⟩ := h2
      exact sv_exit h3 (fun z => nomatch z) (hr r _ e' b ⟨o, rfl⟩ h2 hx) b rfl
theorem sv_forMRV {enr : α → List PyData} {Q : γ → σ → En → Prop} {body : γ → α → σ → Option (Rs ρ σ)} {mo : MO} {i : Nat} {mb : MS} {t1 : Option γ} {xs : γ → List α} {st : γ → En} {s0 : γ → σ} {f : γ → ρ → Option β} {t2 : γ → σ → Option β} {PR : γ → ρ → Ctl → En → Prop} (hi : XV mo env t1 (fun c => .ow2 ((xs c).map enr)) st) (h0 : ∀ c, Q c (s0 c) (st c))
    (hb : ∀ d a s e, Q d s e → SV mb (e.set i (some (.ow (enr a)))) (body d a s) (fun r c e' => match r with | .nx s' => (c = .nx ∨ c = .ct) ∧ Q d s' e' | .bk s' => c = .bk ∧ Q d s' e' | .rt r => (∃ o, c = .rt o) ∧ PR d r c e')) (hr : ∀ d r c e b, (∃ o, c = .rt o) → PR d r c e → f d r = some b → post b c e) (k : ∀ d s e, Q d s e → SV n e (t2 d s) post) :
    SV (mSeq (mForM mo i mb) n) env (t1.bind fun d => (forR (body d) (xs d) (s0 d)).bind fun r => r.on (f d) (t2 d)) post := fun b hx => by
  cases ht : t1 with
  | none => rw [ht] at hx; cases hx
  | some d => rw [ht] at hx; exact sv_forMR (hi d ht) (h0 d) (hb d) (hr d) (k d) b hx
end
section
variable {α β : Type} {env : En}
end
end Tr
namespace Tr
open PySem PySem.Spec PyProof.Rows L2
variable [TC]
/-! ### zip, each pair in one name -/
section
variable {prog : Program} {w : World} {A : Around} {E : Value → Shared → Prop} {s : Shared}
end

/-! ### t[::-1] of a pair -/
section
variable {prog : Program} {w : World} {A : Around} {E : Value → Shared → Prop} {s : Shared}
end
/-! ### is, is not of bools -/
end Tr
namespace Tr
open PySem PySem.Spec PyProof.Rows L2
variable [TC]
/-! ### a dict that a name alone holds: keys are ints or texts -/
end Tr
namespace Tr
open PySem PySem.Spec PyProof.Rows L2
variable [TC]
end Tr
namespace Tr
open PySem PySem.Spec PyProof.Rows L2
variable [TC]
section
variable {α β : Type} {env : En}
end
end Tr
namespace Tr
open PySem PySem.Spec PyProof.Rows L2 TS
variable [TC]
/-! ### sorted(d), d a dict whose keys are tuples of ints -/
section
variable {prog : Program} {w : World} {A : Around} {E : Value → Shared → Prop} {s : Shared}
end
end Tr
namespace Tr
open PySem PySem.Spec PyProof.Rows L2 TS
variable [TC]
end Tr
namespace Tr
open PySem PySem.Spec PyProof.Rows L2 TS
variable [TC]
/-! ### [list(t) for t in sorted(d)], d a dict whose keys are tuples of ints -/
end Tr
namespace Tr
open PySem PySem.Spec PyProof.Rows L2 TS
variable [TC]
section
variable {α : Type} {env : En}
end
theorem indexK {X : Cx} {K : PySem.W.Frag} (h : X.K = K := by rfl) : MtR X "list.index" (rIndex K) := by subst h; exact mt_index
end Tr
namespace Tr
open PySem PySem.Spec PyProof.Rows L2
variable [TC]
/-! ### sum(lists, []) -/
section
variable {prog : Program} {w : World} {A : Around} {E : Value → Shared → Prop} {R : Result → Shared → Prop}
end
end Tr
namespace Tr
open PySem PySem.Spec PyProof.Rows L2
variable [TC]
/-! ### set(xs), xs a list of ints -/
section
variable {P : Program} {w : World} {A : Around} {E : Value → Shared → Prop} {s : Shared}
end
end Tr
namespace Tr
open PySem PySem.Spec PyProof.Rows L2
variable [TC]
/-! ### sum(lists, []) -/
/-! ### sorted(set(xs)) -/
def dd : List Int → List Int
  | [] => []
  | x :: xs => if x ∈ xs then dd xs else x :: dd xs
section
variable {α : Type} {env : En}
end
end Tr
namespace Tr
open PySem PySem.Spec PyProof.Rows L2
variable [TC]
/-! ### texts -/
/-! ### f'..' -/
inductive RJs : Bool → List TE → List ME → Prop where
  | nil : RJs true [] []
  | cons {pu pv : Bool} {t : TE} {m : ME} {ts : List TE} {ms : List ME} (h : RE pu t m) (r : RJs pv ts ms) : RJs (pu && pv) (t :: ts) (m :: ms)
end Tr
namespace Tr
open PySem PySem.Spec PyProof.Rows L2
variable [TC]
/-! ### enumerate(list, k) -/
/-! ### for a, (b, c) in .. -/
end Tr
namespace Tr
open PySem PySem.Spec PyProof.Rows L2
variable [TC]
section
variable {X : Cx} {K : PySem.W.Frag}
end
end Tr
namespace Tr
open PySem PySem.Spec PyProof.Rows L2
variable [TC]
/-- may its text be told -/
def tellOk (d : PyData) : Prop := isTup d = false ∧ reprOk d = true ∧ deepD d ≤ 60 ∧ (reprD d).length ≤ sizeLine ∧ SeqAt.shaped (.str (reprD d)) = true
instance (d : PyData) : Decidable (tellOk d) := by unfold tellOk; infer_instance
end Tr
namespace Tr
open PySem PySem.Spec PyProof.Rows L2
variable [TC]
/-! ### texts, typed -/
section
variable {env : En}
end
/-! ### enumerate(xs, k) -/
/-! ### the rest of a def by hand -/
theorem sv_hand {γ β : Type} {env : En} {m n : MS} {t1 : Option γ} {f : γ → β} {post : β → Ctl → En → Prop} (R : γ → Ctl → En → Prop) (h : ∀ c, t1 = some c → ∃ k e, m env = some (k, e) ∧ k ≠ .nx ∧ R c k e) (hp : ∀ c k e, R c k e → post (f c) k e) : SV (mSeq m n) env (t1.map f) post := fun b hb => by
  cases ht : t1 with
  | none => rw [ht] at hb; cases hb
  | some c =>
    rw [ht] at hb
    cases hb
    obtain ⟨k, e, h1, h2, h3⟩ := h c ht
    exact sv_exit h1 h2 (hp c k e h3) _ rfl
theorem fin0 {o o0 : O} {e : En} (h : e[0]? = some (some o)) : mDef.finL [0] [o0] e = some [o] := by
  unfold mDef.finL
  rw [h]
  rfl
end Tr
namespace Tr
open PySem PySem.Spec PyProof.Rows L2
variable [TC]
/-! ### a number told of a held thing, which stays held: the reading sees that thing alone, as data -/
def mScoped (j : Nat) (m : ME) : ME := fun env => match env[j]? with
  | some (some o) => match o.dat with
    | some d => match m ((List.replicate env.length none).set j (some (.fz d))) with
      | some (.val (.int i), _) => some (.val (.int i), env)
      | _ => none
    | none => none
  | _ => none
theorem re_scoped {pu : Bool} {t : TE} {m : ME} {j : Nat} (h : RE pu t m) : RE false t (mScoped j m) := by
  intro F H σ env Sl R p env' e Q q
  unfold mScoped at e
  split at e
  · rename_i o h0
    split at e
    · rename_i d hd
      split at e
      · rename_i i e2 hm
        cases e
        obtain ⟨v, hv, w⟩ := R.at_ j _ h0
        obtain ⟨_, R1, rd⟩ := R.fix h0 hv hd
        have jl : j < env.length := (List.getElem?_eq_some_iff.mp h0).1
        have R2 : REnv (fixed F H (Sl j)) H σ ((List.replicate env.length none).set j (some (.fz d))) (fun _ _ => False) := by
          refine ⟨R1.ex, by rw [List.length_set, List.length_replicate]; exact R.len, fun k u hk => ?_, fun _ _ _ z => z.elim, fun _ _ z => z.elim, R1.tb.fewer fun _ _ z => z.elim⟩
          rcases set_at hk with ⟨rfl, e2, _⟩ | ⟨ne, h'⟩
          · cases e2
            exact ⟨v, hv, rd⟩
          · rw [List.getElem?_replicate] at h'
            split at h' <;> cases h'
        refine h _ H σ _ _ R2 _ _ hm Q fun r F' H' Sl' s pu' R' rr => ?_
        obtain ⟨s9, R9⟩ := R.back s fun _ _ z => z
        exact q r F H' Sl s9 (fun z => nomatch z) R9 (pint rr)
      · cases e
    · cases e
  · cases e
/-! ### xs.append(e), where xs is never read again -/
def mAppG (j : Nat) (ma : MA) : MS := fun env => match env[j]? with
  | some (some (.ow2 rows)) => match ma env with
    | some ([.val _], _) => if rows.length < sizeLine then some (.nx, env.set j none) else none
    | _ => none
  | _ => none
theorem rs_appG {K : PySem.W.Frag} {pn : List Nat} {ta : TA} {ma : MA} {j : Nat} (h : RA true ta ma) : RS pn (tDrop (tBM K "list" rAppend (tVar j) ta)) (mAppG j ma) := by
  intro F H σ env Sl R c env' e D q
  unfold mAppG at e
  split at e
  · rename_i rows h0
    split at e
    · rename_i d e1 h1
      split at e
      · rename_i hz
        cases e
        obtain ⟨a, rs, ea, hH, na, nd, sa, all⟩ := R.held2 h0
        refine ⟨_, ea, Or.inl ⟨rfl, _, SqL.of hH⟩, ?_⟩
        refine h F H σ env Sl R _ _ h1 _ fun r F1 H1 Sl1 s1 pu1 R1 r1 => ?_
        obtain ⟨rfl, x, rfl⟩ := pu1 rfl
        cases r1 with
        | cons y t =>
          cases t
          rename_i v
          have ha1 := x _ _ hH
          have fa := (R1.tr j a sa).1
          refine ⟨a, rs.map V.ref, v, rfl, rfl, ha1, by rw [List.length_map, ← all.len]; exact hz, ?_⟩
          have s4 : Step F1 H1 Sl1 F1 (upd H1 a (.lst (rs.map V.ref ++ [v]))) (lose Sl1 j) := ⟨Ex.refl _, fun b o hb n _ => by rw [upd_ne (fun z => n j (by rw [z]; exact sa))]; exact hb, fun b o hb => by
            by_cases z : b = a
            · subst z; exact ⟨_, upd_same⟩
            · exact ⟨o, by rw [upd_ne z]; exact hb⟩, fun _ _ z => .inl z.2, fun _ _ z => .inl z, tabs_put (slo_of ha1)⟩
          refine q _ _ σ _ (s1.trans s4) ⟨fun b o hb => ?_, by rw [List.length_set]; exact R1.len, fun k u hk => ?_, fun k l b x y => R1.dj k l b x.2 y.2, fun k b z => ?_, R1.tb.step s4⟩ fun _ _ => rfl
          · rw [upd_ne (fun z => by rw [z, fa] at hb; cases hb)]; exact R1.ex b o hb
          · rcases set_at hk with ⟨rfl, e2, _⟩ | ⟨ne, h'⟩
            · cases e2
            · obtain ⟨v2, e2, w2⟩ := R1.at_ k u h'
              refine ⟨v2, e2, ?_⟩
              have w3 := w2.ext (Ex.refl F1) (H' := upd H1 a (.lst (rs.map V.ref ++ [v]))) fun b u s q => by rw [upd_ne (fun z => ne (R1.dj k j a (by rw [← z]; exact s) sa))]; exact q
              exact w3.sub fun b s => ⟨ne, s⟩
          · obtain ⟨y1, u, y2⟩ := R1.tr k b z.2
            refine ⟨y1, ?_⟩
            by_cases e : b = a
            · subst e; exact ⟨_, upd_same⟩
            · exact ⟨u, by rw [upd_ne e]; exact y2⟩
      · cases e
    · cases e
  · cases e
end Tr
namespace Tr
open PySem PySem.Spec PyProof.Rows L2
variable [TC]
/-! ### the signs of a text -/
/-! ### s.index(t), int(s), len(s) -/
/-! ### s[lo:hi] -/
end Tr
namespace Tr
open PySem PySem.Spec PyProof.Rows L2
variable [TC]
end Tr
namespace Tr
open PySem PySem.Spec PyProof.Rows L2
variable [TC]
/-! ### more of texts, typed -/
section
variable {env : En}
end
end Tr
namespace Tr
open PySem PySem.Spec PyProof.Rows L2
variable [TC]
/-- the wish of a clause of two classes, one of which it is -/
def wK2 (K : PySem.W.Frag) (c1 c2 : Value) (i : Nat) (ts : Addr → Value → Option Addr → TS) (D : Ends) : WX := fun cls d σ H =>
  PySem.W.exmAny K cls [c1, c2] = some true ∧ ∀ a, H a = none → ts a cls d { nx := fun σ' H' => H' a = none → D.nx (σ'.set i none) (upd H' a (ExK a cls d)), rt := fun _ _ => False, bk := fun _ _ => False, ct := fun _ _ => False } (σ.set i (some (.ref a))) H
theorem fly_push {B h : Heap} {l : List Env} {a : Addr} {Z : Obj → Prop} (f : HandSPX.FlyingZ B l a Z h) (o : Obj) : HandSPX.FlyingZ B l a Z (h.push o) := by
  obtain ⟨k1, k2, k3, oe, vs, T, oT, ts, he, hz, hd, h1, h2, h3, h4, h5, h6⟩ := f
  have k : ∀ b u, h.get? b = some u → (h.push o).get? b = some u := fun b u e => Heap.get?_push_of_some _ e
  exact ⟨fun b u e => k b u (k1 b u e), k2, Heap.FunFrames.of_keeps (fun b u e _ => ⟨u, k b u e, rfl⟩) k3, oe, vs, T, oT, ts, k _ _ he, hz, hd, h1, h2, h3, k _ _ h4, h5, h6⟩
section
variable {X : Cx} {x1 x2 n : Str} {c1 c2 : Value} {i kk : Nat} {body suite : List Stmt} {b₀ : Stmt} {np1 np2 tp pos pos' : Pos} {tb : WX → TS} {ts : Addr → Value → Option Addr → TS}
theorem ps_try_keep2 (hs : X.stack = X.env :: X.outer) (hf : X.env.frame = some X.env.locals) (hex : X.ex = []) (hN : X.N.Nodup) (hi : X.N[i]? = some n) (hln : X.env.kindOf n = some .local) (hc1 : Names X x1 c1) (hc2 : Names X x2 c2)
    (hb : ∀ (W : WX) (pn : List (Addr × Obj)) (xe : Value → Shared → Prop), Takes (X.tr pn xe) W → PassesOwn (model X.prog X.w) X.A X.env xe → PSs (X.tr pn xe) body (tb W))
    (hsu : ∀ (a : Addr) (oe : Obj) (cls : Value) (d : Option Addr) (pn : List (Addr × Obj)), Zc cls d oe → (∃ vs, oe.data = .fields vs) → PSs (X.suite a ((a, oe) :: pn)) (b₀ :: suite) (ts a cls d)) :
    PS X (.Try body [.ExceptHandler (some (.Tuple [.Name x1 np1, .Name x2 np2] kk tp)) (some n) (b₀ :: suite) pos'] [] [] pos) (fun D σ H => tb (wK2 X.K c1 c2 i ts D) D σ H) := by
  refine ⟨fun pins s σ H D I h => ?_⟩
  have ok := I.ok
  have hfr : X.A.frames = some (X.env :: X.outer) := by rw [ok.frames, hs]
  have hloc : Loc X.env.scope n := .inl hln
  refine wpAny_Try_except ?_
  refine wpAny_mono ((hb (wK2 X.K c1 c2 i ts D) (X.pn ++ pins) (fun e s₁ => wpAny (model X.prog X.w) X.A (noteFrame e X.env) (fun _ s₂ => wpAny (model X.prog X.w) X.A (setFlight e none) (fun _ s₃ =>
    wpAny (model X.prog X.w) X.A (handleBy e X.env [.ExceptHandler (some (.Tuple [.Name x1 np1, .Name x2 np2] kk tp)) (some n) (b₀ :: suite) pos']) (SP X pins D) X.xe s₃) X.xe s₂) X.xe s₁) (fun u s' xx => ?_) PassesOwn.looking).run [] s σ H D (I.toTry _) h) (fun f s1 hsp => ?_) (fun e s1 he => he)
  · -- the catch
    obtain ⟨a, B, sI, pins', σ', H', cls, d, rfl, J', nb, up, sky, na, os, ag, hb1, hyes⟩ := xx
    have J : Inv X pins σ' H' sI := J'.ofTry ok
    have sky' : Sky B (X.env :: X.outer) a (Zc cls d) X.env.locals s'.heap := by rw [← hs]; exact sky
    show wpAny (model X.prog X.w) X.A (noteFrame (.ref a) X.env) _ _ _
    refine Sky.land Zc.steady hfr hf sky' fun h3 fl3 up3 => ?_
    have J3 : Inv X pins σ' H' { s' with heap := h3 } := J.landed nb fl3.1 (up.trans up3) os ag
    obtain ⟨oe3, vs3, he3, hz3, hd3⟩ := fl3.there
    have notFr : ∀ {h : Heap} {o : Obj} {vs : Array Value}, h.FunFrames B (X.env :: X.outer) → h.get? a = some o → o.data = .fields vs → a ∉ frs (X.env :: X.outer) := fun {h o vs} ff e dd hm => by
      obtain ⟨_, o', e', hnf⟩ := ff.mem hm
      rw [e] at e'; cases e'
      exact hnf _ dd
    have nfr := notFr fl3.2.2.1 he3 hd3
    have nL : a ≠ X.env.locals := fun z => nfr (List.mem_filterMap.mpr ⟨X.env, List.mem_cons_self, by rw [hf, z]⟩)
    have nF : a ∉ X.fs := fun hm => by
      obtain ⟨e, he, q⟩ := List.mem_filterMap.mp hm
      exact nfr (List.mem_filterMap.mpr ⟨e, List.mem_cons_of_mem _ he, q⟩)
    have nB : B.get? a = none := fl3.2.1
    have nI : sI.heap.get? a = none := by
      cases e : sI.heap.get? a with
      | none => rfl
      | some o =>
        have z := nb a o e (by rw [hs]; exact nfr)
        rw [nB] at z
        cases z
    have n0 : X.s_0.heap.get? a = none := by
      cases e : X.s_0.heap.get? a with
      | none => rfl
      | some o =>
        obtain ⟨o', z⟩ := J.base.there a o e (by rw [hex]; exact fun z => nomatch z)
        rw [nI] at z
        cases z
    have nc : ∀ y c, X.env.cells.lookup y = some c → c ≠ a := fun y c e z => by
      obtain ⟨v, o, q, _⟩ := J.cell y c e
      rw [z, nI] at q
      cases q
    have npn : ∀ p ∈ X.pn ++ pins, p.1 ≠ a := fun p hp z => by
      have q := (J.pin p hp).1
      rw [z, nI] at q
      cases q
    have S3 := J3.suite he3 hd3 na nL nF
    refine wpAny_handleBy_cons (codeAny_handlers_test ?_) (by intro q; cases q)
    have nm : ∀ {x : Str} {c : Value} {np : Pos}, Names X x c → ∀ {Q : Value → Shared → Prop} {E : Value → Shared → Prop}, Q c { s' with heap := h3 } → wpAny (model X.prog X.w) (X.A.mark (some (.ref a))) (eval (.Name x np) X.env) Q E { s' with heap := h3 } := fun {x c np} hc {Q E} q => by
      obtain ⟨hg, hdbg, hm | ⟨hm, hv, hnn⟩⟩ := hc
      · exact ld_glob (X := X.suite a ((a, oe3) :: (X.pn ++ pins))) S3 hg hm q hdbg
      · exact ld_blt (X := X.suite a ((a, oe3) :: (X.pn ++ pins))) S3 hg hm hv q hnn hdbg
    refine Tuple_ (spliced_more (nm hc1 (spliced_more (nm hc2 (spliced_none ?_)))))
    refine wpAny_newObj_type ?_
    generalize ht : h3.push _ = h5
    have fl5 : HandSPX.FlyingZ B (X.env :: X.outer) a (Zc cls d) h5 := by rw [← ht]; exact fly_push fl3 _
    have k35 : ∀ b o, h3.get? b = some o → h5.get? b = some o := fun b o e => by rw [← ht]; exact Heap.get?_push_of_some _ e
    have up5 : s'.heap.UpToSlots h5 := up3.trans (Heap.UpToSlots.of_keeps k35)
    have J5 : Inv X pins σ' H' { s' with heap := h5 } := J.landed nb fl5.1 (up.trans up5) os ag
    have LT : PySem.W.Looks (model X.prog X.w) h5 (typeOf (.ref a)) cls := fun A Q E s k q => wpAny_typeOf_ref (k _ _ (k35 _ _ he3)) (by rw [hz3.1]; exact q)
    have LM := PySem.W.exm_tup2 (M := model X.prog X.w) (J5.kIn) LT (by rw [← ht]; exact Heap.get?_push_size _ rfl) hb1
    refine LM.here ?_
    refine codeAny_handlers_suite_as ?_
    refine HandSPX.lands_againZ fl5 fun h4 fl4 up4 => ?_
    have J4 : Inv X pins σ' H' { s' with heap := h4 } := J.landed nb fl4.1 ((up.trans up5).trans up4) os ag
    obtain ⟨oe4, vs4, he4, hz4, hd4⟩ := fl4.there
    have S4 := J4.suite he4 hd4 na nL nF
    refine store_ok (X := X.suite a ((a, oe4) :: (X.pn ++ pins))) (v := .ref a) S4 hN hi hloc rfl (fun s5 S5 => ?_) (.inr hln)
    refine wpAny_mono ((hsu a oe4 cls d (X.pn ++ pins) hz4 ⟨_, hd4⟩).run [] s5 _ H' _ S5 (hyes a na)) (fun f s6 hsp => ?_) (fun _ _ z => False.elim z)
    cases f with
    | next =>
      obtain ⟨σ6, H6, S6, q6⟩ := hsp
      obtain ⟨ha6, na6, _⟩ := S6.pin (a, oe4) (List.mem_append_left _ List.mem_cons_self)
      exact gone_ok (Inv.track (S6.unsuite ok) ha6 hz4 hd4 na6 n0 nL nc npn) hN hi hln fun s7 J7 => ⟨_, _, J7, q6 na6⟩
    | brk =>
      obtain ⟨σ6, H6, S6, q6⟩ := hsp
      exact q6.elim
    | cont =>
      obtain ⟨σ6, H6, S6, q6⟩ := hsp
      exact q6.elim
    | ret u =>
      obtain ⟨v6, σ6, H6, S6, r6, q6⟩ := hsp
      exact q6.elim
  · cases f with
    | next =>
      obtain ⟨σ', H', J', q⟩ := hsp
      exact wpAny_execs_nil ⟨σ', H', J'.ofTry ok, q⟩
    | brk =>
      obtain ⟨σ', H', J', q⟩ := hsp
      exact ⟨σ', H', J'.ofTry ok, q⟩
    | cont =>
      obtain ⟨σ', H', J', q⟩ := hsp
      exact ⟨σ', H', J'.ofTry ok, q⟩
    | ret u =>
      obtain ⟨v, σ', H', J', r, q⟩ := hsp
      exact ⟨v, σ', H', J'.ofTry ok, r, q⟩
end
end Tr
namespace Tr
open PySem PySem.Spec PyProof.Rows L2
variable [TC]
/-- may the text of [t, d] be told -/
def tellL (t : Str) (d : PyData) : Prop := reprOk (.list [.str t, d]) = true ∧ deepD (.list [.str t, d]) ≤ 60 ∧ (reprD (.list [.str t, d])).length ≤ sizeLine
instance (t : Str) (d : PyData) : Decidable (tellL t d) := by unfold tellL; infer_instance
def tTwo (K : PySem.W.Frag) (j : Nat) (C1 : Addr) (f1 f2 told t1 t2 : Str) (T : String) : TS := tSeq (tIfS (tOr (tTest (tOp (fun x y H Q => y = .non ∧ Q (.bl (decide (x = .non))) H) (tVar j) (tC .non))) (tNot (tB (tCB (rIsK K) (tCons (tVar j) (tCons (tC (.ty T)) tNil)))))) (tRet (tC (.str told))) tNext)
  (tRet (tIf (tB (tCB (rIsK K) (tCons (tVar j) (tCons (tC (.ref C1)) tNil)))) (tCB rRepr (tCons (tLst (tCons (tC (.str t1)) (tCons (tKf K f1 (tVar j)) tNil))) tNil)) (tCB rRepr (tCons (tLst (tCons (tC (.str t2)) (tCons (tKf K f2 (tVar j)) tNil))) tNil))))
end Tr
namespace Tr
open PySem PySem.Spec PyProof.Rows L2
variable [TC]
/-! ### str(a bool) -/
/-! ### two classes of the program that are not one another's -/
section
variable {K : PySem.W.Frag} {C1 C2 : Addr}
theorem exa_one (h1 : PySem.W.exmOne K (.ref C1) (.ref C1) = some true) (h2 : PySem.W.exmOne K (.ref C1) (.ref C2) = some false) : PySem.W.exmAny K (.ref C1) [.ref C1, .ref C2] = some true := by
  unfold PySem.W.exmAny PySem.W.exmAny PySem.W.exmAny
  rw [h1, h2]
  rfl
theorem exa_two (h1 : PySem.W.exmOne K (.ref C2) (.ref C1) = some false) (h2 : PySem.W.exmOne K (.ref C2) (.ref C2) = some true) : PySem.W.exmAny K (.ref C2) [.ref C1, .ref C2] = some true := by
  unfold PySem.W.exmAny PySem.W.exmAny PySem.W.exmAny
  rw [h1, h2]
  rfl
theorem kit_self : PySem.W.kitOne K (.ref C1) (.ref C1) = some true := by
  unfold PySem.W.kitOne
  rw [if_pos (by simp)]
theorem kit_other (sa : PySem.W.subIn K (.ref C1) (.ref C1) = some true) (sb : PySem.W.subIn K (.ref C2) (.ref C1) = some false) (hd : PySem.W.hasDictIn K C1 = true) (ht : PySem.W.typeIn K (.ref C1) = some (.type "type")) : PySem.W.kitOne K (.ref C2) (.ref C1) = some false := by
  have ne : C2 ≠ C1 := fun e => by rw [e, sa] at sb; cases sb
  obtain ⟨cd, hc, _⟩ := PySem.W.any_some hd
  unfold PySem.W.kitOne
  rw [if_neg (by simpa using ne)]
  show (if ((PySem.W.clsIn K C1).isSome && PySem.W.typeIn K (.ref C1) == some (.type "type")) = true then PySem.W.subIn K (.ref C2) (.ref C1) else none) = some false
  rw [if_pos (by rw [hc, ht] <;> rfl)]
  exact sb
end
section
variable {env : En}
end
end Tr
/-! own exceptions over LookupError, with an __init__ that keeps one field -/
namespace Tr.Lk
open PySem PySem.Spec PyProof.Rows PySem.HandSPX PySem.Builtin PySem.Builtin.ObjectAttr
abbrev leT : List Value := [.type "LookupError", .type "Exception", .type "BaseException", .type "object"]
section
variable {prog : Program} {w : World} {A : Around} {R : Result → Shared → Prop} {hp : Heap} {g : Array GenState} {dr : Drawn} {tt : Nat} {os : OsState}
end
end Tr.Lk
namespace Tr
open PySem PySem.Spec PyProof.Rows L2
variable [TC]
open Tr.Lk (leT)
/-- what the written part says of such a class -/
structure OexL (K : PySem.W.Frag) (C : Addr) : Prop where
  cls : ∃ nm q N bs sn sub ab col dd k0 k1 k2 k3 k5, K.lookup C = some (excClassObj nm q C N bs leT true sn sub ab col dd k0 k1 k2 k3 k5 "LookupError.__new__")
  sa : PySem.W.findIn K (.ref C) "__setattr__" = some (some (.builtin "object.__setattr__"))
  exC : PySem.W.subIn K (.ref C) (.type "BaseException") = some true
  tyC : PySem.W.typeIn K (.ref C) = some (.type "type")
  kC : PySem.W.keepIn K (.ref C) = true
section
variable {X : Cx} {pins : List (Addr × Obj)} {σ : L2.St} {H : Hp} {s : Shared} {e C : Addr} {f : Str} {y : V} {u : Value} {E : Value → Shared → Prop} {A : Around}
end
section
variable {X : Cx} {o e : Expr} {es : List Expr} {to te : TE} {ta : TA} {f : Str} {p p' p1 p2 pos : Pos}
end
end Tr
namespace Tr
open PySem PySem.Spec PyProof.Rows L2
variable [TC]
/-! ### data that a name alone holds -/
/-! ### what is told of a held thing, which stays held: all fixed names may be read -/
/-! ### x = t[1]; x.append(e), where neither is read again -/
end Tr
namespace Tr
open PySem PySem.Spec PyProof.Rows L2
variable [TC]
/-- a def that nothing is told of -/
theorem stubG {P : Program} {w : World} {K : PySem.W.Frag} {mg : Str → Option Value} {base : Heap} {k : Nat} {f : Addr} {fd : FuncData} {ps : List Str} {pn : List Nat} : FnG P w K mg base k f fd ps (spOf pn fun _ => none) :=
  ⟨fun vs H Q E h => (no h).elim, fun A ou s H ar us vs Q E _ _ _ _ _ h => (no h).elim⟩
where
  no {vs : List V} {H : Hp} {Q : VK} {E : XK} (h : spOf pn (fun _ => none) vs H Q E) : False := by
    obtain ⟨_, _, _, _, _, _, _, _, hm, _⟩ := h
    cases hm
end Tr
namespace Tr
open PySem PySem.Spec PyProof.Rows L2
variable [TC]
/-! ### repr of any data, a tuple itself too -/
end Tr
namespace Tr
open PySem PySem.Spec PyProof.Rows L2
variable [TC]
/-- may its text be told, a tuple's too -/
def tellA (d : PyData) : Prop := reprOk d = true ∧ deepD d ≤ 60 ∧ (reprD d).length ≤ sizeLine ∧ SeqAt.shaped (.str (reprD d)) = true
instance (d : PyData) : Decidable (tellA d) := by unfold tellA; infer_instance
end Tr
namespace Tr
open PySem PySem.Spec PyProof.Rows L2
variable [TC]
/-! ### a op1 b op2 c op3 d -/
section
variable {X : Cx} {a b c d : Expr} {ta tb tc td : TE} {pos : Pos}
end
end Tr
namespace Tr
open PySem PySem.Spec PyProof.Rows L2
variable [TC]
/-! ### any of truth values; a list of one's own handed over as (text, list) -/
/-! ### not of a list, a number ..: as a value -/
end Tr
namespace Tr
open PySem PySem.Spec PyProof.Rows L2
variable [TC]
/-! ### bit words -/
/-! ### xs.count(k), whole numbers -/
/-! ### list(r), r a name that holds a range -/
end Tr
namespace Tr
open PySem PySem.Spec PyProof.Rows L2
variable [TC]
/-! ### n.bit_length() -/
/-! ### len(set(xs)), xs a list of whole numbers -/
def setN (ns : List Int) : Nat := (PyProof.Rows.firstMet (fun i => ns.getD i 0) ns.length).length
def rLenSet (K : PySem.W.Frag) : List V → Hp → VK → Prop := fun xs H Q => ∃ (l : Addr) (ns : List Int), xs = [.ref l] ∧ SqL K H l (ns.map V.int) ∧ ns.length ≤ 4000 ∧ Q (.int (setN ns : Nat)) H
theorem lenSet_le (ns : List Int) : setN ns ≤ ns.length := PyProof.Rows.firstMet_length_le _ _
theorem pe_lenSetG {X : Cx} {K : PySem.W.Frag} {a : Expr} {ta : TE} {p p2 q pos : Pos} (hc : X.calm = true) (hg : Gl X "len") (hm : X.mg "len" = none) (hg2 : Gl X "set") (hm2 : X.mg "set" = none) (ha : PE X a ta) (hK : X.K = K := by rfl)
    (na : starEach [a] X.env = (false, eval a X.env) :: starEach [] X.env := by rfl) : PE X (.Call (.Name "len" p) [.Call (.Name "set" p2) [a] [] q] [] pos) (tCB (rLenSet K) (tCons ta tNil)) := by
  subst hK
  refine ⟨fun pins s σ H Q I h => ?_⟩
  have h : ta σ H (fun x H1 => rLenSet X.K [x] H1 Q) := h
  refine Call_ (ld_blt I hg hm PySem.boot_len ?_)
  refine PyProof.Rows.callWith_builtin1 (PyProof.Rows.args_cons ?_ rfl) rfl rfl
  refine Call_ (ld_blt I hg2 hm2 PyProof.Rows.boot_set ?_)
  refine PyProof.Rows.callWith_type1 (PyProof.Rows.args_cons (thn (ha.run pins s σ H _ I h) fun v s1 ⟨x, H1, I1, r1, q1⟩ => PyProof.Rows.args_nil ?_) na) na rfl
  obtain ⟨l, ns, e0, hq, h1, q1⟩ := q1
  obtain rfl : x = .ref l := (List.cons.inj e0).1
  cases r1
  obtain ⟨its, r, pl, hz⟩ := I1.list hq
  have hl : its.toArray.size = ns.length := by rw [List.size_toArray, ← r.length, List.length_map]
  refine call_set_list (I1.ok.hd hc) pl.isList (ns := ns) (by simpa using r.ints) (by unfold scanBound; omega) fun h' tk hS hk => ?_
  rw [hl] at hS
  change h'.SetOf _ _ _ (setN ns) at hS
  refine PyProof.Rows.args_nil ?_
  obtain ⟨o, es, ep, t, ho, hex, hd, _, _, _, hf, hn⟩ := hS
  have I2 : Inv X pins σ H1 { s1 with heap := h', toks := tk } := I1.kept fun b o e => hk b o (Heap.lt_size e) e
  have hb := lenSet_le ns
  refine call_len_set ho hex hd hf (by rw [hn] <;> unfold scanBound at * <;> omega) ⟨.int (setN ns : Nat), H1, I2.tok _, ⟨_, by rw [hn]⟩, q1⟩
def gLenSet : En → List P → Option P := fun env ps => match ps with
  | [p] => ((sq env p).bind allI).bind fun ns => if ns.length ≤ 4000 then some (.val (.int (setN ns : Nat))) else none
  | _ => none
theorem f_lenSet {K : PySem.W.Frag} : FnK (rLenSet K) gLenSet := by
  intro F H σ env Sl xs ps p R h e Q q
  unfold gLenSet at e
  split at e
  · rename_i p1
    cases h with
    | cons a t =>
      cases t
      cases h1 : sq env p1 with
      | none => rw [h1] at e; cases e
      | some ds =>
        cases h2 : allI ds with
        | none => simp only [h1, Option.bind_some, h2] at e; cases e
        | some ns =>
          simp only [h1, Option.bind_some, h2] at e
          split at e
          · rename_i hn
            cases e
            obtain ⟨l, vs, rfl, hl, r⟩ := sq_of R a h1
            have e2 := allI_ok r h2
            exact ⟨l, ns, rfl, SqL.of (by rw [← e2]; exact hl), hn, q _ F H (Ex.refl F) (Ex.refl H) R.ex (fun _ _ z => .inl z) rfl⟩
          · cases e
  · cases e
def lenSetI (ns : List Int) : Option Int := if ns.length ≤ 4000 then some (setN ns : Nat) else none
theorem xo_lenSet {env : En} {p : P} {xs : List Int} (h : sq env p = some (xs.map encI)) : XV (fun e => (gLenSet e [p]).map fun r => (r, e)) env (lenSetI xs) (fun r => .val (.int r)) (fun _ => env) := fun r hr => by
  have e : allI (xs.map encI) = some xs := allI_map xs
  unfold lenSetI at hr
  unfold gLenSet
  split at hr
  · rename_i hz
    cases hr
    simp only [h, Option.bind_some, e, if_pos hz, Option.map_some]
  · cases hr
/-! ### min(xs, default=None), max(xs, default=None), xs a list of tuples (number, list of numbers) -/
section
variable {X : Cx} {pins : List (Addr × Obj)} {σ : L2.St} {H : Hp} {s : Shared}
end
end Tr
namespace Tr
open PySem PySem.Spec PyProof.Rows L2
variable [TC]
/-! ### what is told of an object that holds a list of its own, the object standing still: its parts may be read -/
/-! ### o.g.insert(i, e) -/
/-! ### f(C(..), e, ..): the new object is lost behind the call -/
/-! ### the end of a method: o.g = x; return x != y -/
end Tr
namespace Tr
open PySem PySem.Spec PyProof.Rows L2
variable [TC]
/-! ### typed -/
section
variable {α β γ : Type} {env env1 e2 : En} {j : Nat}
theorem flat_ints (xs : List Int) : (xs.map encI).all flat = true := by
  rw [List.all_eq_true]
  intro d hd
  obtain ⟨i, _, rfl⟩ := List.mem_map.mp hd
  rfl
end
end Tr
/-! Generators: a loop whose body hands things out. -/
namespace Tr
open PySem PySem.Spec PyProof.Rows L2 GenW
variable [TC]

section
variable {M : Model} {A : Around} {R : GenEnd} {Y : Protocol} {n : Nat} {s₀ : Shared} {c : Code} {fs : List Frame} {s : Shared} {env : Env}
  {B : Flow → Sem PySem.Fin} {J : Value → Sem PySem.Fin} {gd : Bool → Bool} {lv : List Value → List Value}
end
section
variable {prog : Program} {w : World} {A : Around} {R : GenEnd} {Y : Protocol} {n : Nat} {s₀ : Shared} {fs : List Frame} {s : Shared} {env : Env}
end
section
variable {X : Cx} {tg : Expr}
end
/-! the same over trees: what is handed out, as a list -/
section
variable {X : Cx} {tg iter : Expr}
end
theorem REnv.bare {F H : Hp} {σ : L2.St} {env : En} {Sl : Nat → Addr → Prop} (R : REnv F H σ env Sl) : REnv F H σ (List.replicate σ.length none) Sl :=
  ⟨R.ex, by rw [List.length_replicate], fun i o h => (by
    rw [List.getElem?_replicate] at h
    split at h <;> simp at h), R.dj, R.tr, R.tb⟩
/-! defs that any code may call -/
section
variable {P : Program} {w : World} {K : PySem.W.Frag} {mg : Str → Option Value} {base : Heap}
theorem okN {x qual : Str} {st : Stmt} {f : Addr} {fd : FuncData} {N ps : List Str} {k : Nat} {sp : Sp} (Fn : Fun K x qual st f fd) (Sc : FnScope N ps (defScope st)) (len : ∀ vs H Q E, sp vs H Q E → vs.length = ps.length)
    (body : ∀ (cdv : Value) (A : Around) (ou : List Env) (s : Shared) (H : Hp) (vs : List V) (Q : VK) (E : XK), Room k (A.deeper (envOfC qual (defScope st) s.heap.objs.size f cdv)) → sp vs H Q E →
      ∃ t, PSs (cxOf CX0 P w K mg base N qual (defScope st) f cdv A ou s H E).nox (defBody st) t ∧ t { nx := fun _ H' => Q .non H', rt := Q } (L2.start N vs) H) : FnOk P w K mg base CX0 (k + 1) f fd ps sp := by
  obtain ⟨oc, od, kV, doc, pm, an, cdv, ct, osl, rfl, lk, hcd⟩ := Fn.ex
  refine ⟨len, ?_⟩
  intro A ou s H ar us vs Q E room e0 bi rv want
  have hl := len vs H Q E want
  have inK : K.In s.heap := e0.mod.kin.keeps fun b o z => (e0.bs b o z).1
  have kinds : ∀ y ∈ ps.zip us, (defScope st).names.lookup y.1 = some .local ∨ ((defScope st).names.lookup y.1 = some .cell ∧ ((cellsFrom (s.heap.objs.size + 1) (defScope st).names []).lookup y.1).isSome = true) := by
    rintro ⟨nm, u⟩ hy
    rcases Sc.par nm (List.of_mem_zip hy).1 with z | z
    · exact .inl z
    · exact .inr ⟨z, PySem.W.cellsFrom_some _ _ _ (.inl z)⟩
  apply codeAny_call_function room.depth (inK _ _ lk) rfl Sc.co Sc.gen rfl (PySem.W.codeRec_of inK hcd)
  refine bi _ _ _ _ (wpAny_newFunctionEnv_cells Sc.kind kinds ?_)
  intro env eenv s1 made
  subst eenv
  refine ⟨(e0.mod.nolimit.keeps fun b o z => (e0.bs b o z).1).keeps made.toInCall.keep, codeAny_func ?_⟩
  obtain ⟨t, pt, qt⟩ := body cdv A ou s H vs Q E (room.deeper _) want
  have inv0 : Inv (cxOf CX0 P w K mg base N qual (defScope st) f cdv A ou s H E) [] (L2.start N vs) H s1 := inv_start Sc room.hd e0 hl rv made
  refine wpAny_mono ((PSs.nox pt).run [] s1 (L2.start N vs) H _ inv0 qt) ?_ fun e s2 z => z
  intro fl s2 z
  match fl, z with
  | .ret u, ⟨v, σ1, H1, J, r, q⟩ => exact ⟨v, H1, J.os, J.bare, J.base, J.hok, r, q⟩
  | .next, ⟨σ1, H1, J, q⟩ => exact ⟨V.non, H1, J.os, J.bare, J.base, J.hok, rfl, q⟩
  | .brk, ⟨_, _, _, q⟩ => exact False.elim q
  | .cont, ⟨_, _, _, q⟩ => exact False.elim q
end
section
variable {X : Cx} {k n : Nat} {f : Addr} {fd : FuncData} {ps ks : List Str} {sp : Sp} {x : Str} {p pos : Pos} {e : Expr} {es : List Expr} {t : TA} {ds : List Value} {dvs : List V}
theorem pe_callN (Fn : FnOk X.prog X.w X.K X.mg X.base CX0 k f fd ps sp) (room : Room k X.A) (hg : Gl X x) (hm : X.mg x = some (.ref f)) (hk : PySem.W.keepIn X.K (.ref f) = true) (hb : Binds X.K fd ps ds) (hd : Vals dvs ds)
    (ha : PA X (e :: es) t) (nd : (x == ("__debug__" : Str)) = false := by decide) (st : starEach (e :: es) X.env = (false, eval e X.env) :: starEach es X.env := by rfl) (pl : (backTo pos (starEach es X.env)).any (·.1) = false := by rfl) :
    PE X (.Call (.Name x p) (e :: es) [] pos) (tCall sp dvs E0 t) := by
  constructor
  intro pins s σ H Q I h
  apply wpAny_Call_Name_kw
  refine ld_glob I hg hm ?_ nd
  refine PySem.W.callWith_K (h₀ := X.base) I.ok.mod.kin hk (thn (ha.run pos pins s σ H _ I h) ?_) st pl
  rintro us s1 ⟨vs, H1, I1, rv, q⟩
  have rv2 := Vals.append rv hd
  have len2 : (us ++ ds).length = ps.length := rv2.length.symm.trans (Fn.len _ _ _ _ q)
  refine ⟨I1.kIn, wpAny_call (codeAny_mono (Fn.run X.A X.stack s1 H1 _ _ _ Q E0 room I1.env0 (hb s1 us I1.kIn len2) rv2 q) ?_)⟩
  intro r s' z
  match r, z with
  | .ok (.ret _), z => exact I1.after z
  | .ok .next, z => exact False.elim z
  | .ok .brk, z => exact False.elim z
  | .ok .cont, z => exact False.elim z
  | .error _, z => exact False.elim z
/-! generators' defs -/
end
section
variable {P : Program} {w : World} {K : PySem.W.Frag} {mg : Str → Option Value} {base : Heap}
end
section
variable {X : Cx} {k : Nat} {f : Addr} {fd : FuncData} {ps : List Str} {x : Str} {p p2 pos pos2 : Pos} {e : Expr} {es : List Expr} {t : TA} {ds : List Value} {dvs : List V} {mf : MF}
end
end Tr
/-! xs[i][k] += n; for x in reversed(xs). -/
namespace Tr
open PySem PySem.Spec PyProof.Rows L2
variable [TC]
section
variable {X : Cx}
theorem get_listV : PGet X (rIxL X.K) := by
  intro pins s σ H o i ov iv Q I ro ri h
  obtain ⟨p, xs, k, z, rfl, rfl, hq, he, q⟩ := h
  cases ro
  obtain ⟨t, rfl⟩ := ri
  obtain ⟨its, r, pl, hz⟩ := I.list hq
  obtain ⟨j, h1, h2, h3, h4, h5⟩ := atI_get he
  obtain ⟨w, ew, rw'⟩ := r.get h2
  have hl := r.length
  have hn := line63
  by_cases h0 : 0 ≤ k
  · have hj : k.toNat = j := by
      rw [seqIndex_of h0 h5] at h1
      exact Option.some.inj h1
    exact wpAny_getItem_list (Q := EP X pins σ Q) pl.isList h0 (by omega) (by rw [hj]; simpa using ew) ⟨z, H, I, rw', q⟩
  · have hj : (k + (its.toArray.size : Int)).toNat = j := by
      rw [seqIndex_neg (by omega) h4] at h1
      rw [List.size_toArray, ← hl]
      exact Option.some.inj h1
    exact wpAny_getItem_list_neg (Q := EP X pins σ Q) pl.isList (by omega) (by rw [List.size_toArray] <;> omega) (by omega) (by rw [hj]; simpa using ew) ⟨z, H, I, rw', q⟩
theorem getK {K : PySem.W.Frag} (h : X.K = K := by rfl) : PGet X (rIxL K) := by subst h; exact get_listV
end
/-- xs[i][k] += n -/
def mAug2 (j : Nat) (mi mk : ME) (n : Int) : MS := fun env => match env[j]? with
  | some (some (.ow2 rows)) => match mi env with
    | some (.val (.int x), _) => match ixN rows.length x with
      | some a => match mk env with
        | some (.val (.int y), _) => match rows[a]? with
          | some row => match ixN row.length y with
            | some m => match row[m]? with
              | some (.int z) => some (.nx, env.set j (some (.ow2 (rows.set a (row.set m (.int (z + n)))))))
              | _ => none
            | none => none
          | none => none
        | _ => none
      | none => none
    | _ => none
  | _ => none
theorem rs_aug2 {K : PySem.W.Frag} {pn : List Nat} {ti tk te : TE} {mi mk : ME} {j : Nat} {n : Int} (hi : RE true ti mi) (hk : RE true tk mk) (he : RE true te (mC (.int n))) :
    RS pn (tAugS (tOp (rIx K) (tVar j) ti) tk te (rIxL K) (ipI fun i j => i + j) rSetL) (mAug2 j mi mk n) := by
  intro F H σ env Sl R c env' e D q
  unfold mAug2 at e
  split at e
  case h_2 => cases e
  rename_i rows h0
  split at e
  case h_2 => cases e
  rename_i x e1 h1
  split at e
  case h_2 => cases e
  rename_i a h2
  split at e
  case h_2 => cases e
  rename_i y e2 h3
  split at e
  case h_2 => cases e
  rename_i row h4
  split at e
  case h_2 => cases e
  rename_i m h5
  split at e
  case h_2 => cases e
  rename_i z h6
  cases e
  obtain ⟨ad, rs, ha, hH, na, nd, sa, all⟩ := R.held2 h0
  refine ⟨_, ha, ?_⟩
  refine hi F H σ env Sl R _ _ h1 _ fun r' F3 H3 Sl3 s3 pu3 R3 r3 => ?_
  obtain ⟨ee, x3, rfl⟩ := pu3 rfl
  subst ee
  have hl : rows.length = rs.length := all.len
  obtain ⟨r0, hr0, sr0, vs, hv0, rr0⟩ := all.get h4
  have at0 : atI (rs.map V.ref) x = some (.ref r0) := by
    unfold atI
    rw [List.length_map, ← hl, h2]
    show (rs.map V.ref)[a]? = _
    rw [List.getElem?_map, hr0]
    rfl
  refine .inl ⟨ad, rs.map V.ref, x, .ref r0, rfl, pint r3, SqL.of (x3 _ _ hH), at0, ?_⟩
  refine hk F3 H3 σ e1 Sl3 R3 _ _ h3 _ fun r' F4 H4 Sl4 s4 pu4 R4 r4 => ?_
  obtain ⟨ee, x4, rfl⟩ := pu4 rfl
  subst ee
  obtain ⟨v2, hv2, rv2⟩ := rr0.get h6
  have at1 : atI vs y = some v2 := by
    unfold atI
    rw [← rr0.len, h5]
    exact hv2
  refine ⟨r0, vs, y, v2, rfl, pint r4, SqL.of (x4 _ _ (x3 _ _ hv0)), at1, ?_⟩
  refine he F4 H4 σ e2 Sl4 R4 _ _ rfl _ fun r' F5 H5 Sl5 s5 pu5 R5 r5 => ?_
  obtain ⟨_, x5, rfl⟩ := pu5 rfl
  refine ⟨z, n, rv2, pint r5, ?_⟩
  obtain ⟨a', rs', ha', hH', na', nd', sa', all'⟩ := R5.held2 h0
  rw [ha] at ha'
  cases ha'
  have hH5 := x5 _ _ (x4 _ _ (x3 _ _ hH))
  rw [hH5] at hH'
  have ers : rs = rs' := refs_inj (HO.lst.inj (Option.some.inj hH'))
  subst ers
  obtain ⟨r1', hr1, sr1, vs1, hv1, rr1⟩ := all'.get h4
  rw [hr0] at hr1
  cases hr1
  have w := rr1.set m (show Rp F5 (.int (z + n)) (.int (z + n)) from rfl)
  obtain ⟨s6, R6⟩ := R5.write2 h0 ha hH5 na nd sa' all' hr0 w
  refine ⟨r0, vs1, y, m, rfl, pint r4, hv1, by rw [← rr1.len]; exact h5, ?_⟩
  exact q _ _ σ _ (s3.trans (s4.trans (s5.trans s6))) R6 fun _ _ => rfl
theorem xo_aug2 {env : En} {j : Nat} {mi mk : ME} {xs : List (List Int)} {i k n : Int} (h : env[j]? = some (some (.ow2 (xs.map fun r => r.map encI)))) (hi : mi env = some (.val (.int i), env)) (hk : mk env = some (.val (.int k), env)) {E0 : List (List Int) → En} (hE : ∀ r, env.set j (some (.ow2 (r.map fun r => r.map encI))) = E0 r) :
    XV (mAug2 j mi mk n) env ((ix2G xs i k).bind fun z => set2G xs i k (z + n)) (fun _ => .nx) E0 := fun r hr => by
  rw [← hE]
  unfold ix2G set2G atI at hr
  cases ha : ixN xs.length i with
  | none => rw [ha] at hr; cases hr
  | some a =>
    rw [ha] at hr
    cases hb : xs[a]? with
    | none => simp [hb] at hr
    | some row =>
      cases hc : ixN row.length k with
      | none => simp [hb, hc] at hr
      | some m =>
        cases hd : row[m]? with
        | none => simp [hb, hc, hd] at hr
        | some z =>
          simp only [Option.bind_some, hb, hc, hd, Option.map_some, Option.some.injEq] at hr
          subst hr
          unfold mAug2
          simp only [h, hi, hk, List.length_map, ha, List.getElem?_map, hb, Option.map_some, hc, hd]
          have e1 : (row.map encI).set m (PyData.int (z + n)) = (row.set m (z + n)).map encI := by rw [List.map_set]; rfl
          show some (Ctl.nx, env.set j (some (.ow2 ((xs.map fun r => r.map encI).set a ((row.map encI).set m (PyData.int (z + n))))))) = _
          rw [e1, ← List.map_set (f := fun r : List Int => r.map encI)]
/-! reversed -/
/-! t in d, d a dict with tuples as keys that this name alone holds -/
/-! what some names hold is forgotten -/
def forgetE (is : List Nat) (env : En) : En := is.foldl (fun e i => e.set i none) env
def mForget (is : List Nat) (m : MS) : MS := fun env => m (forgetE is env)
theorem REnv.forgetL {F H : Hp} {σ : L2.St} {Sl : Nat → Addr → Prop} : ∀ {is : List Nat} {env : En}, REnv F H σ env Sl → REnv F H σ (forgetE is env) Sl
  | [], _, R => R
  | i :: is, env, R => by
    refine REnv.forgetL (is := is) (env := env.set i none) ⟨R.ex, by rw [List.length_set]; exact R.len, fun k o h => ?_, R.dj, R.tr, R.tb⟩
    rcases set_at h with ⟨_, z, _⟩ | ⟨_, z⟩
    · cases z
    · exact R.at_ k o z
theorem rs_forget {pn : List Nat} {is : List Nat} {t : TS} {m : MS} (h : RS pn t m) : RS pn t (mForget is m) := fun F H σ env Sl R c env' e D q => h F H σ (forgetE is env) Sl R.forgetL c env' e D q
theorem sv_forget {β : Type} {is : List Nat} {m n : MS} {env e2 : En} {t : Option β} {post : β → Ctl → En → Prop} (he : forgetE is env = e2) (h : SV (mSeq m n) e2 t post) : SV (mSeq (mForget is m) n) env t post := fun b hb => by
  obtain ⟨c, e, h1, h2⟩ := h b hb
  subst he
  exact ⟨c, e, h1, h2⟩
/-! one expression of a law by hand: `x if x is not None and f(r, x)[-1] == i else None` -/
end Tr
/-! Methods, instances, defs that a name holds, defs that call themselves: where nothing is known of what surrounds the call. -/
namespace Tr
open PySem PySem.Spec PyProof.Rows L2
variable [TC]
section
variable {X : Cx} {k : Nat} {f C : Addr} {fd : FuncData} {ps : List Str} {sp : Sp} {x m : Str} {p pos apos : Pos} {o e : Expr} {es : List Expr} {t ta : TA} {te : TE} {ds : List Value} {dvs : List V}
end
structure HeldN (P : Program) (w : World) (K : PySem.W.Frag) (mg : Str → Option Value) (base : Heap) (k : Nat) (f : Addr) (sp : Sp) : Prop where
  ex : ∃ (fd : FuncData) (ps : List Str), FnOk P w K mg base CX0 k f fd ps sp ∧ PySem.W.keepIn K (.ref f) = true ∧ Binds K fd ps []
end Tr
/-! x(lambda: e), where x is a def that calls what it got. -/
namespace Tr
open PySem PySem.Spec PyProof.Rows L2
variable [TC]
/-- tables may grow, nothing else changes -/
structure Grow (T : List (Addr × Str)) (H H1 : Hp) : Prop where
  fr : ∀ b o, H b = some o → (∀ q, (b, q) ∉ T) → H1 b = some o
  tk : ∀ b o, H b = some o → ∃ o', H1 b = some o'
theorem Grow.refl {T : List (Addr × Str)} {H : Hp} : Grow T H H := ⟨fun _ _ e _ => e, fun _ o e => ⟨o, e⟩⟩
section
variable {X : Cx} {pins : List (Addr × Obj)} {σ : L2.St} {H : Hp} {s : Shared}
/-- a lambda is made -/
theorem lam_new {T : List (Addr × Str)} {cd tb : Addr} {prm : Arguments} {bd : Expr} {sc : Scope} {ps : Pos} {E Q : Value → Shared → Prop} (I : Inv X pins σ H s) (B : LamX.TabB X.base X.mg cd tb) (hc : X.env.code = .ref cd) (hm : (tb, X.env.qual ++ "<lambda>") ∈ T)
    (hu : ∀ p ∈ T, p.1 = tb → p.2 = X.env.qual ++ "<lambda>") (hT : LamX.Tabs T H) (hd : defaultsOf prm X.env = ([], [])) (hv : ∀ y ∈ sc.names, y.2 = .free → ∃ a, X.env.cells.lookup y.1 = some a)
    (next : ∀ (f b : Addr) (m r : Value) (H1 : Hp) (s1 : Shared), Inv X pins σ H1 s1 → Grow T H H1 → LamX.Tabs T H1 → s1.heap.get? f = some (PySem.W.kla_obj "<lambda>" (X.env.qual ++ "<lambda>") prm bd sc (cloFrom X.env.cells sc.names []) m b r) →
      H1 f = none → f ∉ frs X.stack → H1 b = some (LamX.CodeO b (X.env.qual ++ "<lambda>")) → Q (.ref f) s1) : wpAny (model X.prog X.w) X.A (eval (.Lambda prm bd sc ps) X.env) Q E s := by
  obtain ⟨told, atP, trip, bear⟩ := hT _ hm
  have blt : s.heap.BuiltinsAt X.mg tb := B.bm.keeps I.bk
  have raw : s.heap.get? tb = some { cls := .none, data := .fields told } := I.hok tb _ atP
  have apart : ∀ f, s.heap.objs.size ≤ f → f ∉ frs X.stack := by
    intro f hf z
    cases List.mem_cons.mp (I.stkSub _ z) with
    | inl e =>
      have lt := I.lt
      rw [← e] at lt
      exact absurd lt (Nat.not_lt.mpr hf)
    | inr e => exact I.nofs hf e
  apply PySem.W.kla_eval hd
  cases look : codeAmong ps told.toList with
  | some v =>
    obtain ⟨b, rfl, co⟩ := bear ps v look
    apply PySem.W.kla_makeFunctionHit (mg := X.mg) (c := cd) (P := tb) (ps := told) (closure_ok hv) I.ok.glob (I.mod.glob.keeps I.bk) hc (B.code.keeps I.bk) raw trip look blt
    intro r h' tk keep big
    have J : Inv X pins σ H { s with heap := h'.push (PySem.W.kla_obj "<lambda>" (X.env.qual ++ "<lambda>") prm bd sc (cloFrom X.env.cells sc.names []) ((X.mg "__name__").getD .none) b r), toks := tk } :=
      I.kept (by intro a o e; exact Heap.get?_push_of_some _ (keep a o e))
    exact next _ b _ r H _ J Grow.refl hT (Heap.get?_push_size _ rfl) (I.hok.fresh big) (apart _ big) co
  | none =>
    apply PySem.W.kla_makeFunction (mg := X.mg) (c := cd) (P := tb) (ps := told) (closure_ok hv) I.ok.glob (I.mod.glob.keeps I.bk) hc (B.code.keeps I.bk) raw trip look B.gP blt
    intro b r h' tk keep big lt recd tab
    obtain ⟨b', oc, vs, t, eb, hoc, dat, nm⟩ := recd
    cases eb
    have nb : H b = none := I.hok.fresh big
    have far : s.heap.objs.size ≤ h'.objs.size := by omega
    have nbt : b ≠ tb := Ne.symm (ne_of_none atP nb)
    generalize hq : X.env.qual ++ ("<lambda>" : Str) = q at *
    have J := LamX.inv_table (t' := tk) (more := #[rawInt ps.line, rawInt ps.col, .ref b]) (h' := h'.push (PySem.W.kla_obj "<lambda>" q prm bd sc (cloFrom X.env.cells sc.names []) ((X.mg "__name__").getD .none) b r)) (q := q) I atP
      (by intro a o n e; exact Heap.get?_push_of_some _ (keep a o n e)) (Heap.get?_push_of_some _ tab) big ⟨oc, vs, t, Heap.get?_push_of_some _ hoc, dat, nm⟩
    have others : ∀ a, a ≠ b → a ≠ tb → (upd (upd H tb (.tbl (told ++ #[rawInt ps.line, rawInt ps.col, .ref b]))) b (LamX.CodeO b q)) a = H a := by
      intro a n1 n2
      rw [upd_ne n1, upd_ne n2]
    have atT : (upd (upd H tb (.tbl (told ++ #[rawInt ps.line, rawInt ps.col, .ref b]))) b (LamX.CodeO b q)) tb = some (.tbl (told ++ #[rawInt ps.line, rawInt ps.col, .ref b])) := by
      rw [upd_ne (Ne.symm nbt), upd_same]
    have code : ∀ a k, H a = some (LamX.CodeO a k) → (upd (upd H tb (.tbl (told ++ #[rawInt ps.line, rawInt ps.col, .ref b]))) b (LamX.CodeO b q)) a = some (LamX.CodeO a k) := by
      intro a k e
      rw [others a (ne_of_none e nb) (fun z => by rw [z, atP] at e; exact LamX.codeO_ne told (Option.some.inj e).symm)]
      exact e
    refine next h'.objs.size b _ r _ _ J ⟨fun a o e n => ?_, fun a o e => ?_⟩ ?_ (Heap.get?_push_size _ rfl) ?_ (apart _ far) upd_same
    · rw [others a (ne_of_none e nb) (fun z => n q (by rw [z]; exact hm))]
      exact e
    · by_cases z : a = tb
      · rw [z]; exact ⟨_, atT⟩
      · exact ⟨o, by rw [others a (ne_of_none e nb) z]; exact e⟩
    · intro p hp
      by_cases z : p.1 = tb
      · rw [hu p hp z, z]
        refine ⟨_, atT, ?_, ?_⟩
        · rw [Array.toList_append]
          exact PySem.TriplesOk_snoc _ _ _ _ trip
        · intro pos cv hcv
          rw [Array.toList_append] at hcv
          cases LamX.among_app _ trip hcv with
          | inl y =>
            obtain ⟨a, e1, e2⟩ := bear pos cv y
            exact ⟨a, e1, code a q e2⟩
          | inr y => exact ⟨b, y, upd_same⟩
      · obtain ⟨told', y1, y2, y3⟩ := hT p hp
        refine ⟨told', by rw [others _ (ne_of_none y1 nb) z]; exact y1, y2, fun pos cv hcv => ?_⟩
        obtain ⟨a, e1, e2⟩ := y3 pos cv hcv
        exact ⟨a, e1, code a _ e2⟩
    · have n1 : h'.objs.size ≠ b := by omega
      have n2 : h'.objs.size ≠ tb := by
        exact Nat.ne_of_gt (Nat.lt_of_lt_of_le (Heap.lt_size raw) far)
      rw [others _ n1 n2]
      exact I.hok.fresh far
end
def tLamS (T : List (Addr × Str)) (TT : (XK → Hp → VK → Prop) → Hp → VK → Prop) (t : XK → TE) : TE := fun σ H Q => LamX.Tabs T H ∧ ∀ H1, Grow T H H1 → LamX.Tabs T H1 → TT (fun E H2 Q2 => t E σ H2 Q2) H1 Q
section
variable {X : Cx}
/-- x(lambda: e) -/
theorem pe_lamS {T : List (Addr × Str)} {TT : (XK → Hp → VK → Prop) → Hp → VK → Prop} {x a : Str} {g cd tb : Addr} {k : Nat} {st : Stmt} {fd : FuncData} {Ng : List Str} {prm : Arguments} {bd : Expr} {sc : Scope} {t : XK → TE} {p lp pos : Pos}
    (hg : Gl X x) (hm : X.mg x = some (.ref g)) (Fg : Fun X.K x x st g fd) (hb : L2.Binds X.K fd [a] []) (Sg : FnScope Ng [a] (defScope st)) (h0 : Ng[0]? = some a) (va : Vis (defScope st) a)
    (hG : ∀ cdv, LamX.GivesTo X Ng x (defScope st) g cdv (defBody st) a (X.env.qual ++ "<lambda>") TT) (B : LamX.TabB X.base X.mg cd tb) (hc : X.env.code = .ref cd) (hT : (tb, X.env.qual ++ "<lambda>") ∈ T) (hu : ∀ p ∈ T, p.1 = tb → p.2 = X.env.qual ++ "<lambda>")
    (room : Room (k + 2) X.A) (L : LamX.LamS X.env.scope sc) (hd : defaultsOf prm X.env = ([], [])) (bind : ∀ (q : Str) (cl : List (Str × Addr)) (m c r : Value), bindArgs (PySem.W.kla_fn "<lambda>" q prm bd sc cl m c r) ⟨[], []⟩ = pure [])
    (hbd : ∀ (A : Around) (ou : List Env) (s : Shared) (H : Hp) (E : XK) (f b : Addr), Room k (A.deeper (LamX.lamEnv X sc s.heap.objs.size f b)) → PE (LamX.lamCx X A ou s H E sc f b) bd (t E))
    (n1 : (x == ("__debug__" : Str)) = false := by decide) (n2 : (a == ("__debug__" : Str)) = false := by decide) (n3 : (a == ("__classdict__" : Str)) = false := by decide) :
    PE X (.Call (.Name x p) [.Lambda prm bd sc lp] [] pos) (tLamS T TT t) := by
  constructor
  intro pins s σ H Q I want
  obtain ⟨tabs, want⟩ := want
  apply wpAny_Call_Name_kw
  refine ld_glob I hg hm ?_ n1
  refine PySem.W.callWith_K (h₀ := X.base) I.ok.mod.kin Fg.kp ?_ (by rfl) (by rfl)
  show wpAny _ _ (spliced [(false, eval (.Lambda prm bd sc lp) X.env)]) _ _ s
  apply Calls.spliced_cons
  refine lam_new I B hc hT hu tabs hd (L.has I.ok) ?_
  intro f b m r H1 s1 J gr tabs1 of_ nf sf co
  apply Calls.spliced_nil
  obtain ⟨oc, od, kV, doc, pm, an, cdv, ct, osl, rfl, lk, hcd⟩ := Fg.ex
  refine ⟨J.kIn, wpAny_call (codeAny_mono (LamX.run_ofS (CX := C8.CX0) (N := Ng) (ps := [a]) (us := [.ref f]) (vs := [.ref f]) (Q := Q) (E := C8.E0) lk hcd Sg room J.env0 (hb s1 [.ref f] J.kIn rfl) (.cons rfl .nil) rfl ?_) ?_)⟩
  · intro room2
    obtain ⟨t', pt, qt⟩ := hG cdv f b s1 H1 Q (fun E H2 Q2 => t E σ H2 Q2) (fun W pn xe E p1 p2 tk hW => LamX.pe_act (i := 0) J L of_ nf sf (bind _ _ _ _ _) tk hW room2 (fun A ou s2 H2 r2 => hbd A ou s2 H2 E f b r2) h0 va n2 n3) co (want H1 gr tabs1)
    exact ⟨t', pt.nox, qt⟩
  · intro rr s2 z
    match rr, z with
    | .ok (.ret _), z => exact J.after z
    | .ok .next, z => exact z.elim
    | .ok .brk, z => exact z.elim
    | .ok .cont, z => exact z.elim
    | .error _, z => exact (show False from z).elim
end
end Tr
/-! Defs that hold lambdas; defs that may raise, called where nothing is known of guards; try: ask() except (X1, X2) as e: kept = e. -/
namespace Tr
open PySem PySem.Spec PyProof.Rows L2
variable [TC]
section
variable {P : Program} {w : World} {K : PySem.W.Frag} {mg : Str → Option Value} {base : Heap}
/-- a def whose code object is told -/
theorem okGL {x qual : Str} {st : Stmt} {f : Addr} {fd : FuncData} {N ps : List Str} {k : Nat} {sp : Sp} (F : Fun K x qual st f fd) (S : FnScope N ps (defScope st)) (len : ∀ vs H Q E, sp vs H Q E → vs.length = ps.length)
    (body : ∀ (cdv : Value) (A : Around) (ou : List Env) (s : Shared) (H : Hp) (vs : List V) (Q : VK) (E : XK), fd.code = cdv → Room k (A.deeper (envOfC qual (defScope st) s.heap.objs.size f cdv)) → A.guards = some [] → sp vs H Q E →
      ∃ t, PSs (cxOf CX0 P w K mg base N qual (defScope st) f cdv A ou s H E).nox (defBody st) t ∧ t { nx := fun _ H' => Q .non H', rt := Q } (L2.start N vs) H) : FnG P w K mg base (k + 1) f fd ps sp := by
  obtain ⟨oc, od, kV, doc, pm, an, cdv, ct, osl, rfl, lk, hcd⟩ := F.ex
  refine ⟨len, ?_⟩
  intro A ou s H ar us vs Q E room gu e0 bi rv want
  have hl := len vs H Q E want
  have here : ∀ b o, base.get? b = some o → s.heap.get? b = some o := fun b o z => (e0.bs b o z).1
  have inK : K.In s.heap := e0.mod.kin.keeps here
  have kinds : ∀ y ∈ ps.zip us, (defScope st).names.lookup y.1 = some .local ∨ ((defScope st).names.lookup y.1 = some .cell ∧ ((cellsFrom (s.heap.objs.size + 1) (defScope st).names []).lookup y.1).isSome = true) := by
    rintro ⟨nm, u⟩ hy
    rcases S.par nm (List.of_mem_zip hy).1 with z | z
    · exact .inl z
    · exact .inr ⟨z, PySem.W.cellsFrom_some _ _ _ (.inl z)⟩
  apply codeAny_call_function room.depth (inK _ _ lk) rfl S.co S.gen rfl (PySem.W.codeRec_of inK hcd)
  refine bi _ _ _ _ (wpAny_newFunctionEnv_cells S.kind kinds ?_)
  intro env eenv s1 made
  subst eenv
  refine ⟨(e0.mod.nolimit.keeps here).keeps made.toInCall.keep, codeAny_func ?_⟩
  obtain ⟨t, pt, qt⟩ := body cdv A ou s H vs Q E rfl (room.deeper _) gu want
  have inv0 : Inv (cxOf CX0 P w K mg base N qual (defScope st) f cdv A ou s H E) [] (L2.start N vs) H s1 := inv_start S room.hd e0 hl rv made
  refine wpAny_mono (PSs.run (PSs.nox pt) [] s1 (L2.start N vs) H _ inv0 qt) ?_ fun e s2 z => z
  intro fl s2 z
  match fl, z with
  | .ret u, ⟨v, σ1, H1, J, r, q⟩ => exact ⟨v, H1, J.os, J.bare, J.base, J.hok, r, q⟩
  | .next, ⟨σ1, H1, J, q⟩ => exact ⟨V.non, H1, J.os, J.bare, J.base, J.hok, rfl, q⟩
  | .brk, ⟨_, _, _, q⟩ => exact False.elim q
  | .cont, ⟨_, _, _, q⟩ => exact False.elim q
theorem FnX.of {k : Nat} {f : Addr} {fd : FuncData} {ps : List Str} {sp : Sp} (F : FnOk P w K mg base (L2.CX P w) k f fd ps sp) : FnX P w K mg base k f fd ps sp :=
  ⟨F.len, fun A ou s H ar us vs Q E r _ => F.run A ou s H ar us vs Q E r⟩
theorem okXN {x qual : Str} {st : Stmt} {f : Addr} {fd : FuncData} {N ps : List Str} {k : Nat} {sp : Sp} (F : Fun K x qual st f fd) (S : FnScope N ps (defScope st)) (len : ∀ vs H Q E, sp vs H Q E → vs.length = ps.length)
    (body : ∀ (cdv : Value) (A : Around) (ou : List Env) (s : Shared) (H : Hp) (vs : List V) (Q : VK) (E : XK), Room k (A.deeper (envOfC qual (defScope st) s.heap.objs.size f cdv)) → sp vs H Q E →
      ∃ t, PSs (cxOf (L2.CX P w) P w K mg base N qual (defScope st) f cdv A ou s H E) (defBody st) t ∧ t { nx := fun _ H' => Q .non H', rt := Q } (L2.start N vs) H) : FnOk P w K mg base (L2.CX P w) (k + 1) f fd ps sp := by
  obtain ⟨oc, od, kV, doc, pm, an, cdv, ct, osl, rfl, lk, hcd⟩ := F.ex
  refine ⟨len, ?_⟩
  intro A ou s H ar us vs Q E room e0 bi rv want
  have hl := len vs H Q E want
  have here : ∀ b o, base.get? b = some o → s.heap.get? b = some o := fun b o z => (e0.bs b o z).1
  have inK : K.In s.heap := e0.mod.kin.keeps here
  have kinds : ∀ y ∈ ps.zip us, (defScope st).names.lookup y.1 = some .local ∨ ((defScope st).names.lookup y.1 = some .cell ∧ ((cellsFrom (s.heap.objs.size + 1) (defScope st).names []).lookup y.1).isSome = true) := by
    rintro ⟨nm, u⟩ hy
    rcases S.par nm (List.of_mem_zip hy).1 with z | z
    · exact .inl z
    · exact .inr ⟨z, PySem.W.cellsFrom_some _ _ _ (.inl z)⟩
  apply codeAny_call_function room.depth (inK _ _ lk) rfl S.co S.gen rfl (PySem.W.codeRec_of inK hcd)
  refine bi _ _ _ _ (wpAny_newFunctionEnv_cells S.kind kinds ?_)
  intro env eenv s1 made
  subst eenv
  refine ⟨(e0.mod.nolimit.keeps here).keeps made.toInCall.keep, codeAny_func ?_⟩
  obtain ⟨t, pt, qt⟩ := body cdv A ou s H vs Q E (room.deeper _) want
  have inv0 : Inv (cxOf (L2.CX P w) P w K mg base N qual (defScope st) f cdv A ou s H E) [] (L2.start N vs) H s1 := inv_start S room.hd e0 hl rv made
  refine wpAny_mono (PSs.run pt [] s1 (L2.start N vs) H _ inv0 qt) ?_ fun e s2 z => z
  intro fl s2 z
  match fl, z with
  | .ret u, ⟨v, σ1, H1, J, r, q⟩ => exact ⟨v, H1, J.os, J.bare, J.base, J.hok, r, q⟩
  | .next, ⟨σ1, H1, J, q⟩ => exact ⟨V.non, H1, J.os, J.bare, J.base, J.hok, rfl, q⟩
  | .brk, ⟨_, _, _, q⟩ => exact False.elim q
  | .cont, ⟨_, _, _, q⟩ => exact False.elim q
end
section
variable {X : Cx} {k : Nat} {f : Addr} {fd : FuncData} {ps : List Str} {sp : Sp} {x : Str} {p pos : Pos} {e : Expr} {es : List Expr} {t : TA} {E : L2.St → XK}
theorem pe_callXN (F : FnOk X.prog X.w X.K X.mg X.base (L2.CX X.prog X.w) k f fd ps sp) (room : Room k X.A) (hg : Gl X x) (hm : X.mg x = some (.ref f)) (hk : PySem.W.keepIn X.K (.ref f) = true) (hb : Binds X.K fd ps [])
    (hx : ∀ σ, PassesAt (L2.CX X.prog X.w) X σ (E σ))
    (ha : PA X (e :: es) t) (nd : (x == ("__debug__" : Str)) = false := by decide) (st : starEach (e :: es) X.env = (false, eval e X.env) :: starEach es X.env := by rfl) (pl : (backTo pos (starEach es X.env)).any (·.1) = false := by rfl) :
    PE X (.Call (.Name x p) (e :: es) [] pos) (tCallS sp E t) := by
  constructor
  intro pins s σ H Q I h
  apply wpAny_Call_Name_kw
  refine ld_glob I hg hm ?_ nd
  refine PySem.W.callWith_K (h₀ := X.base) I.ok.mod.kin hk (thn (ha.run pos pins s σ H _ I h) ?_) st pl
  rintro us s1 ⟨vs, H1, I1, rv, q⟩
  have hl : us.length = ps.length := by rw [← rv.length]; exact F.len _ _ _ _ q
  have b := hb s1 us I1.kIn (by rw [List.append_nil]; exact hl)
  rw [List.append_nil] at b
  refine ⟨I1.kIn, wpAny_call (codeAny_mono (F.run X.A X.stack s1 H1 _ us vs Q (E σ) room I1.env0 b rv q) ?_)⟩
  intro r s' z
  match r, z with
  | .ok (.ret _), z => exact I1.after z
  | .ok .next, z => exact z.elim
  | .ok .brk, z => exact z.elim
  | .ok .cont, z => exact z.elim
  | .error e, z => exact hx σ pins H1 s1 e s' I1 z
end
/-! ### x(lambda: f(..)), where x is: kept = None; try: ask() except (X1, X2) as e: kept = e; tail -/
/-- what is made of the lambda's reading -/
def TTry (K : PySem.W.Frag) (n i j : Nat) (c1 c2 : Value) (tail : TS) : (XK → Hp → VK → Prop) → Hp → VK → Prop := fun tl H Q => ∀ σ : L2.St, σ.length = n → σ[j]? = some (some .non) →
  tl (fun cls d H' => ∀ σ' : L2.St, σ'.length = n → wK2 K c1 c2 i (fun _ _ _ => tAsg (tVar i) (gName j)) { nx := fun σ2 H2 => tail { nx := fun _ H3 => Q .non H3, rt := Q } σ2 H2, rt := Q } cls d σ' H') H (fun _ H' => tail { nx := fun _ H3 => Q .non H3, rt := Q } σ H')
theorem takes_len {X : Cx} {W : WX} (t : Takes X W) : Takes X (fun cls d σ H => σ.length = X.N.length → W cls d σ H) := fun u s' ⟨a, B, sI, pins, σ, H, cls, d, e, I, nb, up, sky, na, os, ag, w⟩ =>
  t u s' ⟨a, B, sI, pins, σ, H, cls, d, e, I, nb, up, sky, na, os, ag, w I.len⟩
theorem gives_try {X : Cx} {Ng : List Str} {x a q x1 x2 nm : Str} {sg : Scope} {g : Addr} {cdg c1 c2 : Value} {i j : Nat} {rest : List Stmt} {b0 : Stmt} {first : Stmt} {tail : TS} {np1 np2 tp p1 p2 p3 pos pos' : Pos} {kk : Nat}
    (hN : Ng.Nodup) (h0 : ∀ f : Addr, (L2.start Ng [V.ref f])[0]? = some (some (V.ref f))) (hi : Ng[i]? = some nm) (hln : sg.names.lookup nm = some .local) (hj0 : j ≠ 0) (hjl : j < Ng.length) (hl0 : ∀ f : Addr, (L2.start Ng [V.ref f]).length = Ng.length)
    (hc1 : ∀ s H, Names (cxOf C8.CX0 X.prog X.w X.K X.mg X.base Ng x sg g cdg X.A X.stack s H C8.E0).nox x1 c1) (hc2 : ∀ s H, Names (cxOf C8.CX0 X.prog X.w X.K X.mg X.base Ng x sg g cdg X.A X.stack s H C8.E0).nox x2 c2)
    (hfirst : ∀ s H, PS (cxOf C8.CX0 X.prog X.w X.K X.mg X.base Ng x sg g cdg X.A X.stack s H C8.E0).nox first (tAsg (tC .non) (gName j)))
    (hset : ∀ s H (a : Addr) (oe : Obj) (pn : List (Addr × Obj)), PS ((cxOf C8.CX0 X.prog X.w X.K X.mg X.base Ng x sg g cdg X.A X.stack s H C8.E0).nox.suite a ((a, oe) :: pn)) b0 (tAsg (tVar i) (gName j)))
    (hrest : ∀ s H, PSs (cxOf C8.CX0 X.prog X.w X.K X.mg X.base Ng x sg g cdg X.A X.stack s H C8.E0).nox rest tail) :
    LamX.GivesTo X Ng x sg g cdg (first :: .Try [.Expr (.Call (.Name a p1) [] [] p2) p3] [.ExceptHandler (some (.Tuple [.Name x1 np1, .Name x2 np2] kk tp)) (some nm) [b0] pos'] [] [] pos :: rest) a q (TTry X.K Ng.length i j c1 c2 tail) := by
  intro f c' s H Q tl act hco want
  refine ⟨_, pss_cons (hfirst s H) (pss_cons (ps_try_keep2 (X := (cxOf C8.CX0 X.prog X.w X.K X.mg X.base Ng x sg g cdg X.A X.stack s H C8.E0).nox) (i := i) (c1 := c1) (c2 := c2)
    (tb := fun W D σ H => σ[0]? = some (some (.ref f)) ∧ H c' = some (LamX.CodeO c' q) ∧ tl (fun cls d H' => ∀ σ', σ'.length = Ng.length → W cls d σ' H') H fun _ H' => D.nx σ H') (ts := fun _ _ _ => tAsg (tVar i) (gName j))
    rfl rfl rfl hN hi (by rw [← hln]; rfl) (hc1 s H) (hc2 s H) (fun W pn xe tk _ => ?_) (fun a oe cls d pn _ _ => pss_one (hset s H a oe pn))) (hrest s H)), ?_⟩
  · have he := act _ pn xe (fun cls d H' => ∀ σ', σ'.length = Ng.length → W cls d σ' H') p1 p2 (takes_len tk) (fun cls d σ' H' z hl => z σ' hl)
    exact pss_one (ps_expr he)
  · have hs : ((L2.start Ng [V.ref f]).set j (some .non))[j]? = some (some .non) := List.getElem?_set_self (by rw [hl0]; exact hjl)
    refine ⟨by rw [List.getElem?_set_ne hj0]; exact h0 f, hco, ?_⟩
    exact want ((L2.start Ng [V.ref f]).set j (some .non)) (by rw [List.length_set]; exact hl0 f) hs
/-- x(lambda: f(..)), where x tells as a text what f(..) raised -/
def mLamK (told : Str) (mk : Nat → PyData → Option Str) (xf : XF) (ma : MA) : ME := bnd ma fun ps e => match prepX ps e with
  | some (os, e2) => match xf os with
    | some (.ok _) => some (.val (.str told), e2)
    | some (.ex n d) => match mk n d with
      | some s => some (.val (.str s), e2)
      | none => none
    | none => none
  | none => none
/-- the tables may grow -/
theorem REnv.tabs {F H H1 : Hp} {σ : L2.St} {env : En} {Sl : Nat → Addr → Prop} (R : REnv F H σ env Sl) (g : Grow TC.T H H1) (t : LamX.Tabs TC.T H1) : Step F H Sl F H1 Sl ∧ REnv F H1 σ env Sl := by
  have st : Step F H Sl F H1 Sl := ⟨Ex.refl F, fun b o hb _ nt => g.fr b o hb (fun q z => nt ⟨q, z⟩), g.tk, fun _ _ z => .inl z, fun _ _ z => .inl z, fun _ => t⟩
  exact ⟨st, R.frame2 st (fun i a u x w => g.fr a u w (fun q z => R.tb.nS a i ⟨q, z⟩ x)) (fun i a x => (R.tr i a x).1) (fun a u w => g.fr a u (R.ex _ _ w) (fun q z => by rw [R.tb.nF a ⟨q, z⟩] at w; cases w))⟩
theorem re_lamK {cl : Cl} {K : PySem.W.Frag} {n i j : Nat} {c1 c2 : Value} {tail : TS} {told : Str} {mk : Nat → PyData → Option Str} {pu : Bool} {ta : TA} {ma : MA} {xf : XF} (h : RA pu ta ma) (hij : i ≠ j) (hin : i < n) (hjn : j < n)
    (tl0 : ∀ (D : Ends) (σ : L2.St) (H : Hp), σ[j]? = some (some .non) → D.rt (.str told) H → tail D σ H)
    (tlE : ∀ m d s, mk m d = some s → PySem.W.exmAny K (.ref (cl m).1) [c1, c2] = some true ∧ ∀ (D : Ends) (σ : L2.St) (H : Hp) (a dx : Addr) (v : V), σ[j]? = some (some (.ref a)) → H a = some (ExK a (.ref (cl m).1) (some dx)) → H dx = some (.xd [((cl m).2, v)]) → Rp H d v → (∀ H1, Ex H H1 → D.rt (.str s) H1) → tail D σ H) :
    RE false (tLamS TC.T (TTry K n i j c1 c2 tail) fun E => tCallS (spX cl xf) (fun _ => E) ta) (mLamK told mk xf ma) := by
  intro F H σ env Sl R p env' e Q q
  obtain ⟨ps, e1, h1, h2⟩ := bnd_of e
  split at h2
  case h_2 => cases h2
  rename_i os e2 h3
  refine ⟨R.tb.tabs, fun H1 gr t1 σk lk nk => ?_⟩
  obtain ⟨st, R1⟩ := R.tabs gr t1
  split at h2
  · rename_i o h4
    cases h2
    refine callX_any h R1 h1 h3 h4 (fun o' eo v F' H' Sl' T s R' nn => ?_) fun n d z => nomatch z
    exact tl0 _ σk H' nk (q (.str told) F' H' Sl' (st.trans s) (fun z => nomatch z) R' rfl)
  · rename_i m d h4
    split at h2
    · rename_i s hs
      cases h2
      refine callX_any h R1 h1 h3 h4 (fun o z => nomatch z) fun n' d' z F' H' Sl' dx v st2 R' rv fd hd0 hd => ?_
      cases z
      obtain ⟨exm, tl⟩ := tlE m d s hs
      intro σ' hl
      refine ⟨exm, fun a na => ⟨.ref a, List.getElem?_set_self (by omega), fun na2 => ?_⟩⟩
      have hdxa : dx ≠ a := fun z => by rw [z, na] at hd; cases hd
      have exn : Ex H' (upd H' a (ExK a (.ref (cl m).1) (some dx))) := Ex.new na
      refine tl _ _ _ a dx v ?_ upd_same (by rw [upd_ne hdxa]; exact hd) (Rp.mono (R'.ex.trans exn) rv) fun H2 ex2 => ?_
      · rw [List.getElem?_set_ne hij, List.getElem?_set_self (by rw [List.length_set]; omega)]
      · have ex3 : Ex H' H2 := exn.trans ex2
        exact q (.str s) F' H2 Sl' (st.trans (st2.trans (Step.grow (Ex.refl F') ex3 fun b o z => .inl z))) (fun z => nomatch z) (R'.grow (Ex.refl F') ex3 (R'.ex.trans ex3) fun b o z => .inl z) rfl
    · cases h2
  · cases h2
end Tr
/-! the two tails: if kept is None (or not isinstance(kept, T)): return told; return repr([t1, kept.f1]) if isinstance(kept, X1) else repr([t2, kept.f2]) -/
namespace Tr
open PySem PySem.Spec PyProof.Rows L2
variable [TC]
def mkTwo (n1 n2 : Nat) (t1 t2 : Str) : Nat → PyData → Option Str := fun m d =>
  if m = n1 ∧ tellL t1 d then some (reprD (.list [.str t1, d])) else if m = n2 ∧ m ≠ n1 ∧ tellL t2 d then some (reprD (.list [.str t2, d])) else none
def tTailE (K : PySem.W.Frag) (j : Nat) (C1 : Addr) (f1 f2 t1 t2 : Str) : TS :=
  tRet (tIf (tB (tCB (rIsK K) (tCons (tVar j) (tCons (tC (.ref C1)) tNil)))) (tCB rRepr (tCons (tLst (tCons (tC (.str t1)) (tCons (tKf K f1 (tVar j)) tNil))) tNil)) (tCB rRepr (tCons (tLst (tCons (tC (.str t2)) (tCons (tKf K f2 (tVar j)) tNil))) tNil)))
section
variable {K : PySem.W.Frag} {cl : Cl} {C1 C2 : Addr} {f1 f2 told t1 t2 : Str} {j n1 n2 : Nat} {c1 c2 : Value}
theorem tailE {D : Ends} {σ : L2.St} {H : Hp} {a dx : Addr} {v : V} {d : PyData} {C : Addr} {f t : Str} (b : Bool) (kc : KcC K C f) (hb : PySem.W.kitOne K (.ref C) (.ref C1) = some b) (ht : b = true → f = f1 ∧ t = t1) (hf : b = false → f = f2 ∧ t = t2) (ok : tellL t d)
    (hj : σ[j]? = some (some (.ref a))) (ha : H a = some (ExK a (.ref C) (some dx))) (hd : H dx = some (.xd [(f, v)])) (rv : Rp H d v) (q : ∀ H1, Ex H H1 → D.rt (.str (reprD (.list [.str t, d]))) H1) : tTailE K j C1 f1 f2 t1 t2 D σ H := by
  have fin : tCB rRepr (tCons (tLst (tCons (tC (.str t)) (tCons (tKf K f (tVar j)) tNil))) tNil) σ H (fun v H => D.rt v H) := by
    refine ⟨.ref a, hj, a, C, dx, v, rfl, ha, hd, kc, ?_⟩
    refine ⟨(show 2 ≤ sizeLine by decide), fun p np => ?_⟩
    obtain ⟨y1, y2, y3, y4, y5⟩ := new_lst (F := H) (vs := [.str t, v]) (ds := [.str t, d]) (Ex.refl _) np (.cons rfl (.cons rv .nil))
    exact ⟨.ref p, .list [.str t, d], rfl, y5, rfl, ok.1, ok.2.1, ok.2.2, q _ y2⟩
  refine ⟨.ref a, hj, a, C, dx, f, v, .ref C1, .ref C1, b, rfl, ha, hd, kc, .own C1, hb, ?_⟩
  refine ⟨b, rfl, ?_⟩
  cases b with
  | true =>
    obtain ⟨rfl, rfl⟩ := ht rfl
    show (if (true : Bool) = true then (_ : Prop) else _)
    rw [if_pos rfl]
    exact fin
  | false =>
    obtain ⟨rfl, rfl⟩ := hf rfl
    show (if (false : Bool) = true then (_ : Prop) else _)
    rw [if_neg Bool.false_ne_true]
    exact fin
/-- if kept is None or not isinstance(kept, T): return told -/
theorem tail2_none {T : String} (D : Ends) (σ : L2.St) (H : Hp) (h : σ[j]? = some (some .non)) (q : D.rt (.str told) H) : tTwo K j C1 f1 f2 told t1 t2 T D σ H := by
  refine ⟨.non, h, rfl, true, rfl, ?_⟩
  show (if (true : Bool) = true then (_ : Prop) else _)
  rw [if_pos rfl]
  exact q
theorem tail2_ex {T : String} (hcl1 : cl n1 = (C1, f1)) (hcl2 : cl n2 = (C2, f2)) (kc1 : KcC K C1 f1) (kc2 : KcC K C2 f2) (ex1 : PySem.W.exmAny K (.ref C1) [c1, c2] = some true) (ex2 : PySem.W.exmAny K (.ref C2) [c1, c2] = some true)
    (hk1 : PySem.W.kitOne K (.ref C1) (.type T) = some true) (hk2 : PySem.W.kitOne K (.ref C2) (.type T) = some true) (hi1 : PySem.W.kitOne K (.ref C1) (.ref C1) = some true) (hi2 : PySem.W.kitOne K (.ref C2) (.ref C1) = some false) :
    ∀ m d s, mkTwo n1 n2 t1 t2 m d = some s → PySem.W.exmAny K (.ref (cl m).1) [c1, c2] = some true ∧ ∀ (D : Ends) (σ : L2.St) (H : Hp) (a dx : Addr) (v : V), σ[j]? = some (some (.ref a)) → H a = some (ExK a (.ref (cl m).1) (some dx)) → H dx = some (.xd [((cl m).2, v)]) → Rp H d v → (∀ H1, Ex H H1 → D.rt (.str s) H1) → tTwo K j C1 f1 f2 told t1 t2 T D σ H := by
  have go : ∀ {C : Addr} {f : Str} {D : Ends} {σ : L2.St} {H : Hp} {a dx : Addr} {v : V}, PySem.W.kitOne K (.ref C) (.type T) = some true → KcC K C f → σ[j]? = some (some (.ref a)) → H a = some (ExK a (.ref C) (some dx)) → H dx = some (.xd [(f, v)]) → tTailE K j C1 f1 f2 t1 t2 D σ H → tTwo K j C1 f1 f2 told t1 t2 T D σ H := by
    intro C f D σ H a dx v hk kc hj ha hd z
    refine ⟨.ref a, hj, rfl, false, rfl, ?_⟩
    refine ⟨.ref a, hj, a, C, dx, f, v, .ty T, .type T, true, rfl, ha, hd, kc, .ty T, hk, ?_⟩
    refine ⟨true, rfl, ?_⟩
    show (if (!true) = true then (_ : Prop) else _)
    rw [if_neg (show ¬((!true) = true) from Bool.false_ne_true)]
    exact z
  intro m d s hm
  unfold mkTwo at hm
  split at hm
  · rename_i hh
    obtain ⟨rfl, ok⟩ := hh
    cases hm
    rw [hcl1]
    exact ⟨ex1, fun D σ H a dx v hj ha hd rv q => go hk1 kc1 hj ha hd (tailE true kc1 hi1 (fun _ => ⟨rfl, rfl⟩) (fun z => nomatch z) ok hj ha hd rv q)⟩
  · split at hm
    · rename_i hh
      obtain ⟨rfl, _, ok⟩ := hh
      cases hm
      rw [hcl2]
      exact ⟨ex2, fun D σ H a dx v hj ha hd rv q => go hk2 kc2 hj ha hd (tailE false kc2 hi2 (fun z => nomatch z) (fun _ => ⟨rfl, rfl⟩) ok hj ha hd rv q)⟩
    · cases hm
end
end Tr
namespace Tr
open PySem PySem.Spec PyProof.Rows L2
variable [TC]
end Tr
/-! The law's call where lambdas are made: tables of code objects are tracked. -/
namespace Tr
open PySem PySem.Spec PyProof.Rows L2
section
variable {P : Program} {w : World} {K : PySem.W.Frag} {mg mb : Str → Option Value} {k : Nat} {fa a : Addr} {fd : FuncData} {x : Str} {sp : Sp} {s1 : Shared} {vs : List Value} {ns : List Int} {cs : List (Addr × Addr)}
/-- what is tracked at the start: the script, if the top did not write it, and the tables, all of them empty -/
structure Begun (cs : List (Addr × Addr)) (a : Addr) (H : Hp) : Prop where
  tab : ∀ p ∈ cs, H p.2 = some (.tbl #[])
  only : ∀ b, H b = none ∨ b ∈ cs.map (·.2) ∨ ∃ o xs, H b = some (.frz o (.lst xs))
  few : ∀ b, H b ≠ none → b = a ∨ b ∈ cs.map (·.2)
theorem from_heapT {H : Hp} (KX : K.In s1.heap) (hns : s1.heap.Ns mainGlobals mg) (hb : s1.heap.Ns builtinsNs mb) (hbb : ∀ x : Str, x ≠ "__name__" → mb x = bootBuiltins x) (hlim : s1.heap.NoLimit) (hg : s1.gens = #[])
    (tabs : ∀ p ∈ cs, s1.heap.get? p.2 = some (PySem.W.tabObj #[])) (free : ∀ p ∈ cs, K.lookup p.2 = none) (heads : ∀ p ∈ cs, PySem.W.CodeHd s1.heap p.1 p.2)
    (main : ∃ (bm : Addr) (ob : Obj), mg "__builtins__" = some (.ref bm) ∧ bm ≠ builtinsNs ∧ s1.heap.get? bm = some ob ∧ ob.cls = .type "module" ∧ ob.dict = some builtinsNs ∧ ob.data = .plain)
    (ha : s1.heap.get? a = some { cls := .type "list", data := .seq vs.toArray }) (room : Room k callerA) (F : ∀ base : Heap, K.In base → base.Ns mainGlobals mg → (∀ p ∈ cs, LamX.TabB base mg p.1 p.2) → FnG P w K mg base k fa fd [x] sp)
    (bi : ∀ (s : Shared) (u : Value), BindsTo s fd ⟨[u], []⟩ [(x, u)]) (B : Begun cs a H) (want : sp [.ref a] H (fun v _ => v = .bl true) fun _ _ _ => False) (hok : HOk P w H s1.heap) (hK : H a ≠ none → K.lookup a = none) :
    codeAny (model P w) callerA (.call (.ref fa) ⟨[.ref a], []⟩) (fun r s' => r = .ok (.ret (.bool true)) ∧ OldK s1.heap s'.heap ∧ s'.os = s1.os ∧ AllBare s'.gens) s1 := by
  have tabAt : ∀ {b : Addr}, b ∈ cs.map (·.2) → s1.heap.get? b = some (PySem.W.tabObj #[]) := by
    intro b hb
    obtain ⟨p, hp, rfl⟩ := List.mem_map.mp hb
    exact tabs p hp
  have low : ∀ {b : Addr} {o : Obj}, s1.heap.get? b = some o → H b = none → (hidT s1.heap H).get? b = some o := fun e n => hidT_get e n
  -- an object of another kind is not tracked
  have other : ∀ {b : Addr} {o : Obj}, s1.heap.get? b = some o → (∀ xs n, o.data = .seq xs n → False) → (o.data = .fields #[] → False) → H b = none := by
    intro b o e n1 n2
    cases q : H b with
    | none => rfl
    | some u =>
      rcases B.few b (by simp [q]) with y | y
      · rw [y, ha] at e
        cases e
        exact (n1 _ _ rfl).elim
      · rw [tabAt y] at e
        cases e
        exact (n2 rfl).elim
  have nsLow : ∀ {b : Addr} {m : Str → Option Value}, s1.heap.Ns b m → (hidT s1.heap H).Ns b m := by
    rintro b m ⟨o, es, ep, e, d, r⟩
    exact ⟨o, es, ep, low e (other e (fun xs n y => by rw [d] at y; cases y) fun y => by rw [d] at y; cases y), d, r⟩
  have KL : K.In (hidT s1.heap H) := by
    intro b o e
    refine low (KX b o e) ?_
    cases q : H b with
    | none => rfl
    | some u =>
      rcases B.few b (by simp [q]) with y | y
      · subst y
        rw [hK (by simp [q])] at e
        cases e
      · obtain ⟨p, hp, rfl⟩ := List.mem_map.mp y
        rw [free p hp] at e
        cases e
  have md : Mod K mg (hidT s1.heap H) := by
    obtain ⟨mc, h1, h2⟩ := hlim
    exact ⟨KL, nsLow hns, ⟨mb, nsLow hb, hbb⟩, ⟨mc, nsLow h1, h2⟩⟩
  have notMain : ∀ p ∈ cs, mainGlobals ≠ p.2 := by
    intro p hp z
    obtain ⟨o, es, ep, e, d, _⟩ := hns
    rw [z, tabs p hp] at e
    cases e
    cases d
  have TB : ∀ p ∈ cs, LamX.TabB (hidT s1.heap H) mg p.1 p.2 := by
    intro p hp
    obtain ⟨bm, ob, b1, b2, b3, b4, b5, b6⟩ := main
    refine ⟨?_, ⟨bm, ob, b1, b2, ?_, ?_, low b3 (other b3 (fun xs n y => by rw [b6] at y; cases y) fun y => by rw [b6] at y; cases y), b4, b5, b6⟩, notMain p hp⟩
    · obtain ⟨o, us, fl, tf, fg, tg, iF, tx, tt, e1, r1, r2, r3, rest⟩ := heads p hp
      refine ⟨o, us, fl, tf, fg, tg, iF, tx, tt, low e1 (other e1 (fun xs n y => by rw [r2] at y; cases y) fun y => ?_), r1, r2, r3, rest⟩
      rw [r2] at y
      cases y
      simp at r3
    · intro z
      obtain ⟨o, es, ep, e, d, _⟩ := hns
      rw [z, e] at b3
      cases b3
      rw [d] at b6
      cases b6
    · intro z
      rw [z, tabs p hp] at b3
      cases b3
      cases b6
  have en : Env0 P w K mg (hidT s1.heap H) callerA [] s1 H := by
    refine ⟨rfl, md, fun b o e => of_hidT e, Nat.le_of_eq (hidT_size _ _), trivial, ?_, hok, .of_eq hg⟩
    intro b hb
    exact absurd (show b ∈ ([] : List Addr) from hb) (by simp)
  refine codeAny_mono ((F _ KL (nsLow hns) TB).go callerA [] s1 H ⟨[.ref a], []⟩ [.ref a] [.ref a] _ _ room rfl en (bi s1 (.ref a)) (.cons rfl .nil) want) ?_
  intro r s' z
  match r, z with
  | .error _, z => exact False.elim z
  | .ok .next, z => exact False.elim z
  | .ok .brk, z => exact False.elim z
  | .ok .cont, z => exact False.elim z
  | .ok (.ret u), z =>
    obtain ⟨v, H2, os, bare, un, hok2, rel, q⟩ := z
    cases (show v = .bl true from q)
    cases (show u = Value.bool true from rel)
    have kept : ∀ b o, b ∉ cs.map (·.2) → s1.heap.get? b = some o → s'.heap.get? b = some o := by
      intro b o nb e
      rcases B.only b with y | y | ⟨ob, xs, y⟩
      · exact un.keep b o e y (fun z => absurd (show b ∈ ([] : List Addr) from z) (by simp)) (by simp)
      · exact absurd y nb
      · have y1 := (hok b _ y).1
        have y2 := (hok2 b _ (un.frzs b ob _ y)).1
        rw [e] at y1
        cases y1
        exact y2
    refine ⟨rfl, ⟨fun b o e => ?_, fun b o e => ?_⟩, os, bare⟩
    all_goals
      by_cases hb : b ∈ cs.map (·.2)
      · obtain ⟨p, hp, eb⟩ := List.mem_map.mp hb
        obtain ⟨more, grown⟩ := un.tbls p.2 #[] (B.tab p hp)
        have new := hok2 p.2 _ grown
        subst eb
        rw [tabs p hp] at e
        cases e
        first
          | exact .inr (.inl ⟨((heads p hp).tab (tabs p hp)).isCodeTable, rfl, #[], _, rfl, new⟩)
          | exact ⟨_, new, rfl⟩
          | exact ⟨_, new⟩
      · first
          | exact .inl (kept b o hb e)
          | exact ⟨o, kept b o hb e, rfl⟩
          | exact ⟨o, kept b o hb e⟩
theorem law_goT (KX : K.In s1.heap) (hns : s1.heap.Ns mainGlobals mg) (hb : s1.heap.Ns builtinsNs mb) (hbb : ∀ x : Str, x ≠ "__name__" → mb x = bootBuiltins x) (hlim : s1.heap.NoLimit) (hg : s1.gens = #[])
    (tabs : ∀ p ∈ cs, s1.heap.get? p.2 = some (PySem.W.tabObj #[])) (free : ∀ p ∈ cs, K.lookup p.2 = none) (heads : ∀ p ∈ cs, PySem.W.CodeHd s1.heap p.1 p.2)
    (main : ∃ (bm : Addr) (ob : Obj), mg "__builtins__" = some (.ref bm) ∧ bm ≠ builtinsNs ∧ s1.heap.get? bm = some ob ∧ ob.cls = .type "module" ∧ ob.dict = some builtinsNs ∧ ob.data = .plain)
    (ha : s1.heap.get? a = some { cls := .type "list", data := .seq vs.toArray }) (hi : IntsAre vs ns) (hl : ns.length ≤ sizeLine) (room : Room k callerA) (F : ∀ base : Heap, K.In base → base.Ns mainGlobals mg → (∀ p ∈ cs, LamX.TabB base mg p.1 p.2) → FnG P w K mg base k fa fd [x] sp)
    (bi : ∀ (s : Shared) (u : Value), BindsTo s fd ⟨[u], []⟩ [(x, u)]) (want : ∀ H : Hp, Begun cs a H → a ∉ cs.map (·.2) → SqL K H a (ns.map V.int) → sp [.ref a] H (fun v _ => v = .bl true) fun _ _ _ => False) :
    codeAny (model P w) callerA (.call (.ref fa) ⟨[.ref a], []⟩) (fun r s' => r = .ok (.ret (.bool true)) ∧ OldK s1.heap s'.heap ∧ s'.os = s1.os ∧ AllBare s'.gens) s1 := by
  have rv : Vals (ns.map V.int) vs := vals_ints hi
  have lv : vs.length = ns.length := hi.length
  have tabAt : ∀ {b : Addr}, b ∈ cs.map (·.2) → s1.heap.get? b = some (PySem.W.tabObj #[]) := by
    intro b hb
    obtain ⟨p, hp, rfl⟩ := List.mem_map.mp hb
    exact tabs p hp
  have aT : a ∉ cs.map (·.2) := by
    intro z
    have q := tabAt z
    rw [ha] at q
    have q2 : Data.seq vs.toArray _ = Data.fields #[] := congrArg Obj.data (Option.some.inj q)
    cases q2
  have inT : ∀ {p : Addr × Addr}, p ∈ cs → p.2 ∈ cs.map (·.2) := fun hp => List.mem_map.mpr ⟨_, hp, rfl⟩
  have go : ∀ S : Option HO, (S = none ∨ S = some (.frz { cls := .type "list", data := .seq vs.toArray } (.lst (ns.map V.int)))) → SqL K (fun b => if b = a then S else if b ∈ cs.map (·.2) then some (.tbl #[]) else none) a (ns.map V.int) → (S ≠ none → K.lookup a = none) →
      codeAny (model P w) callerA (.call (.ref fa) ⟨[.ref a], []⟩) (fun r s' => r = .ok (.ret (.bool true)) ∧ OldK s1.heap s'.heap ∧ s'.os = s1.os ∧ AllBare s'.gens) s1 := by
    intro S hS sq hK
    have B : Begun cs a (fun b => if b = a then S else if b ∈ cs.map (·.2) then some (.tbl #[]) else none) := by
      refine ⟨fun p hp => ?_, fun b => ?_, fun b z => ?_⟩
      · show (if p.2 = a then S else if p.2 ∈ cs.map (·.2) then some (HO.tbl #[]) else none) = _
        rw [if_neg (fun z => aT (by rw [← z]; exact inT hp)), if_pos (inT hp)]
      · by_cases e : b = a
        · rcases hS with y | y
          · exact .inl ((if_pos e).trans y)
          · exact .inr (.inr ⟨_, _, (if_pos e).trans y⟩)
        · by_cases e2 : b ∈ cs.map (·.2)
          · exact .inr (.inl e2)
          · exact .inl ((if_neg e).trans (if_neg e2))
      · by_cases e : b = a
        · exact .inl e
        · by_cases e2 : b ∈ cs.map (·.2)
          · exact .inr e2
          · exact absurd ((if_neg e).trans (if_neg e2)) z
    refine from_heapT KX hns hb hbb hlim hg tabs free heads main ha room F bi B (want _ B aT sq) (fun b u z => ?_) fun z => hK fun y => z ((if_pos rfl).trans y)
    by_cases e : b = a
    · have z1 := (if_pos e).symm.trans z
      rcases hS with y | y
      · rw [y] at z1; cases z1
      · rw [y] at z1
        cases z1
        rw [e]
        exact ⟨ha, by rw [List.length_map]; exact hl, vs, _, rv, ha⟩
    · have z1 := (if_neg e).symm.trans z
      by_cases e2 : b ∈ cs.map (·.2)
      · have z2 := (if_pos e2).symm.trans z1
        cases z2
        exact tabAt e2
      · have z2 := (if_neg e2).symm.trans z1
        cases z2
  cases hk : K.lookup a with
  | none => exact go _ (.inr rfl) (.inl (.inr ⟨_, if_pos rfl⟩)) fun _ => hk
  | some o =>
    have ho := KX a o hk
    rw [ha] at ho
    cases ho
    exact go none (.inl rfl) (.inr ⟨_, vs.toArray, _, hk, rfl, rfl, rfl, by rw [List.size_toArray, lv]; exact hl, by simpa using rv⟩) fun z => absurd rfl z
end
/-- the law's head, where lambdas are made -/
theorem walkL {Z : Type} {l : PySem.W.OpenLaw} {n k : Nat} {loose : List Str} {q : Program} {XP : (Str → Option Value) → Heap → Prop} {YP : World → Heap → Prop} {d : DefRec} {K : Params → PySem.W.Frag} {x : Str} {mf : PySem.W.Frag → Z → MF}
    (hn : l.most = some n) (hn2 : n ≤ sizeLine) (hdf : d.params.defaults = []) (room : Room k callerA) (hY : ∀ (w : World) (h : Heap), YP w h → (K w.params).In h)
    (F : ∀ (w : World) (mg : Str → Option Value) (fa : Addr) (h : Heap), (K w.params).In h → h.Ns mainGlobals mg → mg d.name = some (.ref fa) →
      (∀ (y : Str) (c t : Addr), ((recsOf q).find? fun e => e.name == y).isSome = true → PySem.W.tabIn (K w.params) y = some (c, t) → PySem.W.CodeHd h c t ∧ h.get? t = some (PySem.W.tabObj #[])) →
      ∃ (z : Z) (fd : FuncData) (cs : List (Addr × Addr)) (tc : TC), (∀ p ∈ cs, h.get? p.2 = some (PySem.W.tabObj #[])) ∧ (∀ p ∈ cs, (K w.params).lookup p.2 = none) ∧ (∀ p ∈ cs, PySem.W.CodeHd h p.1 p.2) ∧ (∀ p ∈ tc.T, p.1 ∈ cs.map (·.2)) ∧
        (∀ (s : Shared) (u : Value), BindsTo s fd ⟨[u], []⟩ [(x, u)]) ∧ ∀ base : Heap, (K w.params).In base → base.Ns mainGlobals mg → (∀ p ∈ cs, LamX.TabB base mg p.1 p.2) → FnG l.prog w (K w.params) mg base k fa fd [x] (@spOf tc [] (mf (K w.params) z)))
    (true_ : ∀ (K : PySem.W.Frag) (z : Z) (ns : List Int), ns.length ≤ n → ∃ os, mf K z [.sc K ns] = some (.fz (.bool true), os)) : PySem.W.WalkO q loose XP YP l.row.toRowW d [] (fun f vs => PySem.call f vs) := by
  refine Att.attach_call hn hdf ?_
  intro w s₀ s1 mg mb fa o pm cd doc a vs ns G Y ho hd hcd hmg hobj hints hlen hg
  have KX := hY w _ Y
  obtain ⟨z, fd, cs, tc, hT, nT, hC, hTC, bi, hF⟩ := F w mg fa _ KX G.T.g hmg fun y c t h1 h2 => PySem.W.tab_of G.T KX (Option.eq_some_of_isSome h1) h2
  refine law_goT KX G.T.g G.T.b G.T.builtins G.T.nolimit hg hT nT hC G.T.bmain hobj hints (Nat.le_trans hlen hn2) room hF bi ?_
  intro H B aT hS
  obtain ⟨os, e⟩ := true_ (K w.params) z ns hlen
  have atT : ∀ b, isTab b → b ∈ cs.map (·.2) := fun b ⟨q, hq⟩ => hTC _ hq
  have empty : ∀ b, b ∈ cs.map (·.2) → H b = some (.tbl #[]) := fun b hb => by
    obtain ⟨p, hp, rfl⟩ := List.mem_map.mp hb
    exact B.tab p hp
  refine ⟨fun b => if b ∈ cs.map (·.2) then none else H b, [.sc (K w.params) ns], fun _ _ => False, _, os, ⟨fun b u w => ?_, rfl, fun i u z => ?_, fun _ _ _ z => z.elim, fun _ _ z => z.elim, ⟨fun p hp => LamX.TabS.nil (empty _ (hTC p hp)), fun b hb => if_pos (atT b hb), fun _ _ _ z => z⟩⟩, fun _ _ z => z.elim, fun j u z _ => ?_, e, ?_⟩
  · by_cases hb : b ∈ cs.map (·.2)
    · have w2 := (if_pos hb).symm.trans w
      cases w2
    · exact (if_neg hb).symm.trans w
  · cases i with
    | zero =>
      cases z
      refine ⟨_, rfl, a, rfl, ?_⟩
      rcases hS with (y | ⟨o, y⟩) | y
      · exact .inl (.inl ((if_neg aT).trans y))
      · exact .inl (.inr ⟨o, (if_neg aT).trans y⟩)
      · exact .inr y
    | succ i => simp at z
  · cases j with
    | zero => cases z; rfl
    | succ j => simp at z
  · intro v F' H' Sl' T s R' hs' new
    exact new.own
end Tr
namespace Tr
open PySem PySem.Spec PyProof.Rows L2
variable [TC]
/-- code objects and their tables -/
class TabC where
  C : List (Addr × Addr)
variable [TabC]
structure BaseT (mg : Str → Option Value) (base : Heap) : Prop where
  ok : ∀ p ∈ TabC.C, LamX.TabB base mg p.1 p.2
/-- a def that makes lambdas: where its table stands -/
def LamAt (fd : FuncData) (q : Str) : Prop := ∃ cd tb, fd.code = .ref cd ∧ (cd, tb) ∈ TabC.C ∧ (tb, q) ∈ TC.T ∧ ∀ p ∈ TC.T, p.1 = tb → p.2 = q
theorem LamAt.ex {fd : FuncData} {q : Str} (l : LamAt fd q) : ∃ p : Addr × Addr, fd.code = .ref p.1 ∧ p ∈ TabC.C ∧ (p.2, q) ∈ TC.T ∧ ∀ r ∈ TC.T, r.1 = p.2 → r.2 = q := by
  obtain ⟨cd, tb, h1, h2, h3, h4⟩ := l
  exact ⟨(cd, tb), h1, h2, h3, h4⟩
theorem tabIn_of {K : PySem.W.Frag} {x : Str} {f c t : Addr} {oc : Value} {od o2 : Option Addr} {fd : FuncData} {sl sl2 : Array (Option Value)} {o1 : Value} {vs : Array Value} (h1 : PySem.W.nsIn K mainGlobals x = some (some (.ref f))) (h2 : K.lookup f = some ⟨oc, od, .func fd, sl⟩) (hc : fd.code = .ref c)
    (h3 : K.lookup c = some ⟨o1, o2, .fields vs, sl2⟩) (h4 : vs[11]? = some (.ref t)) : PySem.W.tabIn K x = some (c, t) := by
  unfold PySem.W.tabIn
  rw [h1]
  dsimp only
  rw [h2]
  dsimp only
  rw [hc]
  dsimp only
  rw [h3]
  dsimp only
  rw [h4]
end Tr
namespace Tr
open PySem PySem.Spec PyProof.Rows L2
variable [TC]
/-! ### the typed words, as what they mean -/
theorem lt_line {n : Nat} (h : n ≤ 1000000) : n < sizeLine := by show n < 16777216; omega
theorem le_line {n : Nat} (h : n ≤ 1000000) : n ≤ sizeLine := Nat.le_of_lt (lt_line h)
theorem ixN_nat {n k : Nat} (h : k < n) : ixN n (k : Int) = some k := by
  unfold ixN
  rw [if_pos (by omega), if_pos (by omega), Int.toNat_natCast]
theorem atI_nat {α : Type} {xs : List α} {k : Nat} (h : k < xs.length) : atI xs (k : Int) = some xs[k] := by
  unfold atI
  rw [ixN_nat h, Option.bind_some, List.getElem?_eq_getElem h]
theorem appG_of {α : Type} {xs : List α} {x : α} (h : xs.length < sizeLine) : appG xs x = some (xs ++ [x]) := if_pos h
theorem catG_of {α : Type} {xs ys : List α} (h : xs.length + ys.length ≤ sizeLine) : catG xs ys = some (xs ++ ys) := if_pos h
theorem sIx_n {n d k : Nat} : HT.sIx n d (some (k : Int)) = min k n := by
  show (if (k : Int) < 0 then ((k : Int) + (n : Int)).toNat else min (k : Int).toNat n) = min k n
  rw [if_neg (by omega), Int.toNat_natCast]
theorem cut_to {α : Type} {xs : List α} {k : Nat} : cutG xs none (some (k : Int)) = xs.take k := by
  unfold cutG
  rw [sIx_n]
  show (xs.drop 0).take (min k xs.length - 0) = _
  rw [List.drop_zero, Nat.sub_zero]
  by_cases h : k ≤ xs.length
  · rw [Nat.min_eq_left h]
  · rw [Nat.min_eq_right (by omega), List.take_of_length_le (Nat.le_refl _), List.take_of_length_le (by omega)]
theorem cut_from {α : Type} {xs : List α} {k : Nat} : cutG xs (some (k : Int)) none = xs.drop k := by
  unfold cutG
  rw [sIx_n]
  show (xs.drop (min k xs.length)).take (xs.length - min k xs.length) = _
  by_cases h : k ≤ xs.length
  · rw [Nat.min_eq_left h, List.take_of_length_le (by rw [List.length_drop]; exact Nat.le_refl _)]
  · rw [Nat.min_eq_right (by omega), List.drop_length, List.drop_of_length_le (by omega), List.take_nil]
theorem rng1_of {n : Nat} (h : n < 2 ^ 62) : rng1 (n : Int) = some (rangeL 0 n) := by
  unfold rng1
  rw [if_pos ⟨by omega, by omega⟩, Int.toNat_natCast]
theorem rngV_of {n : Nat} (h : n ≤ 2 ^ 24) : rngV 0 (n : Int) = some (rangeL 0 n) := by
  unfold rngV
  rw [if_pos ⟨⟨by omega, by omega, by omega, by omega⟩, by omega⟩, Int.sub_zero, Int.toNat_natCast]
theorem rangeL_len {lo : Int} {n : Nat} : (rangeL lo n).length = n := by unfold rangeL; simp
theorem rangeL_mem {lo : Int} {n : Nat} {x : Int} : x ∈ rangeL lo n ↔ lo ≤ x ∧ x < lo + n := by
  unfold rangeL
  rw [List.mem_map]
  constructor
  · rintro ⟨k, hk, rfl⟩
    have := List.mem_range.mp hk
    omega
  · rintro ⟨h1, h2⟩
    exact ⟨(x - lo).toNat, List.mem_range.mpr (by omega), by omega⟩
/-! loops -/
theorem forN_cons {α σ : Type} {body : α → σ → Option σ} {a : α} {as : List α} {s s' : σ} (h : body a s = some s') : forN body (a :: as) s = forN body as s' := by
  show (body a s).bind _ = _
  rw [h, Option.bind_some]
/-- an invariant that counts the turns -/
theorem forN_inv {α σ : Type} {body : α → σ → Option σ} (I : Nat → σ → Prop) : ∀ (xs : List α) (k : Nat) (s : σ), I k s → (∀ (j : Nat) (x : α) (s : σ), x ∈ xs → xs[j]? = some x → I (k + j) s → ∃ s', body x s = some s' ∧ I (k + j + 1) s') → ∃ s', forN body xs s = some s' ∧ I (k + xs.length) s'
  | [], k, s, hs, _ => ⟨s, rfl, hs⟩
  | a :: as, k, s, hs, h => by
    obtain ⟨s1, h1, h2⟩ := h 0 a s (List.mem_cons_self ..) rfl hs
    obtain ⟨s', h3, h4⟩ := forN_inv I as (k + 1) s1 h2 fun j x s hx hj hi => by
      have e : k + 1 + j = k + (j + 1) := by omega
      rw [e] at hi ⊢
      exact h (j + 1) x s (List.mem_cons_of_mem _ hx) (by simpa using hj) hi
    refine ⟨s', (forN_cons h1).trans h3, ?_⟩
    have e : k + (a :: as).length = k + 1 + as.length := by simp; omega
    rw [e]
    exact h4
/-- a while: I holds at each test, μ goes down, R tells the end from here -/
theorem whN_run {σ : Type} {cond : σ → Option (Bool × σ)} {body : σ → Option σ} (I : σ → Prop) (μ : σ → Nat) (R : σ → σ → Prop)
    (h : ∀ s, I s → (∃ s', cond s = some (false, s') ∧ R s s') ∨ ∃ s1 s2, cond s = some (true, s1) ∧ body s1 = some s2 ∧ I s2 ∧ μ s2 < μ s ∧ ∀ s3, R s2 s3 → R s s3) : ∀ (n : Nat) (s : σ), I s → μ s < n → ∃ s', whN cond body n s = some s' ∧ R s s'
  | 0, _, _, hn => absurd hn (Nat.not_lt_zero _)
  | n + 1, s, hi, hn => by
    show ∃ s', ((cond s).bind fun r => if r.1 = true then (body r.2).bind (whN cond body n) else some r.2) = some s' ∧ R s s'
    rcases h s hi with ⟨s', h1, h2⟩ | ⟨s1, s2, h1, h2, h3, h4, h5⟩
    · exact ⟨s', by rw [h1]; rfl, h2⟩
    · obtain ⟨s', h6, h7⟩ := whN_run I μ R h n s2 h3 (by omega)
      exact ⟨s', by rw [h1, Option.bind_some, if_pos rfl, h2, Option.bind_some]; exact h6, h5 _ h7⟩
/-! a rule as a table; what a sort asks of it -/
abbrev Log : Type := List (Int × Int)
structure Sq (r : List (List Int)) (n : Nat) : Prop where
  len : r.length = n
  row : ∀ x ∈ r, x.length = n
def InR (n : Nat) (x : Int) : Prop := 0 ≤ x ∧ x < n
def ansN (r : List (List Int)) (x y : Int) : Int := (r.getD x.toNat []).getD y.toNat 0
end Tr
namespace My
open PySem PySem.Spec PyProof.Rows L2 Tr
variable [TC] [TabC]
/-! the text: which statement of the top each def is -/
def topS (i : Nat) : Stmt := PySem.Challenge.pw_knotsorts_k02_rules_from_ballots.main.body.getD i (.Pass ⟨0, 0, 0, 0⟩)
abbrev s_is_whole : Stmt := topS 4
theorem sc_is_whole : FnScope ["thing"] ["thing"] (defScope s_is_whole) := ⟨rfl, rfl, rfl, by decide +kernel, rfl, by decide +kernel, by decide +kernel⟩
abbrev s_is_item : Stmt := topS 5
theorem sc_is_item : FnScope ["size", "thing"] ["size", "thing"] (defScope s_is_item) := ⟨rfl, rfl, rfl, by decide +kernel, rfl, by decide +kernel, by decide +kernel⟩
abbrev s_is_row : Stmt := topS 6
theorem sc_is_row : FnScope ["size", "thing", "item"] ["size", "thing"] (defScope s_is_row) := ⟨rfl, rfl, rfl, by decide +kernel, rfl, by decide +kernel, by decide +kernel⟩
abbrev s_check_size : Stmt := topS 9
theorem sc_check_size : FnScope ["size"] ["size"] (defScope s_check_size) := ⟨rfl, rfl, rfl, by decide +kernel, rfl, by decide +kernel, by decide +kernel⟩
abbrev s_check_ballots : Stmt := topS 10
theorem sc_check_ballots : FnScope ["size", "ballots", "index", "ballot"] ["size", "ballots"] (defScope s_check_ballots) := ⟨rfl, rfl, rfl, by decide +kernel, rfl, by decide +kernel, by decide +kernel⟩
abbrev s_square_of_zeros : Stmt := topS 11
theorem sc_square_of_zeros : FnScope ["size", "_"] ["size"] (defScope s_square_of_zeros) := ⟨rfl, rfl, rfl, by decide +kernel, rfl, by decide +kernel, by decide +kernel⟩
abbrev s_answer_of_numbers : Stmt := topS 12
theorem sc_answer_of_numbers : FnScope ["one", "other", "tolerance"] ["one", "other", "tolerance"] (defScope s_answer_of_numbers) := ⟨rfl, rfl, rfl, by decide +kernel, rfl, by decide +kernel, by decide +kernel⟩
abbrev s_rule_of_ballots : Stmt := topS 13
theorem sc_rule_of_ballots : FnScope ["size", "ballots", "votes", "ballot", "items", "place", "one", "other"] ["size", "ballots"] (defScope s_rule_of_ballots) := ⟨rfl, rfl, rfl, by decide +kernel, rfl, by decide +kernel, by decide +kernel⟩
abbrev s__law_draws : Stmt := topS 15
theorem sc__law_draws : FnScope ["cell"] ["cell"] (defScope s__law_draws) := ⟨rfl, rfl, rfl, by decide +kernel, rfl, by decide +kernel, by decide +kernel⟩
abbrev s__law_next : Stmt := topS 16
theorem sc__law_next : FnScope ["draws", "k", "number"] ["draws"] (defScope s__law_next) := ⟨rfl, rfl, rfl, by decide +kernel, rfl, by decide +kernel, by decide +kernel⟩
abbrev s__law_ballot : Stmt := topS 17
theorem sc__law_ballot : FnScope ["draws", "many", "left", "told"] ["draws", "many"] (defScope s__law_ballot) := ⟨rfl, rfl, rfl, by decide +kernel, rfl, by decide +kernel, by decide +kernel⟩
abbrev s__law_lead : Stmt := topS 18
theorem sc__law_lead : FnScope ["some", "one", "other", "ahead", "ballot"] ["some", "one", "other"] (defScope s__law_lead) := ⟨rfl, rfl, rfl, by decide +kernel, rfl, by decide +kernel, by decide +kernel⟩
abbrev s__law_by_ballots : Stmt := topS 19
theorem sc__law_by_ballots : FnScope ["many", "some", "told", "one", "leads", "other", "lead"] ["many", "some"] (defScope s__law_by_ballots) := ⟨rfl, rfl, rfl, by decide +kernel, rfl, by decide +kernel, by decide +kernel⟩
abbrev s__law_kept : Stmt := topS 20
theorem sc__law_kept : FnScope ["ask", "kept", "error"] ["ask"] (defScope s__law_kept) := ⟨rfl, rfl, rfl, by decide +kernel, rfl, by decide +kernel, by decide +kernel⟩
abbrev s__law_right : Stmt := topS 21
theorem sc__law_right : FnScope ["draws", "many", "some", "kept", "due", "bad", "whole", "odd", "told", "named", "last", "k", "ballot", "row"] ["draws"] (defScope s__law_right) := ⟨rfl, rfl, rfl, by decide +kernel, rfl, by decide +kernel, by decide +kernel⟩
abbrev s_law : Stmt := topS 22
theorem sc_law : FnScope ["script", "draws", "cell"] ["script"] (defScope s_law) := ⟨rfl, rfl, rfl, by decide +kernel, rfl, by decide +kernel, by decide +kernel⟩
def fld : Nat → Str
  | 0 => "size"
  | 1 => "index"
  | _ => ""
def clOf (ca : Nat → Addr) : Cl := fun n => (ca n, fld n)
abbrev s_I_InvalidSize : Stmt := inClass (topS 1) 0
theorem sc_I_InvalidSize : FnScope ["self", "size"] ["self", "size"] (defScope s_I_InvalidSize) := ⟨rfl, rfl, rfl, by decide +kernel, rfl, by decide +kernel, by decide +kernel⟩
abbrev s_I_InvalidBallots : Stmt := inClass (topS 2) 0
theorem sc_I_InvalidBallots : FnScope ["self", "index"] ["self", "index"] (defScope s_I_InvalidBallots) := ⟨rfl, rfl, rfl, by decide +kernel, rfl, by decide +kernel, by decide +kernel⟩
structure Tx (K : PySem.W.Frag) (mg : Str → Option Value) (ad : Nat → Addr) (fd : Nat → FuncData) (w : World) (ca ia : Nat → Addr) (ifd : Nat → FuncData) : Prop where
  F_is_whole : Fun K "is_whole" "is_whole" s_is_whole (ad 0) (fd 0)
  g_is_whole : mg "is_whole" = some (.ref (ad 0))
  b_is_whole : Binds K (fd 0) ["thing"] []
  F_is_item : Fun K "is_item" "is_item" s_is_item (ad 1) (fd 1)
  g_is_item : mg "is_item" = some (.ref (ad 1))
  b_is_item : Binds K (fd 1) ["size", "thing"] []
  F_is_row : Fun K "is_row" "is_row" s_is_row (ad 2) (fd 2)
  g_is_row : mg "is_row" = some (.ref (ad 2))
  b_is_row : Binds K (fd 2) ["size", "thing"] []
  F_check_size : Fun K "check_size" "check_size" s_check_size (ad 3) (fd 3)
  g_check_size : mg "check_size" = some (.ref (ad 3))
  b_check_size : Binds K (fd 3) ["size"] []
  F_check_ballots : Fun K "check_ballots" "check_ballots" s_check_ballots (ad 4) (fd 4)
  g_check_ballots : mg "check_ballots" = some (.ref (ad 4))
  b_check_ballots : Binds K (fd 4) ["size", "ballots"] []
  F_square_of_zeros : Fun K "square_of_zeros" "square_of_zeros" s_square_of_zeros (ad 5) (fd 5)
  g_square_of_zeros : mg "square_of_zeros" = some (.ref (ad 5))
  b_square_of_zeros : Binds K (fd 5) ["size"] []
  F_answer_of_numbers : Fun K "answer_of_numbers" "answer_of_numbers" s_answer_of_numbers (ad 6) (fd 6)
  g_answer_of_numbers : mg "answer_of_numbers" = some (.ref (ad 6))
  b_answer_of_numbers : Binds K (fd 6) ["one", "other", "tolerance"] []
  F_rule_of_ballots : Fun K "rule_of_ballots" "rule_of_ballots" s_rule_of_ballots (ad 7) (fd 7)
  g_rule_of_ballots : mg "rule_of_ballots" = some (.ref (ad 7))
  b_rule_of_ballots : Binds K (fd 7) ["size", "ballots"] []
  F__law_draws : Fun K "_law_draws" "_law_draws" s__law_draws (ad 8) (fd 8)
  g__law_draws : mg "_law_draws" = some (.ref (ad 8))
  b__law_draws : Binds K (fd 8) ["cell"] []
  F__law_next : Fun K "_law_next" "_law_next" s__law_next (ad 9) (fd 9)
  g__law_next : mg "_law_next" = some (.ref (ad 9))
  b__law_next : Binds K (fd 9) ["draws"] []
  F__law_ballot : Fun K "_law_ballot" "_law_ballot" s__law_ballot (ad 10) (fd 10)
  g__law_ballot : mg "_law_ballot" = some (.ref (ad 10))
  b__law_ballot : Binds K (fd 10) ["draws", "many"] []
  F__law_lead : Fun K "_law_lead" "_law_lead" s__law_lead (ad 11) (fd 11)
  g__law_lead : mg "_law_lead" = some (.ref (ad 11))
  b__law_lead : Binds K (fd 11) ["some", "one", "other"] []
  F__law_by_ballots : Fun K "_law_by_ballots" "_law_by_ballots" s__law_by_ballots (ad 12) (fd 12)
  g__law_by_ballots : mg "_law_by_ballots" = some (.ref (ad 12))
  b__law_by_ballots : Binds K (fd 12) ["many", "some"] []
  F__law_kept : Fun K "_law_kept" "_law_kept" s__law_kept (ad 13) (fd 13)
  g__law_kept : mg "_law_kept" = some (.ref (ad 13))
  b__law_kept : Binds K (fd 13) ["ask"] []
  F__law_right : Fun K "_law_right" "_law_right" s__law_right (ad 14) (fd 14)
  g__law_right : mg "_law_right" = some (.ref (ad 14))
  b__law_right : Binds K (fd 14) ["draws"] []
  lm__law_right : LamAt (fd 14) (("_law_right" : Str) ++ ".<locals>." ++ "<lambda>")
  F_law : Fun K "law" "law" s_law (ad 15) (fd 15)
  g_law : mg "law" = some (.ref (ad 15))
  b_law : Binds K (fd 15) ["script"] []
  b_ValueError : mg "ValueError" = none
  b_all : mg "all" = none
  b_bool : mg "bool" = none
  b_enumerate : mg "enumerate" = none
  b_int : mg "int" = none
  b_isinstance : mg "isinstance" = none
  b_len : mg "len" = none
  b_list : mg "list" = none
  b_range : mg "range" = none
  b_repr : mg "repr" = none
  b_set : mg "set" = none
  b_str : mg "str" = none
  b_tuple : mg "tuple" = none
  c_MOST_ITEMS : ∃ t, mg "MOST_ITEMS" = some (.int 12 t)
  vV : PySem.W.findCls K (.type "ValueError") (.type "type") "__init__" = some (.val (.builtin "ValueError.__init__"))
  O_InvalidSize : OexC K (ca 0)
  iC_InvalidSize : PySem.W.findIn K (.ref (ca 0)) "__init__" = some (some (.ref (ia 0)))
  tI_InvalidSize : PySem.W.typeIn K (.ref (ia 0)) = some (.type "function")
  I_InvalidSize : Fun K "__init__" "InvalidSize.__init__" s_I_InvalidSize (ia 0) (ifd 0)
  bI_InvalidSize : Binds K (ifd 0) ["self", "size"] []
  gC_InvalidSize : mg "InvalidSize" = some (.ref (ca 0))
  noF_InvalidSize : PySem.W.findIn K (.ref (ca 0)) "size" = some none
  kc_InvalidSize : KcC K (ca 0) "size"
  ex_InvalidSize : PySem.W.exmOne K (.ref (ca 0)) (.ref (ca 0)) = some true
  kt_InvalidSize : PySem.W.kitOne K (.ref (ca 0)) (.type "ValueError") = some true
  O_InvalidBallots : OexC K (ca 1)
  iC_InvalidBallots : PySem.W.findIn K (.ref (ca 1)) "__init__" = some (some (.ref (ia 1)))
  tI_InvalidBallots : PySem.W.typeIn K (.ref (ia 1)) = some (.type "function")
  I_InvalidBallots : Fun K "__init__" "InvalidBallots.__init__" s_I_InvalidBallots (ia 1) (ifd 1)
  bI_InvalidBallots : Binds K (ifd 1) ["self", "index"] []
  gC_InvalidBallots : mg "InvalidBallots" = some (.ref (ca 1))
  noF_InvalidBallots : PySem.W.findIn K (.ref (ca 1)) "index" = some none
  kc_InvalidBallots : KcC K (ca 1) "index"
  ex_InvalidBallots : PySem.W.exmOne K (.ref (ca 1)) (.ref (ca 1)) = some true
  kt_InvalidBallots : PySem.W.kitOne K (.ref (ca 1)) (.type "ValueError") = some true
  xa_InvalidBallots_InvalidSize : PySem.W.exmAny K (.ref (ca 1)) [(.ref (ca 1)), (.ref (ca 0))] = some true ∧ PySem.W.exmAny K (.ref (ca 0)) [(.ref (ca 1)), (.ref (ca 0))] = some true
  ki_InvalidSize : PySem.W.kitOne K (.ref (ca 0)) (.ref (ca 0)) = some true
  kn_InvalidBallots_InvalidSize : PySem.W.kitOne K (.ref (ca 1)) (.ref (ca 0)) = some false
section
variable {ad : Nat → Addr} {fd : Nat → FuncData} {ca ia : Nat → Addr} {ifd : Nat → FuncData}
theorem gives__law_kept {X : Cx} (T : Tx X.K X.mg ad fd X.w ca ia ifd) (gu : X.A.guards = some []) (hr : Room 2 X.A) (g : Addr) (cdg : Value) (q : Str) :
    LamX.GivesTo X ["ask", "kept", "error"] "_law_kept" (defScope s__law_kept) g cdg (defBody s__law_kept) "ask" q (TTry X.K 3 2 1 (.ref (ca 1)) (.ref (ca 0)) (tTwo X.K 1 (ca 0) "size" "index" (Str.ofString "told") (Str.ofString "size") (Str.ofString "ballots") "ValueError")) := by
  exact gives_try (Ng := ["ask", "kept", "error"]) (i := 2) (j := 1) sc__law_kept.nd (fun f => rfl) rfl rfl (by decide) (by decide) (fun f => rfl) (fun s H => ⟨by rfl, by decide, .inl T.gC_InvalidBallots⟩) (fun s H => ⟨by rfl, by decide, .inl T.gC_InvalidSize⟩)
    (fun s H => ps_set (i := 1) sc__law_kept.nd rfl (Or.inl rfl) pe_non) (fun s H a oe pn => ps_set (i := 1) sc__law_kept.nd rfl (Or.inl rfl) (pv 2))
    (fun s H => pss_cons (ps_if (PW.pt (pw_or (pt_cmpR (op_isN) (pv 1) pe_non (nomark _)) (pw_or1 (pt_not (pt_val (pe_callB (isKK (K := X.K)) (by rfl) T.b_isinstance (by decide +kernel) (pa_cons (pv 1) (pa_cons (pe_bltn (v := .ty "ValueError") (by rfl) T.b_ValueError (by decide +kernel) rfl) pa_nil)))))))) (pss_one (ps_ret pe_str)) pss_nil) (pss_one (ps_ret (pe_ifExp (pt_val (pe_callB (isKK (K := X.K)) (by rfl) T.b_isinstance (by decide +kernel) (pa_cons (pv 1) (pa_cons (pe_glob (v := .ref (ca 0)) (by rfl) T.gC_InvalidSize rfl) pa_nil)))) (pe_callB (call_repr gu (hr.deeper _).units) (by rfl) T.b_repr (by decide +kernel) (pa_cons (pe_lst (pa_cons pe_str (pa_cons (kfK (K := X.K) (pv 1)) pa_nil))) pa_nil)) (pe_callB (call_repr gu (hr.deeper _).units) (by rfl) T.b_repr (by decide +kernel) (pa_cons (pe_lst (pa_cons pe_str (pa_cons (kfK (K := X.K) (pv 1)) pa_nil))) pa_nil))))))
end
section
variable {P : Program} {w : World} {K : PySem.W.Frag} {mg : Str → Option Value} {base : Heap} {ad : Nat → Addr} {fd : Nat → FuncData} {ca ia : Nat → Addr} {ifd : Nat → FuncData}
theorem oki_InvalidSize (T : Tx K mg ad fd w ca ia ifd) : FnOk P w K mg base CX0 1 (ia 0) (ifd 0) ["self", "size"] (spI "size" (ca 0)) := by
  refine T.I_InvalidSize.ok sc_I_InvalidSize (fun vs H Q E h => by obtain ⟨a, v, rfl, _⟩ := h; rfl) (fun cdv A ou s H vs Q E hr h => ⟨_, pss_cons (ps_expr (pe_veinit (by rfl) T.b_ValueError T.vV (pa_cons (pv 0) (pa_cons pe_str pa_nil)))) (pss_one (ps_ost (pv 0) (pv 1))), ?_⟩)
  exact init_read rfl T.O_InvalidSize T.noF_InvalidSize h
theorem oki_InvalidBallots (T : Tx K mg ad fd w ca ia ifd) : FnOk P w K mg base CX0 1 (ia 1) (ifd 1) ["self", "index"] (spI "index" (ca 1)) := by
  refine T.I_InvalidBallots.ok sc_I_InvalidBallots (fun vs H Q E h => by obtain ⟨a, v, rfl, _⟩ := h; rfl) (fun cdv A ou s H vs Q E hr h => ⟨_, pss_cons (ps_expr (pe_veinit (by rfl) T.b_ValueError T.vV (pa_cons (pv 0) (pa_cons pe_str pa_nil)))) (pss_one (ps_ost (pv 0) (pv 1))), ?_⟩)
  exact init_read rfl T.O_InvalidBallots T.noF_InvalidBallots h
def m_is_whole : MF := mDef 1 1 []
    (mRet (mAndV (mIsi "int" (mVar 0)) (mNotV (mIsi "bool" (mVar 0)))))
theorem okn_is_whole (T : Tx K mg ad fd w ca ia ifd) : FnOk P w K mg base CX0 1 (ad 0) (fd 0) ["thing"] (spOf [] m_is_whole) := by
  refine okN T.F_is_whole sc_is_whole (fun vs H Q E h => by_len h) (fun cdv A ou s H vs Q E hr h => ⟨_, (pss_one (ps_ret (pe_and (pe_callB (isiK (K := K)) (by rfl) T.b_isinstance (by decide +kernel) (pa_cons (pv 0) (pa_cons (pe_bltn (v := .ty "int") (by rfl) T.b_int (by decide +kernel) rfl) pa_nil))) (pe_one (pe_not (pe_callB (isiK (K := K)) (by rfl) T.b_isinstance (by decide +kernel) (pa_cons (pv 0) (pa_cons (pe_bltn (v := .ty "bool") (by rfl) T.b_bool (by decide +kernel) rfl) pa_nil)))))))), ?_⟩)
  exact def_ok (N := ["thing"]) (m := (mRet (mAndV (mIsi "int" (mVar 0)) (mNotV (mIsi "bool" (mVar 0)))))) ((rs_ret (re_andV (re_isi "int" re_var) (re_notV (re_isi "bool" re_var))))) h
theorem ok_is_whole (T : Tx K mg ad fd w ca ia ifd) : FnG P w K mg base 1 (ad 0) (fd 0) ["thing"] (spOf [] m_is_whole) := FnG.of (okn_is_whole T)
def m_is_item : MF := mDef 2 2 []
    (mRet (mAndV (mFz (mCall [] m_is_whole (mCons (mVar 1) mNil))) (mChain (gI0 fun i j => .bool (decide (i ≤ j))) (gI0 fun i j => .bool (decide (i < j))) (mC (.int 0)) (mVar 1) (mVar 0))))
theorem okn_is_item (T : Tx K mg ad fd w ca ia ifd) : FnOk P w K mg base CX0 2 (ad 1) (fd 1) ["size", "thing"] (spOf [] m_is_item) := by
  refine okN T.F_is_item sc_is_item (fun vs H Q E h => by_len h) (fun cdv A ou s H vs Q E hr h => ⟨_, (pss_one (ps_ret (pe_and (pe_callN (okn_is_whole T) (hr.mono (by decide)) (by rfl) T.g_is_whole T.F_is_whole.kp T.b_is_whole .nil (pa_cons (pv 1) pa_nil)) (pe_one (pe_chain op_le op_lt pe_int (pv 1) (pv 0)))))), ?_⟩)
  exact def_ok (N := ["size", "thing"]) (m := (mRet (mAndV (mFz (mCall [] m_is_whole (mCons (mVar 1) mNil))) (mChain (gI0 fun i j => .bool (decide (i ≤ j))) (gI0 fun i j => .bool (decide (i < j))) (mC (.int 0)) (mVar 1) (mVar 0))))) ((rs_ret (re_andV (re_o (ro_call (ra_cons re_var ra_nil))) (re_chain b_le b_lt re_int re_var re_var)))) h
theorem ok_is_item (T : Tx K mg ad fd w ca ia ifd) : FnG P w K mg base 2 (ad 1) (fd 1) ["size", "thing"] (spOf [] m_is_item) := FnG.of (okn_is_item T)
def m_is_row : MF := mDef 3 2 []
    (mSeq (mIf (mOr (mNot (mT (mIsi "list" (mVar 1)))) (mT (mBin (gEq true) (mFn gLen (mCons (mVar 1) mNil)) (mVar 0)))) (mRet (mC (.bool false))) mNext)
    (mRet (mAndV (mFn gAll (mCons (mLE (mLc (mItL (mVar 1)) (mgN 2) mYes (mFz (mCall [] m_is_item (mCons (mVar 0) (mCons (mVar 2) mNil)))) [2])) mNil)) (mBin (gEq false) (mFn gLenSet (mCons (mVar 1) mNil)) (mVar 0)))))
theorem okn_is_row (T : Tx K mg ad fd w ca ia ifd) : FnOk P w K mg base CX0 3 (ad 2) (fd 2) ["size", "thing"] (spOf [] m_is_row) := by
  refine okN T.F_is_row sc_is_row (fun vs H Q E h => by_len h) (fun cdv A ou s H vs Q E hr h => ⟨_, (pss_cons (ps_if (PW.pt (pw_or (pt_not (pt_val (pe_callB (isiK (K := K)) (by rfl) T.b_isinstance (by decide +kernel) (pa_cons (pv 1) (pa_cons (pe_bltn (v := .ty "list") (by rfl) T.b_list (by decide +kernel) rfl) pa_nil))))) (pw_or1 (pt_cmpR (neK (K := K) hr.units) (pe_callB (lenK (K := K)) (by rfl) T.b_len PySem.boot_len (pa_cons (pv 1) pa_nil)) (pv 0) (nomark _))))) (pss_one (ps_ret pe_bl)) pss_nil)
      (pss_one (ps_ret (pe_and (pe_callB (allK (K := K) rfl) (by rfl) T.b_all (by decide +kernel) (pa_cons (pe_lc (own := [("item", 2)]) (g := gName 2) (tt := tYes) rfl sc_is_row.nd (pi_listK (K := K) (pv 1)) (blkOk_by (own := [("item", 2)]) (by kernel_rfl)) (fun _ _ _ _ _ => (pg_name (i := 2) sc_is_row.nd rfl (Or.inl rfl))) (fun _ _ _ _ _ => pts_nil) (fun _ _ _ _ _ => (pe_callN (okn_is_item T) (hr.mono (by decide)) (by rfl) T.g_is_item T.F_is_item.kp T.b_is_item .nil (pa_cons (pv 0) (pa_cons (pv 2) pa_nil))))) pa_nil)) (pe_one (pe_cmpR (eqK (K := K) hr.units) (pe_lenSetG (K := K) rfl (by rfl) T.b_len (by rfl) T.b_set (pv 1)) (pv 0) (nomark _))))))), ?_⟩)
  exact def_ok (N := ["size", "thing", "item"]) (m := (mSeq (mIf (mOr (mNot (mT (mIsi "list" (mVar 1)))) (mT (mBin (gEq true) (mFn gLen (mCons (mVar 1) mNil)) (mVar 0)))) (mRet (mC (.bool false))) mNext)
    (mRet (mAndV (mFn gAll (mCons (mLE (mLc (mItL (mVar 1)) (mgN 2) mYes (mFz (mCall [] m_is_item (mCons (mVar 0) (mCons (mVar 2) mNil)))) [2])) mNil)) (mBin (gEq false) (mFn gLenSet (mCons (mVar 1) mNil)) (mVar 0)))))) ((rs_seq (rs_if (rt_or (rt_not (rt_B (re_isi "list" re_var))) (rt_test (re_bin (re_fn (ra_cons re_var ra_nil) f_len) re_var b_ne))) (rs_ret re_bl) rs_next)
      (rs_ret (re_andV (re_fn (ra_cons (re_lc (ri_list re_var) rg_name rt_yes (re_o (ro_call (ra_cons re_var (ra_cons re_var ra_nil))))) ra_nil) f_all) (re_bin (re_fn (ra_cons re_var ra_nil) f_lenSet) re_var b_eq))))) h
theorem ok_is_row (T : Tx K mg ad fd w ca ia ifd) : FnG P w K mg base 3 (ad 2) (fd 2) ["size", "thing"] (spOf [] m_is_row) := FnG.of (okn_is_row T)
def m_check_size : MF := mDef 1 1 []
    (mIf (mOr (mNot (mT (mFz (mCall [] m_is_whole (mCons (mVar 0) mNil))))) (mOr (mT (mBin (gI0 fun i j => .bool (decide (i < j))) (mVar 0) (mC (.int 0)))) (mT (mBin (gI0 fun i j => .bool (decide (j < i))) (mVar 0) (mC (.int 12)))))) mNever mNext)
theorem okn_check_size (T : Tx K mg ad fd w ca ia ifd) : FnOk P w K mg base CX0 2 (ad 3) (fd 3) ["size"] (spOf [] m_check_size) := by
  refine okN T.F_check_size sc_check_size (fun vs H Q E h => by_len h) (fun cdv A ou s H vs Q E hr h => ⟨_, (pss_one (ps_if (PW.pt (pw_or (pt_not (pt_val (pe_callN (okn_is_whole T) (hr.mono (by decide)) (by rfl) T.g_is_whole T.F_is_whole.kp T.b_is_whole .nil (pa_cons (pv 0) pa_nil)))) (pw_or (pt_cmpR op_lt (pv 0) pe_int (nomark _)) (pw_or1 (pt_cmpR op_gt (pv 0) (pe_glob (v := .int 12) (by rfl) (Classical.choose_spec T.c_MOST_ITEMS) ⟨_, rfl⟩) (nomark _)))))) (pss_one ps_never) pss_nil)), ?_⟩)
  exact def_ok (N := ["size"]) (m := (mIf (mOr (mNot (mT (mFz (mCall [] m_is_whole (mCons (mVar 0) mNil))))) (mOr (mT (mBin (gI0 fun i j => .bool (decide (i < j))) (mVar 0) (mC (.int 0)))) (mT (mBin (gI0 fun i j => .bool (decide (j < i))) (mVar 0) (mC (.int 12)))))) mNever mNext)) ((rs_if (rt_or (rt_not (rt_B (re_o (ro_call (ra_cons re_var ra_nil))))) (rt_or (rt_test (re_bin re_var re_int b_lt)) (rt_test (re_bin re_var re_int b_gt)))) rs_never rs_next)) h
theorem ok_check_size (T : Tx K mg ad fd w ca ia ifd) : FnG P w K mg base 2 (ad 3) (fd 3) ["size"] (spOf [] m_check_size) := FnG.of (okn_check_size T)
def x_check_size : XF := xDef 1 1
    (mIf (mOr (mNot (mT (mFz (mCall [] m_is_whole (mCons (mVar 0) mNil))))) (mOr (mT (mBin (gI0 fun i j => .bool (decide (i < j))) (mVar 0) (mC (.int 0)))) (mT (mBin (gI0 fun i j => .bool (decide (j < i))) (mVar 0) (mC (.int 12)))))) (xRaise 0 (mCons (mVar 0) mNil)) (xLift mNext))
theorem okxn_check_size (T : Tx K mg ad fd w ca ia ifd) : FnOk P w K mg base (L2.CX P w) 3 (ad 3) (fd 3) ["size"] (spX (clOf ca) x_check_size) := by
  refine okXN T.F_check_size sc_check_size (fun vs H Q E h => byX_len h) (fun cdv A ou s H vs Q E hr h => ⟨_, (pss_one (ps_if (PW.pt (pw_or (pt_not (pt_val (pe_callN (okn_is_whole T) (hr.mono (by decide)) (by rfl) T.g_is_whole T.F_is_whole.kp T.b_is_whole .nil (pa_cons (pv 0) pa_nil)))) (pw_or (pt_cmpR op_lt (pv 0) pe_int (nomark _)) (pw_or1 (pt_cmpR op_gt (pv 0) (pe_glob (v := .int 12) (by rfl) (Classical.choose_spec T.c_MOST_ITEMS) ⟨_, rfl⟩) (nomark _)))))) (pss_one (ps_raise rfl (takes_of rfl rfl rfl rfl) (pmk_oex T.O_InvalidSize T.iC_InvalidSize T.tI_InvalidSize (oki_InvalidSize T) (hr.mono (by decide)) T.bI_InvalidSize .nil pass0 (by rfl) T.gC_InvalidSize (pa_cons (pv 0) pa_nil)))) pss_nil)), ?_⟩)
  exact def_okX (N := ["size"]) (m := (mIf (mOr (mNot (mT (mFz (mCall [] m_is_whole (mCons (mVar 0) mNil))))) (mOr (mT (mBin (gI0 fun i j => .bool (decide (i < j))) (mVar 0) (mC (.int 0)))) (mT (mBin (gI0 fun i j => .bool (decide (j < i))) (mVar 0) (mC (.int 12)))))) (xRaise 0 (mCons (mVar 0) mNil)) (xLift mNext))) ((rx_if (rt_or (rt_not (rt_B (re_o (ro_call (ra_cons re_var ra_nil))))) (rt_or (rt_test (re_bin re_var re_int b_lt)) (rt_test (re_bin re_var re_int b_gt)))) (rx_raise (cl := clOf ca) rfl (ra_cons re_var ra_nil)) (rx_lift rs_next))) h
theorem okx_check_size (T : Tx K mg ad fd w ca ia ifd) : FnX P w K mg base 3 (ad 3) (fd 3) ["size"] (spX (clOf ca) x_check_size) := FnX.of (okxn_check_size T)
def m_check_ballots : MF := mDef 4 2 []
    (mSeq (mIf (mNot (mT (mIsi "list" (mVar 1)))) mNever mNext)
    (mFor (mEnum (mCons (mVar 1) mNil)) (mgT [2, 3]) (mIf (mNot (mT (mFz (mCall [] m_is_row (mCons (mVar 0) (mCons (mVar 3) mNil)))))) mNever mNext)))
theorem okn_check_ballots (T : Tx K mg ad fd w ca ia ifd) : FnOk P w K mg base CX0 4 (ad 4) (fd 4) ["size", "ballots"] (spOf [] m_check_ballots) := by
  refine okN T.F_check_ballots sc_check_ballots (fun vs H Q E h => by_len h) (fun cdv A ou s H vs Q E hr h => ⟨_, (pss_cons (ps_if (pt_not (pt_val (pe_callB (isiK (K := K)) (by rfl) T.b_isinstance (by decide +kernel) (pa_cons (pv 1) (pa_cons (pe_bltn (v := .ty "list") (by rfl) T.b_list (by decide +kernel) rfl) pa_nil))))) (pss_one ps_never) pss_nil)
      (pss_one (ps_for PassesOwn.never rfl (pi_enumK (K := K) (by rfl) T.b_enumerate (pa_cons (pv 1) pa_nil)) (pg_tupK (K := K) rfl (pgs_cons (pg_name (i := 2) sc_check_ballots.nd rfl (Or.inl rfl)) (pgs_cons (pg_name (i := 3) sc_check_ballots.nd rfl (Or.inl rfl)) pgs_nil))) (pss_one (ps_if (pt_not (pt_val (pe_callN (okn_is_row T) (hr.mono (by decide)) (by rfl) T.g_is_row T.F_is_row.kp T.b_is_row .nil (pa_cons (pv 0) (pa_cons (pv 3) pa_nil))))) (pss_one ps_never) pss_nil))))), ?_⟩)
  exact def_ok (N := ["size", "ballots", "index", "ballot"]) (m := (mSeq (mIf (mNot (mT (mIsi "list" (mVar 1)))) mNever mNext)
    (mFor (mEnum (mCons (mVar 1) mNil)) (mgT [2, 3]) (mIf (mNot (mT (mFz (mCall [] m_is_row (mCons (mVar 0) (mCons (mVar 3) mNil)))))) mNever mNext)))) ((rs_seq (rs_if (rt_not (rt_B (re_isi "list" re_var))) rs_never rs_next)
      (rs_for (ri_enum (ra_cons re_var ra_nil)) (rg_tup (rgs_cons (rgs_cons rgs_nil))) (rs_if (rt_not (rt_B (re_o (ro_call (ra_cons re_var (ra_cons re_var ra_nil)))))) rs_never rs_next)))) h
theorem ok_check_ballots (T : Tx K mg ad fd w ca ia ifd) : FnG P w K mg base 4 (ad 4) (fd 4) ["size", "ballots"] (spOf [] m_check_ballots) := FnG.of (okn_check_ballots T)
def x_check_ballots : XF := xDef 4 2
    (xSeq (mIf (mNot (mT (mIsi "list" (mVar 1)))) (xRaise 1 (mCons (mC .none) mNil)) (xLift mNext))
    (xFor (mEnum (mCons (mVar 1) mNil)) (mgT [2, 3]) (mIf (mNot (mT (mFz (mCall [] m_is_row (mCons (mVar 0) (mCons (mVar 3) mNil)))))) (xRaise 1 (mCons (mVar 2) mNil)) (xLift mNext))))
theorem okxn_check_ballots (T : Tx K mg ad fd w ca ia ifd) : FnOk P w K mg base (L2.CX P w) 4 (ad 4) (fd 4) ["size", "ballots"] (spX (clOf ca) x_check_ballots) := by
  refine okXN T.F_check_ballots sc_check_ballots (fun vs H Q E h => byX_len h) (fun cdv A ou s H vs Q E hr h => ⟨_, (pss_cons (ps_if (pt_not (pt_val (pe_callB (isiK (K := K)) (by rfl) T.b_isinstance (by decide +kernel) (pa_cons (pv 1) (pa_cons (pe_bltn (v := .ty "list") (by rfl) T.b_list (by decide +kernel) rfl) pa_nil))))) (pss_one (ps_raise rfl (takes_of rfl rfl rfl rfl) (pmk_oex T.O_InvalidBallots T.iC_InvalidBallots T.tI_InvalidBallots (oki_InvalidBallots T) (hr.mono (by decide)) T.bI_InvalidBallots .nil pass0 (by rfl) T.gC_InvalidBallots (pa_cons pe_non pa_nil)))) pss_nil)
      (pss_one (ps_for (passes_of rfl) rfl (pi_enumK (K := K) (by rfl) T.b_enumerate (pa_cons (pv 1) pa_nil)) (pg_tupK (K := K) rfl (pgs_cons (pg_name (i := 2) sc_check_ballots.nd rfl (Or.inl rfl)) (pgs_cons (pg_name (i := 3) sc_check_ballots.nd rfl (Or.inl rfl)) pgs_nil))) (pss_one (ps_if (pt_not (pt_val (pe_callN (okn_is_row T) (hr.mono (by decide)) (by rfl) T.g_is_row T.F_is_row.kp T.b_is_row .nil (pa_cons (pv 0) (pa_cons (pv 3) pa_nil))))) (pss_one (ps_raise rfl (takes_of rfl rfl rfl rfl) (pmk_oex T.O_InvalidBallots T.iC_InvalidBallots T.tI_InvalidBallots (oki_InvalidBallots T) (hr.mono (by decide)) T.bI_InvalidBallots .nil pass0 (by rfl) T.gC_InvalidBallots (pa_cons (pv 2) pa_nil)))) pss_nil))))), ?_⟩)
  exact def_okX (N := ["size", "ballots", "index", "ballot"]) (m := (xSeq (mIf (mNot (mT (mIsi "list" (mVar 1)))) (xRaise 1 (mCons (mC .none) mNil)) (xLift mNext))
    (xFor (mEnum (mCons (mVar 1) mNil)) (mgT [2, 3]) (mIf (mNot (mT (mFz (mCall [] m_is_row (mCons (mVar 0) (mCons (mVar 3) mNil)))))) (xRaise 1 (mCons (mVar 2) mNil)) (xLift mNext))))) ((rx_seq (rx_if (rt_not (rt_B (re_isi "list" re_var))) (rx_raise (cl := clOf ca) rfl (ra_cons re_non ra_nil)) (rx_lift rs_next))
      (rx_for (ri_enum (ra_cons re_var ra_nil)) (rg_tup (rgs_cons (rgs_cons rgs_nil))) (rx_if (rt_not (rt_B (re_o (ro_call (ra_cons re_var (ra_cons re_var ra_nil)))))) (rx_raise (cl := clOf ca) rfl (ra_cons re_var ra_nil)) (rx_lift rs_next))))) h
theorem okx_check_ballots (T : Tx K mg ad fd w ca ia ifd) : FnX P w K mg base 4 (ad 4) (fd 4) ["size", "ballots"] (spX (clOf ca) x_check_ballots) := FnX.of (okxn_check_ballots T)
def m_square_of_zeros : MF := mDef 2 1 []
    (mRetO (mLc2 (mRng1 (mCons (mVar 0) mNil)) (mgN 1) mYes (mLO (mBinL gRep (mLE (mDs (mCons (mC (.int 0)) mNil))) (mVar 0))) [1]))
theorem okn_square_of_zeros (T : Tx K mg ad fd w ca ia ifd) : FnOk P w K mg base CX0 1 (ad 5) (fd 5) ["size"] (spOf [] m_square_of_zeros) := by
  refine okN T.F_square_of_zeros sc_square_of_zeros (fun vs H Q E h => by_len h) (fun cdv A ou s H vs Q E hr h => ⟨_, (pss_one (ps_ret (pe_lc (own := [("_", 1)]) (g := gName 1) (tt := tYes) rfl sc_square_of_zeros.nd (pi_range1 (by rfl) T.b_range (pa_cons (pv 0) pa_nil)) (blkOk_by (own := [("_", 1)]) (by kernel_rfl)) (fun _ _ _ _ _ => (pg_name (i := 1) sc_square_of_zeros.nd rfl (Or.inl rfl))) (fun _ _ _ _ _ => pts_nil) (fun _ _ _ _ _ => (pe_op op_rep (pe_lst (pa_cons pe_int pa_nil)) (pv 0)))))), ?_⟩)
  exact def_ok (N := ["size", "_"]) (m := (mRetO (mLc2 (mRng1 (mCons (mVar 0) mNil)) (mgN 1) mYes (mLO (mBinL gRep (mLE (mDs (mCons (mC (.int 0)) mNil))) (mVar 0))) [1]))) ((rs_retO (ro_lc2 (ri_rng1 (ra_cons re_var ra_nil)) rg_name rt_yes (ro_l (rl_bin (re_l (rl_lst (ra_cons re_int ra_nil) (len_cons len_nil))) re_var b_rep))))) h
theorem ok_square_of_zeros (T : Tx K mg ad fd w ca ia ifd) : FnG P w K mg base 1 (ad 5) (fd 5) ["size"] (spOf [] m_square_of_zeros) := FnG.of (okn_square_of_zeros T)
def m_answer_of_numbers : MF := mDef 3 3 []
    (mSeq (mIf (mT (mBin (gI0 fun i j => .bool (decide (i < j))) (mBin (gI0 fun i j => .int (i + j)) (mVar 0) (mVar 2)) (mVar 1))) (mRet (mUn gNeg (mC (.int 1)))) mNext)
    (mSeq (mIf (mT (mBin (gI0 fun i j => .bool (decide (i < j))) (mBin (gI0 fun i j => .int (i + j)) (mVar 1) (mVar 2)) (mVar 0))) (mRet (mC (.int 1))) mNext)
    (mRet (mC (.int 0)))))
theorem okn_answer_of_numbers (T : Tx K mg ad fd w ca ia ifd) : FnOk P w K mg base CX0 1 (ad 6) (fd 6) ["one", "other", "tolerance"] (spOf [] m_answer_of_numbers) := by
  refine okN T.F_answer_of_numbers sc_answer_of_numbers (fun vs H Q E h => by_len h) (fun cdv A ou s H vs Q E hr h => ⟨_, (pss_cons (ps_if (pt_cmpR op_lt (pe_op op_add (pv 0) (pv 2)) (pv 1) (nomark _)) (pss_one (ps_ret (pe_un un_neg pe_int))) pss_nil)
      (pss_cons (ps_if (pt_cmpR op_lt (pe_op op_add (pv 1) (pv 2)) (pv 0) (nomark _)) (pss_one (ps_ret pe_int)) pss_nil)
      (pss_one (ps_ret pe_int)))), ?_⟩)
  exact def_ok (N := ["one", "other", "tolerance"]) (m := (mSeq (mIf (mT (mBin (gI0 fun i j => .bool (decide (i < j))) (mBin (gI0 fun i j => .int (i + j)) (mVar 0) (mVar 2)) (mVar 1))) (mRet (mUn gNeg (mC (.int 1)))) mNext)
    (mSeq (mIf (mT (mBin (gI0 fun i j => .bool (decide (i < j))) (mBin (gI0 fun i j => .int (i + j)) (mVar 1) (mVar 2)) (mVar 0))) (mRet (mC (.int 1))) mNext)
    (mRet (mC (.int 0)))))) ((rs_seq (rs_if (rt_test (re_bin (re_bin re_var re_var b_add) re_var b_lt)) (rs_ret (re_un re_int u_neg)) rs_next)
      (rs_seq (rs_if (rt_test (re_bin (re_bin re_var re_var b_add) re_var b_lt)) (rs_ret re_int) rs_next)
      (rs_ret re_int)))) h
theorem ok_answer_of_numbers (T : Tx K mg ad fd w ca ia ifd) : FnG P w K mg base 1 (ad 6) (fd 6) ["one", "other", "tolerance"] (spOf [] m_answer_of_numbers) := FnG.of (okn_answer_of_numbers T)
def m_rule_of_ballots : MF := mDef 8 2 []
    (mSeq (mDrop (mFz (mCall [] m_check_size (mCons (mVar 0) mNil))))
    (mSeq (mDrop (mFz (mCall [] m_check_ballots (mCons (mVar 0) (mCons (mVar 1) mNil)))))
    (mSeq (mAsgO 2 (mCall [] m_square_of_zeros (mCons (mVar 0) mNil)))
    (mSeq (mFor (mItL (mVar 1)) (mgN 3) (mFor (mEnum (mCons (mVar 3) mNil)) (mgT [5, 6]) (mFor (mItL (mLE (mSl (mVar 3) (mPart (mBin (gI0 fun i j => .int (i + j)) (mVar 5) (mC (.int 1)))) mNoPart))) (mgN 7) (mAug2 2 (mVar 6) (mVar 7) 1))))
    (mSeq (mAsgO 4 (mRg1 (mCons (mVar 0) mNil)))
    (mForget [5, 6, 7, 3] (mRetO (mLc2 (mRgv 4) (mgN 6) mYes (mLO (mLc (mRgv 4) (mgN 7) mYes (mFz (mCall [] m_answer_of_numbers (mCons (mIx2 2 (mVar 7) (mVar 6)) (mCons (mIx2 2 (mVar 6) (mVar 7)) (mCons (mC (.int 0)) mNil))))) [7])) [6]))))))))
theorem okn_rule_of_ballots (T : Tx K mg ad fd w ca ia ifd) : FnOk P w K mg base CX0 5 (ad 7) (fd 7) ["size", "ballots"] (spOf [] m_rule_of_ballots) := by
  refine okN T.F_rule_of_ballots sc_rule_of_ballots (fun vs H Q E h => by_len h) (fun cdv A ou s H vs Q E hr h => ⟨_, (pss_cons (ps_expr (pe_callN (okn_check_size T) (hr.mono (by decide)) (by rfl) T.g_check_size T.F_check_size.kp T.b_check_size .nil (pa_cons (pv 0) pa_nil)))
      (pss_cons (ps_expr (pe_callN (okn_check_ballots T) (hr.mono (by decide)) (by rfl) T.g_check_ballots T.F_check_ballots.kp T.b_check_ballots .nil (pa_cons (pv 0) (pa_cons (pv 1) pa_nil))))
      (pss_cons (ps_set (i := 2) sc_rule_of_ballots.nd rfl (Or.inr rfl) (pe_callN (okn_square_of_zeros T) (hr.mono (by decide)) (by rfl) T.g_square_of_zeros T.F_square_of_zeros.kp T.b_square_of_zeros .nil (pa_cons (pv 0) pa_nil)))
      (pss_cons (ps_for PassesOwn.never rfl (pi_listK (K := K) (pv 1)) (pg_name (i := 3) sc_rule_of_ballots.nd rfl (Or.inl rfl)) (pss_one (ps_for PassesOwn.never rfl (pi_enumK (K := K) (by rfl) T.b_enumerate (pa_cons (pv 3) pa_nil)) (pg_tupK (K := K) rfl (pgs_cons (pg_name (i := 5) sc_rule_of_ballots.nd rfl (Or.inl rfl)) (pgs_cons (pg_name (i := 6) sc_rule_of_ballots.nd rfl (Or.inl rfl)) pgs_nil))) (pss_one (ps_for PassesOwn.never rfl (pi_listK (K := K) (pe_slice (slK (K := K)) (pv 3) (po_some (pe_op op_add (pv 5) pe_int)) po_none)) (pg_name (i := 7) sc_rule_of_ballots.nd rfl (Or.inl rfl)) (pss_one (ps_augS (pe_ix (ixK (K := K)) (pv 2) (pv 6) (fun _ _ => rfl)) (pv 7) (getK (K := K)) pe_int ip_add set_list)))))))
      (pss_cons (ps_set (i := 4) sc_rule_of_ballots.nd rfl (Or.inr rfl) (pe_callTy rg1_call (by rfl) T.b_range (by decide +kernel) (pa_cons (pv 0) pa_nil)))
      (pss_one (ps_ret (pe_lc (own := [("one", 6)]) (g := gName 6) (tt := tYes) rfl sc_rule_of_ballots.nd (pi_rgv 4) (blkOk_by (own := [("one", 6)]) (by kernel_rfl)) (fun _ _ _ _ _ => (pg_name (i := 6) sc_rule_of_ballots.nd rfl (Or.inr rfl))) (fun _ _ _ _ _ => pts_nil) (fun _ _ _ _ _ => (pe_lc (own := [("other", 7)]) (g := gName 7) (tt := tYes) rfl sc_rule_of_ballots.nd (pi_rgv 4) (blkOk_by (own := [("other", 7)]) (by kernel_rfl)) (fun _ _ _ _ _ => (pg_name (i := 7) sc_rule_of_ballots.nd rfl (Or.inl rfl))) (fun _ _ _ _ _ => pts_nil) (fun _ _ _ _ _ => (pe_callN (okn_answer_of_numbers T) (hr.mono (by decide)) (by rfl) T.g_answer_of_numbers T.F_answer_of_numbers.kp T.b_answer_of_numbers .nil (pa_cons (pe_ix (ixK (K := K)) (pe_ix (ixK (K := K)) (pv 2) (pv 7) (fun _ _ => rfl)) (pv 6) (fun _ _ => rfl)) (pa_cons (pe_ix (ixK (K := K)) (pe_ix (ixK (K := K)) (pv 2) (pv 6) (fun _ _ => rfl)) (pv 7) (fun _ _ => rfl)) (pa_cons pe_int pa_nil))))))))))))))), ?_⟩)
  exact def_ok (N := ["size", "ballots", "votes", "ballot", "items", "place", "one", "other"]) (m := (mSeq (mDrop (mFz (mCall [] m_check_size (mCons (mVar 0) mNil))))
    (mSeq (mDrop (mFz (mCall [] m_check_ballots (mCons (mVar 0) (mCons (mVar 1) mNil)))))
    (mSeq (mAsgO 2 (mCall [] m_square_of_zeros (mCons (mVar 0) mNil)))
    (mSeq (mFor (mItL (mVar 1)) (mgN 3) (mFor (mEnum (mCons (mVar 3) mNil)) (mgT [5, 6]) (mFor (mItL (mLE (mSl (mVar 3) (mPart (mBin (gI0 fun i j => .int (i + j)) (mVar 5) (mC (.int 1)))) mNoPart))) (mgN 7) (mAug2 2 (mVar 6) (mVar 7) 1))))
    (mSeq (mAsgO 4 (mRg1 (mCons (mVar 0) mNil)))
    (mForget [5, 6, 7, 3] (mRetO (mLc2 (mRgv 4) (mgN 6) mYes (mLO (mLc (mRgv 4) (mgN 7) mYes (mFz (mCall [] m_answer_of_numbers (mCons (mIx2 2 (mVar 7) (mVar 6)) (mCons (mIx2 2 (mVar 6) (mVar 7)) (mCons (mC (.int 0)) mNil))))) [7])) [6]))))))))) ((rs_seq (rs_drop (re_o (ro_call (ra_cons re_var ra_nil))))
      (rs_seq (rs_drop (re_o (ro_call (ra_cons re_var (ra_cons re_var ra_nil)))))
      (rs_seq (rs_asgO (ro_call (ra_cons re_var ra_nil)))
      (rs_seq (rs_for (ri_list re_var) rg_name (rs_for (ri_enum (ra_cons re_var ra_nil)) (rg_tup (rgs_cons (rgs_cons rgs_nil))) (rs_for (ri_list (re_l (rl_sl re_var (rq_some (re_bin re_var re_int b_add)) rq_none))) rg_name (rs_aug2 re_var re_var re_int))))
      (rs_seq (rs_asgO (ro_rg1 (ra_cons re_var ra_nil)))
      (rs_forget (is := [5, 6, 7, 3]) (rs_retO (ro_lc2 ri_rgv rg_name rt_yes (ro_lc ri_rgv rg_name rt_yes (re_o (ro_call (ra_cons (re_ix2 re_var re_var) (ra_cons (re_ix2 re_var re_var) (ra_cons re_int ra_nil))))))))))))))) h
theorem ok_rule_of_ballots (T : Tx K mg ad fd w ca ia ifd) : FnG P w K mg base 5 (ad 7) (fd 7) ["size", "ballots"] (spOf [] m_rule_of_ballots) := FnG.of (okn_rule_of_ballots T)
def x_rule_of_ballots : XF := xDef 8 2
    (xSeq (xCall x_check_size (mCons (mVar 0) mNil))
    (xSeq (xCall x_check_ballots (mCons (mVar 0) (mCons (mVar 1) mNil)))
    (xSeq (xLift (mAsgO 2 (mCall [] m_square_of_zeros (mCons (mVar 0) mNil))))
    (xSeq (xLift (mFor (mItL (mVar 1)) (mgN 3) (mFor (mEnum (mCons (mVar 3) mNil)) (mgT [5, 6]) (mFor (mItL (mLE (mSl (mVar 3) (mPart (mBin (gI0 fun i j => .int (i + j)) (mVar 5) (mC (.int 1)))) mNoPart))) (mgN 7) (mAug2 2 (mVar 6) (mVar 7) 1)))))
    (xSeq (xLift (mAsgO 4 (mRg1 (mCons (mVar 0) mNil))))
    (xLift (mForget [5, 6, 7, 3] (mRetO (mLc2 (mRgv 4) (mgN 6) mYes (mLO (mLc (mRgv 4) (mgN 7) mYes (mFz (mCall [] m_answer_of_numbers (mCons (mIx2 2 (mVar 7) (mVar 6)) (mCons (mIx2 2 (mVar 6) (mVar 7)) (mCons (mC (.int 0)) mNil))))) [7])) [6])))))))))
theorem okxn_rule_of_ballots (T : Tx K mg ad fd w ca ia ifd) : FnOk P w K mg base (L2.CX P w) 5 (ad 7) (fd 7) ["size", "ballots"] (spX (clOf ca) x_rule_of_ballots) := by
  refine okXN T.F_rule_of_ballots sc_rule_of_ballots (fun vs H Q E h => byX_len h) (fun cdv A ou s H vs Q E hr h => ⟨_, (pss_cons (ps_expr (pe_callXN (okxn_check_size T) (hr.mono (by decide)) (by rfl) T.g_check_size T.F_check_size.kp T.b_check_size (fun σ => passAt (takes_of rfl rfl rfl rfl) σ) (pa_cons (pv 0) pa_nil)))
      (pss_cons (ps_expr (pe_callXN (okxn_check_ballots T) (hr.mono (by decide)) (by rfl) T.g_check_ballots T.F_check_ballots.kp T.b_check_ballots (fun σ => passAt (takes_of rfl rfl rfl rfl) σ) (pa_cons (pv 0) (pa_cons (pv 1) pa_nil))))
      (pss_cons (ps_set (i := 2) sc_rule_of_ballots.nd rfl (Or.inr rfl) (pe_callN (okn_square_of_zeros T) (hr.mono (by decide)) (by rfl) T.g_square_of_zeros T.F_square_of_zeros.kp T.b_square_of_zeros .nil (pa_cons (pv 0) pa_nil)))
      (pss_cons (ps_for (passes_of rfl) rfl (pi_listK (K := K) (pv 1)) (pg_name (i := 3) sc_rule_of_ballots.nd rfl (Or.inl rfl)) (pss_one (ps_for (passes_of rfl) rfl (pi_enumK (K := K) (by rfl) T.b_enumerate (pa_cons (pv 3) pa_nil)) (pg_tupK (K := K) rfl (pgs_cons (pg_name (i := 5) sc_rule_of_ballots.nd rfl (Or.inl rfl)) (pgs_cons (pg_name (i := 6) sc_rule_of_ballots.nd rfl (Or.inl rfl)) pgs_nil))) (pss_one (ps_for (passes_of rfl) rfl (pi_listK (K := K) (pe_slice (slK (K := K)) (pv 3) (po_some (pe_op op_add (pv 5) pe_int)) po_none)) (pg_name (i := 7) sc_rule_of_ballots.nd rfl (Or.inl rfl)) (pss_one (ps_augS (pe_ix (ixK (K := K)) (pv 2) (pv 6) (fun _ _ => rfl)) (pv 7) (getK (K := K)) pe_int ip_add set_list)))))))
      (pss_cons (ps_set (i := 4) sc_rule_of_ballots.nd rfl (Or.inr rfl) (pe_callTy rg1_call (by rfl) T.b_range (by decide +kernel) (pa_cons (pv 0) pa_nil)))
      (pss_one (ps_ret (pe_lc (own := [("one", 6)]) (g := gName 6) (tt := tYes) rfl sc_rule_of_ballots.nd (pi_rgv 4) (blkOk_by (own := [("one", 6)]) (by kernel_rfl)) (fun _ _ _ _ _ => (pg_name (i := 6) sc_rule_of_ballots.nd rfl (Or.inr rfl))) (fun _ _ _ _ _ => pts_nil) (fun _ _ _ _ _ => (pe_lc (own := [("other", 7)]) (g := gName 7) (tt := tYes) rfl sc_rule_of_ballots.nd (pi_rgv 4) (blkOk_by (own := [("other", 7)]) (by kernel_rfl)) (fun _ _ _ _ _ => (pg_name (i := 7) sc_rule_of_ballots.nd rfl (Or.inl rfl))) (fun _ _ _ _ _ => pts_nil) (fun _ _ _ _ _ => (pe_callN (okn_answer_of_numbers T) (hr.mono (by decide)) (by rfl) T.g_answer_of_numbers T.F_answer_of_numbers.kp T.b_answer_of_numbers .nil (pa_cons (pe_ix (ixK (K := K)) (pe_ix (ixK (K := K)) (pv 2) (pv 7) (fun _ _ => rfl)) (pv 6) (fun _ _ => rfl)) (pa_cons (pe_ix (ixK (K := K)) (pe_ix (ixK (K := K)) (pv 2) (pv 6) (fun _ _ => rfl)) (pv 7) (fun _ _ => rfl)) (pa_cons pe_int pa_nil))))))))))))))), ?_⟩)
  exact def_okX (N := ["size", "ballots", "votes", "ballot", "items", "place", "one", "other"]) (m := (xSeq (xCall x_check_size (mCons (mVar 0) mNil))
    (xSeq (xCall x_check_ballots (mCons (mVar 0) (mCons (mVar 1) mNil)))
    (xSeq (xLift (mAsgO 2 (mCall [] m_square_of_zeros (mCons (mVar 0) mNil))))
    (xSeq (xLift (mFor (mItL (mVar 1)) (mgN 3) (mFor (mEnum (mCons (mVar 3) mNil)) (mgT [5, 6]) (mFor (mItL (mLE (mSl (mVar 3) (mPart (mBin (gI0 fun i j => .int (i + j)) (mVar 5) (mC (.int 1)))) mNoPart))) (mgN 7) (mAug2 2 (mVar 6) (mVar 7) 1)))))
    (xSeq (xLift (mAsgO 4 (mRg1 (mCons (mVar 0) mNil))))
    (xLift (mForget [5, 6, 7, 3] (mRetO (mLc2 (mRgv 4) (mgN 6) mYes (mLO (mLc (mRgv 4) (mgN 7) mYes (mFz (mCall [] m_answer_of_numbers (mCons (mIx2 2 (mVar 7) (mVar 6)) (mCons (mIx2 2 (mVar 6) (mVar 7)) (mCons (mC (.int 0)) mNil))))) [7])) [6])))))))))) ((rx_seq (rx_call (ra_cons re_var ra_nil))
      (rx_seq (rx_call (ra_cons re_var (ra_cons re_var ra_nil)))
      (rx_seq (rx_lift (rs_asgO (ro_call (ra_cons re_var ra_nil))))
      (rx_seq (rx_lift (rs_for (ri_list re_var) rg_name (rs_for (ri_enum (ra_cons re_var ra_nil)) (rg_tup (rgs_cons (rgs_cons rgs_nil))) (rs_for (ri_list (re_l (rl_sl re_var (rq_some (re_bin re_var re_int b_add)) rq_none))) rg_name (rs_aug2 re_var re_var re_int)))))
      (rx_seq (rx_lift (rs_asgO (ro_rg1 (ra_cons re_var ra_nil))))
      (rx_lift (rs_forget (is := [5, 6, 7, 3]) (rs_retO (ro_lc2 ri_rgv rg_name rt_yes (ro_lc ri_rgv rg_name rt_yes (re_o (ro_call (ra_cons (re_ix2 re_var re_var) (ra_cons (re_ix2 re_var re_var) (ra_cons re_int ra_nil)))))))))))))))) h
theorem okx_rule_of_ballots (T : Tx K mg ad fd w ca ia ifd) : FnX P w K mg base 5 (ad 7) (fd 7) ["size", "ballots"] (spX (clOf ca) x_rule_of_ballots) := FnX.of (okxn_rule_of_ballots T)
def m__law_draws : MF := mDef 1 1 []
    (mRetO (mLO (mDs (mCons (mBin gMod (mFn gInt (mCons (mVar 0) mNil)) (mBin gPow (mBin gPow (mBin gPow (mC (.int 10)) (mC (.int 60))) (mC (.int 60))) (mC (.int 4)))) (mCons (mC (.int 0)) (mCons (mBin (gI0 fun i j => .bool (decide (j ≤ i))) (mVar 0) (mBin gPow (mC (.int 10)) (mC (.int 18)))) mNil))))))
theorem ok__law_draws (T : Tx K mg ad fd w ca ia ifd) : FnG P w K mg base 1 (ad 8) (fd 8) ["cell"] (spOf [] m__law_draws) := by
  refine okG T.F__law_draws sc__law_draws (fun vs H Q E h => by_len h) (fun cdv A ou s H vs Q E hr gu h => ⟨_, (pss_one (ps_ret (pe_lst (pa_cons (pe_op op_modN (pe_callTy call_int1 (by rfl) T.b_int (by decide +kernel) (pa_cons (pv 0) pa_nil)) (pe_op op_powX (pe_op op_powX (pe_op op_powX pe_int pe_int) pe_int) pe_int)) (pa_cons pe_int (pa_cons (pe_cmpR op_ge (pv 0) (pe_op op_powX pe_int pe_int) (nomark _)) pa_nil)))))), ?_⟩)
  exact def_ok (N := ["cell"]) (m := (mRetO (mLO (mDs (mCons (mBin gMod (mFn gInt (mCons (mVar 0) mNil)) (mBin gPow (mBin gPow (mBin gPow (mC (.int 10)) (mC (.int 60))) (mC (.int 60))) (mC (.int 4)))) (mCons (mC (.int 0)) (mCons (mBin (gI0 fun i j => .bool (decide (j ≤ i))) (mVar 0) (mBin gPow (mC (.int 10)) (mC (.int 18)))) mNil))))))) ((rs_retO (ro_l (rl_lst (ra_cons (re_bin (re_fn (ra_cons re_var ra_nil) f_int) (re_bin (re_bin (re_bin re_int re_int b_pow) re_int b_pow) re_int b_pow) b_mod) (ra_cons re_int (ra_cons (re_bin re_var (re_bin re_int re_int b_pow) b_ge) ra_nil))) (len_cons (len_cons (len_cons len_nil))))))) h
def m__law_next : MF := mDef 3 1 [0]
    (mSeq (mSetI 0 (mC (.int 1)) (mBin (gI0 fun i j => .int (i + j)) (mBin gIx (mVar 0) (mC (.int 1))) (mC (.int 1))))
    (mSeq (mAsg (mBin gIx (mVar 0) (mC (.int 1))) (mgN 1))
    (mSeq (mIf (mT (mBin gIx (mVar 0) (mC (.int 2)))) (mSeq (mAsg (mBin gMod (mFn gInt (mCons (mBin gIx (mVar 0) (mC (.int 0))) mNil)) (mBin gPow (mC (.int 10)) (mC (.int 6)))) (mgN 2))
    (mSeq (mSetI 0 (mC (.int 0)) (mBin gFdiv (mBin gIx (mVar 0) (mC (.int 0))) (mBin gPow (mC (.int 10)) (mC (.int 6)))))
    (mRet (mVar 2)))) mNext)
    (mSeq (mAsg (mBin gMod (mFn gInt (mCons (mBin gMul (mBin (gI0 fun i j => .int (i + j)) (mBin (gI0 fun i j => .int (i + j)) (mBin gMod (mFn gInt (mCons (mBin gIx (mVar 0) (mC (.int 0))) mNil)) (mC (.int 1000003))) (mBin gMul (mBin gMul (mVar 1) (mVar 1)) (mC (.int 7919)))) (mVar 1)) (mC (.int 48271))) mNil)) (mC (.int 2147483629))) (mgN 2))
    (mSeq (mAsg (mBin gMod (mFn gInt (mCons (mBin gMul (mVar 2) (mVar 2)) mNil)) (mC (.int 2147483587))) (mgN 2))
    (mRet (mBin gFdiv (mBin gMod (mFn gInt (mCons (mBin gMul (mVar 2) (mBin (gI0 fun i j => .int (i + j)) (mVar 2) (mC (.int 2)))) mNil)) (mC (.int 2147483579))) (mC (.int 7)))))))))
theorem ok__law_next (T : Tx K mg ad fd w ca ia ifd) : FnG P w K mg base 1 (ad 9) (fd 9) ["draws"] (spOf [0] m__law_next) := by
  refine okG T.F__law_next sc__law_next (fun vs H Q E h => by_len h) (fun cdv A ou s H vs Q E hr gu h => ⟨_, (pss_cons (ps_asg (pe_op op_add (pe_ix (ixK (K := K)) (pv 0) pe_int (fun _ _ => rfl)) pe_int) (pg_sub (pv 0) pe_int set_list))
      (pss_cons (ps_set (i := 1) sc__law_next.nd rfl (Or.inl rfl) (pe_ix (ixK (K := K)) (pv 0) pe_int (fun _ _ => rfl)))
      (pss_cons (ps_if (pt_val (pe_ix (ixK (K := K)) (pv 0) pe_int (fun _ _ => rfl))) (pss_cons (ps_set (i := 2) sc__law_next.nd rfl (Or.inl rfl) (pe_op op_modN (pe_callTy call_int1 (by rfl) T.b_int (by decide +kernel) (pa_cons (pe_ix (ixK (K := K)) (pv 0) pe_int (fun _ _ => rfl)) pa_nil)) (pe_op op_powX pe_int pe_int)))
      (pss_cons (ps_asg (pe_op op_fdivN (pe_ix (ixK (K := K)) (pv 0) pe_int (fun _ _ => rfl)) (pe_op op_powX pe_int pe_int)) (pg_sub (pv 0) pe_int set_list))
      (pss_one (ps_ret (pv 2))))) pss_nil)
      (pss_cons (ps_set (i := 2) sc__law_next.nd rfl (Or.inl rfl) (pe_op op_modN (pe_callTy call_int1 (by rfl) T.b_int (by decide +kernel) (pa_cons (pe_op op_mulW (pe_op op_add (pe_op op_add (pe_op op_modN (pe_callTy call_int1 (by rfl) T.b_int (by decide +kernel) (pa_cons (pe_ix (ixK (K := K)) (pv 0) pe_int (fun _ _ => rfl)) pa_nil)) pe_int) (pe_op op_mulW (pe_op op_mulW (pv 1) (pv 1)) pe_int)) (pv 1)) pe_int) pa_nil)) pe_int))
      (pss_cons (ps_set (i := 2) sc__law_next.nd rfl (Or.inl rfl) (pe_op op_modN (pe_callTy call_int1 (by rfl) T.b_int (by decide +kernel) (pa_cons (pe_op op_mulW (pv 2) (pv 2)) pa_nil)) pe_int))
      (pss_one (ps_ret (pe_op op_fdivN (pe_op op_modN (pe_callTy call_int1 (by rfl) T.b_int (by decide +kernel) (pa_cons (pe_op op_mulW (pv 2) (pe_op op_add (pv 2) pe_int)) pa_nil)) pe_int) pe_int)))))))), ?_⟩)
  exact def_ok (N := ["draws", "k", "number"]) (m := (mSeq (mSetI 0 (mC (.int 1)) (mBin (gI0 fun i j => .int (i + j)) (mBin gIx (mVar 0) (mC (.int 1))) (mC (.int 1))))
    (mSeq (mAsg (mBin gIx (mVar 0) (mC (.int 1))) (mgN 1))
    (mSeq (mIf (mT (mBin gIx (mVar 0) (mC (.int 2)))) (mSeq (mAsg (mBin gMod (mFn gInt (mCons (mBin gIx (mVar 0) (mC (.int 0))) mNil)) (mBin gPow (mC (.int 10)) (mC (.int 6)))) (mgN 2))
    (mSeq (mSetI 0 (mC (.int 0)) (mBin gFdiv (mBin gIx (mVar 0) (mC (.int 0))) (mBin gPow (mC (.int 10)) (mC (.int 6)))))
    (mRet (mVar 2)))) mNext)
    (mSeq (mAsg (mBin gMod (mFn gInt (mCons (mBin gMul (mBin (gI0 fun i j => .int (i + j)) (mBin (gI0 fun i j => .int (i + j)) (mBin gMod (mFn gInt (mCons (mBin gIx (mVar 0) (mC (.int 0))) mNil)) (mC (.int 1000003))) (mBin gMul (mBin gMul (mVar 1) (mVar 1)) (mC (.int 7919)))) (mVar 1)) (mC (.int 48271))) mNil)) (mC (.int 2147483629))) (mgN 2))
    (mSeq (mAsg (mBin gMod (mFn gInt (mCons (mBin gMul (mVar 2) (mVar 2)) mNil)) (mC (.int 2147483587))) (mgN 2))
    (mRet (mBin gFdiv (mBin gMod (mFn gInt (mCons (mBin gMul (mVar 2) (mBin (gI0 fun i j => .int (i + j)) (mVar 2) (mC (.int 2)))) mNil)) (mC (.int 2147483579))) (mC (.int 7)))))))))) ((rs_seq (rs_setI (re_bin (re_bin re_var re_int b_ix) re_int b_add) re_int)
      (rs_seq (rs_asg (re_bin re_var re_int b_ix) rg_name)
      (rs_seq (rs_if (rt_B (re_bin re_var re_int b_ix)) (rs_seq (rs_asg (re_bin (re_fn (ra_cons (re_bin re_var re_int b_ix) ra_nil) f_int) (re_bin re_int re_int b_pow) b_mod) rg_name)
      (rs_seq (rs_setI (re_bin (re_bin re_var re_int b_ix) (re_bin re_int re_int b_pow) b_fdiv) re_int)
      (rs_ret re_var))) rs_next)
      (rs_seq (rs_asg (re_bin (re_fn (ra_cons (re_bin (re_bin (re_bin (re_bin (re_fn (ra_cons (re_bin re_var re_int b_ix) ra_nil) f_int) re_int b_mod) (re_bin (re_bin re_var re_var b_mul) re_int b_mul) b_add) re_var b_add) re_int b_mul) ra_nil) f_int) re_int b_mod) rg_name)
      (rs_seq (rs_asg (re_bin (re_fn (ra_cons (re_bin re_var re_var b_mul) ra_nil) f_int) re_int b_mod) rg_name)
      (rs_ret (re_bin (re_bin (re_fn (ra_cons (re_bin re_var (re_bin re_var re_int b_add) b_mul) ra_nil) f_int) re_int b_mod) re_int b_fdiv)))))))) h
def m__law_ballot : MF := mDef 4 2 [0]
    (mSeq (mAsgO 2 (mLO (mLRg1 (mVar 1))))
    (mSeq (mAsgO 3 (mLO (mDs mNil)))
    (mSeq (mWhile (mT (mBin (gEq true) (mVar 2) (mLE (mDs mNil)))) (mApp 3 (mCons (mPopAt 2 (mCons (mBin gMod (mFn gInt (mCons (mFz (mCall [0] m__law_next (mCons (mVar 0) mNil))) mNil)) (mFn gLen (mCons (mVar 2) mNil))) mNil)) mNil)) 1000)
    (mRetV 3))))
theorem ok__law_ballot (T : Tx K mg ad fd w ca ia ifd) : FnG P w K mg base 2 (ad 10) (fd 10) ["draws", "many"] (spOf [0] m__law_ballot) := by
  refine okG T.F__law_ballot sc__law_ballot (fun vs H Q E h => by_len h) (fun cdv A ou s H vs Q E hr gu h => ⟨_, (pss_cons (ps_set (i := 2) sc__law_ballot.nd rfl (Or.inl rfl) (pe_listRg rfl (by rfl) T.b_list (prg_1 (by rfl) T.b_range (pv 1))))
      (pss_cons (ps_set (i := 3) sc__law_ballot.nd rfl (Or.inl rfl) (pe_lst pa_nil))
      (pss_cons (ps_while PassesOwn.never (pt_cmpR (neK (K := K) hr.units) (pv 2) (pe_lst pa_nil) (nomark _)) (pss_one (ps_expr (bmK (K := K) (pe_bm PySem.F.plainAttrs_list PySem.F.slot_list_append PySem.F.type_list_append mt_append (pv 3) (pa_cons (bmK (K := K) (pe_bm PySem.F.plainAttrs_list PySem.F.slot_list_pop PySem.F.type_list_pop mt_popAt (pv 2) (pa_cons (pe_op op_modN (pe_callTy call_int1 (by rfl) T.b_int (by decide +kernel) (pa_cons (pe_callG (ok__law_next T) (hr.mono (by decide)) gu (by rfl) T.g__law_next T.F__law_next.kp T.b__law_next .nil (pa_cons (pv 0) pa_nil)) pa_nil)) (pe_callB (lenK (K := K)) (by rfl) T.b_len PySem.boot_len (pa_cons (pv 2) pa_nil))) pa_nil))) pa_nil))))))
      (pss_one (ps_ret (pv 3)))))), ?_⟩)
  exact def_ok (N := ["draws", "many", "left", "told"]) (m := (mSeq (mAsgO 2 (mLO (mLRg1 (mVar 1))))
    (mSeq (mAsgO 3 (mLO (mDs mNil)))
    (mSeq (mWhile (mT (mBin (gEq true) (mVar 2) (mLE (mDs mNil)))) (mApp 3 (mCons (mPopAt 2 (mCons (mBin gMod (mFn gInt (mCons (mFz (mCall [0] m__law_next (mCons (mVar 0) mNil))) mNil)) (mFn gLen (mCons (mVar 2) mNil))) mNil)) mNil)) 1000)
    (mRetV 3))))) ((rs_seq (rs_asgO (ro_l (rl_rg1 re_var)))
      (rs_seq (rs_asgO (ro_l (rl_lst ra_nil len_nil)))
      (rs_seq (rs_while 1000 (rt_test (re_bin re_var (re_l (rl_lst ra_nil len_nil)) b_ne)) (rs_app (ra_cons (re_popAt (ra_cons (re_bin (re_fn (ra_cons (re_o (ro_call (ra_cons re_var ra_nil))) ra_nil) f_int) (re_fn (ra_cons re_var ra_nil) f_len) b_mod) ra_nil)) ra_nil)))
      rs_retV)))) h
def m__law_lead : MF := mDef 5 3 []
    (mSeq (mAsg (mFn gLen (mCons (mLE (mLc (mItL (mVar 0)) (mgN 4) (mT (mBin (gI0 fun i j => .bool (decide (i < j))) (mIdx (mVar 4) (mVar 1)) (mIdx (mVar 4) (mVar 2)))) (mVar 4) [4])) mNil)) (mgN 3))
    (mRet (mBin (gI0 fun i j => .int (i - j)) (mBin gMul (mC (.int 2)) (mVar 3)) (mFn gLen (mCons (mVar 0) mNil)))))
theorem ok__law_lead (T : Tx K mg ad fd w ca ia ifd) : FnG P w K mg base 1 (ad 11) (fd 11) ["some", "one", "other"] (spOf [] m__law_lead) := by
  refine okG T.F__law_lead sc__law_lead (fun vs H Q E h => by_len h) (fun cdv A ou s H vs Q E hr gu h => ⟨_, (pss_cons (ps_set (i := 3) sc__law_lead.nd rfl (Or.inl rfl) (pe_callB (lenK (K := K)) (by rfl) T.b_len PySem.boot_len (pa_cons (pe_lc (own := [("ballot", 4)]) (g := gName 4) rfl sc__law_lead.nd (pi_listK (K := K) (pv 0)) (blkOk_by (own := [("ballot", 4)]) (by kernel_rfl)) (fun _ _ _ _ _ => (pg_name (i := 4) sc__law_lead.nd rfl (Or.inl rfl))) (fun _ _ _ _ _ => (pts_one (pt_cmpR op_lt (bmK (K := K) (pe_bm PySem.F.plainAttrs_list PySem.F.slot_list_index PySem.F.type_list_index (indexK (K := K)) (pv 4) (pa_cons (pv 1) pa_nil))) (bmK (K := K) (pe_bm PySem.F.plainAttrs_list PySem.F.slot_list_index PySem.F.type_list_index (indexK (K := K)) (pv 4) (pa_cons (pv 2) pa_nil))) (nomark _)))) (fun _ _ _ _ _ => (pv 4))) pa_nil)))
      (pss_one (ps_ret (pe_op op_sub (pe_op op_mulW pe_int (pv 3)) (pe_callB (lenK (K := K)) (by rfl) T.b_len PySem.boot_len (pa_cons (pv 0) pa_nil)))))), ?_⟩)
  exact def_ok (N := ["some", "one", "other", "ahead", "ballot"]) (m := (mSeq (mAsg (mFn gLen (mCons (mLE (mLc (mItL (mVar 0)) (mgN 4) (mT (mBin (gI0 fun i j => .bool (decide (i < j))) (mIdx (mVar 4) (mVar 1)) (mIdx (mVar 4) (mVar 2)))) (mVar 4) [4])) mNil)) (mgN 3))
    (mRet (mBin (gI0 fun i j => .int (i - j)) (mBin gMul (mC (.int 2)) (mVar 3)) (mFn gLen (mCons (mVar 0) mNil)))))) ((rs_seq (rs_asg (re_fn (ra_cons (re_lc (ri_list re_var) rg_name (rt_test (re_bin (re_idx re_var re_var) (re_idx re_var re_var) b_lt)) re_var) ra_nil) f_len) rg_name)
      (rs_ret (re_bin (re_bin re_int re_var b_mul) (re_fn (ra_cons re_var ra_nil) f_len) b_sub)))) h
def m__law_by_ballots : MF := mDef 7 2 []
    (mSeq (mAsgO 2 (mLO (mDs mNil)))
    (mSeq (mFor (mRng1 (mCons (mVar 0) mNil)) (mgN 3) (mSeq (mAsg (mLE (mLc (mRng1 (mCons (mVar 0) mNil)) (mgN 5) mYes (mIf (mT (mBin (gEq false) (mVar 3) (mVar 5))) (mC (.int 0)) (mFz (mCall [] m__law_lead (mCons (mVar 1) (mCons (mVar 3) (mCons (mVar 5) mNil)))))) [5])) (mgN 4))
    (mApp 2 (mCons (mLE (mLc (mItL (mVar 4)) (mgN 6) mYes (mBin (gI0 fun i j => .int (i - j)) (mFn gInt (mCons (mBin (gI0 fun i j => .bool (decide (i < j))) (mVar 6) (mC (.int 0))) mNil)) (mFn gInt (mCons (mBin (gI0 fun i j => .bool (decide (j < i))) (mVar 6) (mC (.int 0))) mNil))) [6])) mNil))))
    (mRetV 2)))
theorem ok__law_by_ballots (T : Tx K mg ad fd w ca ia ifd) : FnG P w K mg base 2 (ad 12) (fd 12) ["many", "some"] (spOf [] m__law_by_ballots) := by
  refine okG T.F__law_by_ballots sc__law_by_ballots (fun vs H Q E h => by_len h) (fun cdv A ou s H vs Q E hr gu h => ⟨_, (pss_cons (ps_set (i := 2) sc__law_by_ballots.nd rfl (Or.inl rfl) (pe_lst pa_nil))
      (pss_cons (ps_for PassesOwn.never rfl (pi_range1 (by rfl) T.b_range (pa_cons (pv 0) pa_nil)) (pg_name (i := 3) sc__law_by_ballots.nd rfl (Or.inr rfl)) (pss_cons (ps_setLc (i := 4) (own := [("other", 5)]) (g := gName 5) (tt := tYes) rfl sc__law_by_ballots.nd rfl rfl (sw_true rfl rfl rfl (by decide +kernel)) (pi_range1 (by rfl) T.b_range (pa_cons (pv 0) pa_nil)) (blkOk_by (own := [("other", 5)]) (by kernel_rfl)) (fun _ _ _ _ _ => (pg_name (i := 5) sc__law_by_ballots.nd rfl (Or.inl rfl))) (fun _ _ _ _ _ => pts_nil) (fun _ _ _ _ _ => (pe_ifExp (pt_cmpR (eqK (K := K) hr.units) (pv 3) (pv 5) (nomark _)) pe_int (pe_callG (ok__law_lead T) (hr.mono (by decide)) gu (by rfl) T.g__law_lead T.F__law_lead.kp T.b__law_lead .nil (pa_cons (pv 1) (pa_cons (pv 3) (pa_cons (pv 5) pa_nil)))))))
      (pss_one (ps_expr (bmK (K := K) (pe_bm PySem.F.plainAttrs_list PySem.F.slot_list_append PySem.F.type_list_append mt_append (pv 2) (pa_cons (pe_lc (own := [("lead", 6)]) (g := gName 6) (tt := tYes) rfl sc__law_by_ballots.nd (pi_listK (K := K) (pv 4)) (blkOk_by (own := [("lead", 6)]) (by kernel_rfl)) (fun _ _ _ _ _ => (pg_name (i := 6) sc__law_by_ballots.nd rfl (Or.inl rfl))) (fun _ _ _ _ _ => pts_nil) (fun _ _ _ _ _ => (pe_op op_sub (pe_callTy call_int1 (by rfl) T.b_int (by decide +kernel) (pa_cons (pe_cmpR op_lt (pv 6) pe_int (nomark _)) pa_nil)) (pe_callTy call_int1 (by rfl) T.b_int (by decide +kernel) (pa_cons (pe_cmpR op_gt (pv 6) pe_int (nomark _)) pa_nil))))) pa_nil)))))))
      (pss_one (ps_ret (pv 2))))), ?_⟩)
  exact def_ok (N := ["many", "some", "told", "one", "leads", "other", "lead"]) (m := (mSeq (mAsgO 2 (mLO (mDs mNil)))
    (mSeq (mFor (mRng1 (mCons (mVar 0) mNil)) (mgN 3) (mSeq (mAsg (mLE (mLc (mRng1 (mCons (mVar 0) mNil)) (mgN 5) mYes (mIf (mT (mBin (gEq false) (mVar 3) (mVar 5))) (mC (.int 0)) (mFz (mCall [] m__law_lead (mCons (mVar 1) (mCons (mVar 3) (mCons (mVar 5) mNil)))))) [5])) (mgN 4))
    (mApp 2 (mCons (mLE (mLc (mItL (mVar 4)) (mgN 6) mYes (mBin (gI0 fun i j => .int (i - j)) (mFn gInt (mCons (mBin (gI0 fun i j => .bool (decide (i < j))) (mVar 6) (mC (.int 0))) mNil)) (mFn gInt (mCons (mBin (gI0 fun i j => .bool (decide (j < i))) (mVar 6) (mC (.int 0))) mNil))) [6])) mNil))))
    (mRetV 2)))) ((rs_seq (rs_asgO (ro_l (rl_lst ra_nil len_nil)))
      (rs_seq (rs_for (ri_rng1 (ra_cons re_var ra_nil)) rg_name (rs_seq (rs_asg (re_lc (ri_rng1 (ra_cons re_var ra_nil)) rg_name rt_yes (re_if (rt_test (re_bin re_var re_var b_eq)) re_int (re_o (ro_call (ra_cons re_var (ra_cons re_var (ra_cons re_var ra_nil))))))) rg_name)
      (rs_app (ra_cons (re_lc (ri_list re_var) rg_name rt_yes (re_bin (re_fn (ra_cons (re_bin re_var re_int b_lt) ra_nil) f_int) (re_fn (ra_cons (re_bin re_var re_int b_gt) ra_nil) f_int) b_sub)) ra_nil))))
      rs_retV))) h
def m__law_kept : MF := fun _ => none
theorem ok__law_kept (T : Tx K mg ad fd w ca ia ifd) : FnG P w K mg base 1 (ad 13) (fd 13) ["ask"] (spOf [] m__law_kept) := stubG
def m__law_right : MF := mDef 14 1 [0]
    (mSeq (mAsg (mBin gMod (mFn gInt (mCons (mFz (mCall [0] m__law_next (mCons (mVar 0) mNil))) mNil)) (mC (.int 13))) (mgN 1))
    (mSeq (mAsg (mLE (mLc (mRng1 (mCons (mBin gMod (mFn gInt (mCons (mFz (mCall [0] m__law_next (mCons (mVar 0) mNil))) mNil)) (mBin gIx (mLE (mDs (mCons (mC (.int 7)) (mCons (mC (.int 30)) mNil)))) (mBin gMod (mFn gInt (mCons (mFz (mCall [0] m__law_next (mCons (mVar 0) mNil))) mNil)) (mC (.int 2))))) mNil)) (mgN 11) mYes (mFz (mCall [0] m__law_ballot (mCons (mVar 0) (mCons (mVar 1) mNil)))) [11])) (mgN 2))
    (mSeq (mAsg (mLE (mBinL gCat (mVar 2) (mLE (mLc (mItL (mLE (mSl (mVar 2) mNoPart (mPart (mBin gMod (mFn gInt (mCons (mFz (mCall [0] m__law_next (mCons (mVar 0) mNil))) mNil)) (mC (.int 4))))))) (mgN 12) mYes (mLE (mFnL gListOf (mCons (mVar 12) mNil))) [12])))) (mgN 2))
    (mSeq (mAsg (mFn gRepr (mCons (mVar 2) mNil)) (mgN 3))
    (mSeq (mAsg (mFz (mCall [] m__law_by_ballots (mCons (mVar 1) (mCons (mVar 2) mNil)))) (mgN 4))
    (mSeq (mAsg2 8 9 (mCall [] m_rule_of_ballots (mCons (mVar 1) (mCons (mVar 2) mNil))) (mCallN [] [1, 0] m_rule_of_ballots mNil (mCons (mVar 2) (mCons (mVar 1) mNil))))
    (mSeq (mIf (mOr (mT (mBin (gEq true) (mReprV [8, 9]) (mFn gRepr (mCons (mLE (mDs (mCons (mVar 4) (mCons (mVar 4) mNil)))) mNil)))) (mT (mBin (gEq true) (mFn gRepr (mCons (mVar 2) mNil)) (mVar 3)))) (mRet (mC (.bool false))) mNext)
    (mSeq (mAppG 8 (mCons (mC .none) mNil))
    (mSeq (mIf (mT (mBin (gI0 fun i j => .bool (decide (j < i))) (mVar 1) (mC (.int 0)))) (mAlias 9 10 (mUn gNeg (mC (.int 1))) (mCons (mC .none) mNil)
    (mIf (mT (mBin (gEq true) (mScoped 9 (mFn gLen (mCons (mLE (mLc (mItL (mVar 9)) (mgN 13) (mT (mBin (gIn false) (mC .none) (mVar 13))) (mVar 13) [13])) mNil))) (mC (.int 1)))) (mRet (mC (.bool false))) mNext)) mNext)
    (mSeq (mIf (mT (mBin (gEq true) (mFz (mCall [] m_rule_of_ballots (mCons (mVar 1) (mCons (mVar 2) mNil)))) (mVar 4))) (mRet (mC (.bool false))) mNext)
    (mSeq (mFor (mItL (mLE (mDs (mCons (mUn gNeg (mC (.int 1))) (mCons (mC (.int 13)) (mCons (mC .none) (mCons (mC (.bool true)) (mCons (mC (.str (Str.ofString "3"))) (mCons (mLE (mDs (mCons (mC (.int 3)) mNil))) mNil))))))))) (mgN 5) (mIf (mT (mBin (gEq true) (mLamK (Str.ofString "told") (mkTwo 0 1 (Str.ofString "size") (Str.ofString "ballots")) x_rule_of_ballots (mCons (mVar 5) (mCons (mC .none) mNil))) (mFn gRepr (mCons (mLE (mDs (mCons (mC (.str (Str.ofString "size"))) (mCons (mVar 5) mNil)))) mNil)))) (mRet (mC (.bool false))) mNext))
    (mSeq (mAsg (mLE (mLRg1 (mVar 1))) (mgN 6))
    (mSeq (mAsg (mLE (mDs (mCons (mC .none) (mCons (mFn gTupleOf (mCons (mVar 6) mNil)) (mCons (mLE (mBinL gCat (mVar 6) (mLE (mDs (mCons (mVar 1) mNil))))) (mCons (mLE (mBinL gCat (mVar 6) (mLE (mDs (mCons (mC (.int 0)) mNil))))) (mCons (mLE (mBinL gRep (mLE (mDs (mCons (mC .none) mNil))) (mBin (gI0 fun i j => .int (i + j)) (mVar 1) (mC (.int 1))))) (mCons (mC (.str (Str.ofString ""))) (mCons mDict (mCons (mC (.int 5)) mNil)))))))))) (mgN 7))
    (mSeq (mAsg (mLE (mBinL gCat (mVar 7) (mLE (mBinL gRep (mLE (mDs (mCons (mLE (mSl (mVar 6) mNoPart (mPart (mUn gNeg (mC (.int 1)))))) (mCons (mLE (mBinL gCat (mLE (mSl (mVar 6) (mPart (mC (.int 1))) mNoPart)) (mLE (mSl (mVar 6) (mPart (mC (.int 1))) (mPart (mC (.int 2))))))) mNil)))) (mFn gInt (mCons (mBin (gI0 fun i j => .bool (decide (j < i))) (mVar 1) (mC (.int 2))) mNil)))))) (mgN 7))
    (mSeq (mAsg (mLE (mBinL gCat (mVar 7) (mLE (mBinL gRep (mLE (mDs (mCons (mLE (mBinL gCat (mLE (mSl (mVar 6) mNoPart (mPart (mUn gNeg (mC (.int 1)))))) (mLE (mDs (mCons (mVar 1) mNil))))) (mCons (mLE (mBinL gCat (mLE (mSl (mVar 6) mNoPart (mPart (mUn gNeg (mC (.int 1)))))) (mLE (mDs (mCons (mUn gNeg (mC (.int 1))) mNil))))) mNil)))) (mFn gInt (mCons (mBin (gI0 fun i j => .bool (decide (j < i))) (mVar 1) (mC (.int 0))) mNil)))))) (mgN 7))
    (mSeq (mAsg (mLE (mBinL gCat (mVar 7) (mLE (mBinL gRep (mLE (mDs (mCons (mLE (mBinL gCat (mLE (mDs (mCons (mC (.bool false)) (mCons (mC (.bool true)) mNil)))) (mLE (mSl (mVar 6) (mPart (mC (.int 2))) mNoPart)))) (mCons (mLE (mBinL gCat (mLE (mSl (mVar 6) mNoPart (mPart (mUn gNeg (mC (.int 1)))))) (mLE (mDs (mCons (mFn gStrI (mCons (mBin (gI0 fun i j => .int (i - j)) (mVar 1) (mC (.int 1))) mNil)) mNil))))) mNil)))) (mFn gInt (mCons (mBin (gI0 fun i j => .bool (decide (j < i))) (mVar 1) (mC (.int 1))) mNil)))))) (mgN 7))
    (mSeq (mAsg (mLE (mBinL gCat (mVar 7) (mLE (mBinL gRep (mLE (mDs (mCons (mLE (mBinL gCat (mLE (mSl (mVar 6) mNoPart (mPart (mUn gNeg (mC (.int 1)))))) (mLE (mDs (mCons (mLE (mDs (mCons (mBin (gI0 fun i j => .int (i - j)) (mVar 1) (mC (.int 1))) mNil))) mNil))))) (mCons (mLE (mBinL gCat (mLE (mSl (mVar 6) mNoPart (mPart (mUn gNeg (mC (.int 1)))))) (mLE (mDs (mCons (mC .none) mNil))))) mNil)))) (mFn gInt (mCons (mBin (gI0 fun i j => .bool (decide (j < i))) (mVar 1) (mC (.int 0))) mNil)))))) (mgN 7))
    (mSeq (mAsg (mLE (mBinL gCat (mVar 7) (mLE (mBinL gRep (mLE (mDs (mCons (mLE (mBinL gCat (mLE (mSl (mVar 6) mNoPart (mPart (mUn gNeg (mC (.int 3)))))) (mLE (mBinL gRep (mLE (mDs (mCons (mBin (gI0 fun i j => .int (i - j)) (mVar 1) (mC (.int 2))) mNil))) (mC (.int 3)))))) mNil))) (mFn gInt (mCons (mBin (gI0 fun i j => .bool (decide (j < i))) (mVar 1) (mC (.int 2))) mNil)))))) (mgN 7))
    (mSeq (mFor (mItL (mVar 7)) (mgN 5) (mIf (mT (mBin (gEq true) (mLamK (Str.ofString "told") (mkTwo 0 1 (Str.ofString "size") (Str.ofString "ballots")) x_rule_of_ballots (mCons (mVar 1) (mCons (mLE (mBinL gCat (mVar 2) (mLE (mDs (mCons (mVar 5) (mCons (mC .none) mNil)))))) mNil))) (mFn gRepr (mCons (mLE (mDs (mCons (mC (.str (Str.ofString "ballots"))) (mCons (mFn gLen (mCons (mVar 2) mNil)) mNil)))) mNil)))) (mRet (mC (.bool false))) mNext))
    (mSeq (mFor (mItL (mLE (mDs (mCons (mC .none) (mCons (mTup mNil) (mCons (mC (.str (Str.ofString ""))) (mCons mDict (mCons (mC (.int 5)) mNil)))))))) (mgN 5) (mIf (mT (mBin (gEq true) (mLamK (Str.ofString "told") (mkTwo 0 1 (Str.ofString "size") (Str.ofString "ballots")) x_rule_of_ballots (mCons (mVar 1) (mCons (mVar 5) mNil))) (mFn gRepr (mCons (mLE (mDs (mCons (mC (.str (Str.ofString "ballots"))) (mCons (mC .none) mNil)))) mNil)))) (mRet (mC (.bool false))) mNext))
    (mRet (mC (.bool true)))))))))))))))))))))))
theorem ok__law_right (T : Tx K mg ad fd w ca ia ifd) (BB : BaseT mg base) : FnG P w K mg base 10 (ad 14) (fd 14) ["draws"] (spOf [0] m__law_right) := by
  obtain ⟨lp, lc0, lb, lt, lu⟩ := T.lm__law_right.ex
  refine okGL T.F__law_right sc__law_right (fun vs H Q E h => by_len h) (fun cdv A ou s H vs Q E hcd hr gu h => ?_)
  have lc : cdv = .ref lp.1 := hcd.symm.trans lc0
  refine ⟨_, (pss_cons (ps_set (i := 1) sc__law_right.nd rfl (Or.inr rfl) (pe_op op_modN (pe_callTy call_int1 (by rfl) T.b_int (by decide +kernel) (pa_cons (pe_callG (ok__law_next T) (hr.mono (by decide)) gu (by rfl) T.g__law_next T.F__law_next.kp T.b__law_next .nil (pa_cons (pv 0) pa_nil)) pa_nil)) pe_int))
      (pss_cons (ps_set (i := 2) sc__law_right.nd rfl (Or.inr rfl) (pe_lc (own := [("k", 11)]) (g := gName 11) (tt := tYes) rfl sc__law_right.nd (pi_range1 (by rfl) T.b_range (pa_cons (pe_op op_modN (pe_callTy call_int1 (by rfl) T.b_int (by decide +kernel) (pa_cons (pe_callG (ok__law_next T) (hr.mono (by decide)) gu (by rfl) T.g__law_next T.F__law_next.kp T.b__law_next .nil (pa_cons (pv 0) pa_nil)) pa_nil)) (pe_ix (ixK (K := K)) (pe_lst (pa_cons pe_int (pa_cons pe_int pa_nil))) (pe_op op_modN (pe_callTy call_int1 (by rfl) T.b_int (by decide +kernel) (pa_cons (pe_callG (ok__law_next T) (hr.mono (by decide)) gu (by rfl) T.g__law_next T.F__law_next.kp T.b__law_next .nil (pa_cons (pv 0) pa_nil)) pa_nil)) pe_int) (fun _ _ => rfl))) pa_nil)) (blkOk_by (own := [("k", 11)]) (by kernel_rfl)) (fun _ _ _ _ _ => (pg_name (i := 11) sc__law_right.nd rfl (Or.inl rfl))) (fun _ _ _ _ _ => pts_nil) (fun _ _ _ _ _ => (pe_callG (ok__law_ballot T) (hr.mono (by decide)) gu (by rfl) T.g__law_ballot T.F__law_ballot.kp T.b__law_ballot .nil (pa_cons (pv 0) (pa_cons (pv 1) pa_nil))))))
      (pss_cons (ps_set (i := 2) sc__law_right.nd rfl (Or.inr rfl) (pe_op op_cat (pv 2) (pe_lc (own := [("ballot", 12)]) (g := gName 12) (tt := tYes) rfl sc__law_right.nd (pi_listK (K := K) (pe_slice (slK (K := K)) (pv 2) po_none (po_some (pe_op op_modN (pe_callTy call_int1 (by rfl) T.b_int (by decide +kernel) (pa_cons (pe_callG (ok__law_next T) (hr.mono (by decide)) gu (by rfl) T.g__law_next T.F__law_next.kp T.b__law_next .nil (pa_cons (pv 0) pa_nil)) pa_nil)) pe_int)))) (blkOk_by (own := [("ballot", 12)]) (by kernel_rfl)) (fun _ _ _ _ _ => (pg_name (i := 12) sc__law_right.nd rfl (Or.inl rfl))) (fun _ _ _ _ _ => pts_nil) (fun _ _ _ _ _ => (pe_callTy (listK (K := K)) (by rfl) T.b_list (by decide +kernel) (pa_cons (pv 12) pa_nil))))))
      (pss_cons (ps_set (i := 3) sc__law_right.nd rfl (Or.inl rfl) (pe_callB (call_repr gu hr.units) (by rfl) T.b_repr (by decide +kernel) (pa_cons (pv 2) pa_nil)))
      (pss_cons (ps_set (i := 4) sc__law_right.nd rfl (Or.inl rfl) (pe_callG (ok__law_by_ballots T) (hr.mono (by decide)) gu (by rfl) T.g__law_by_ballots T.F__law_by_ballots.kp T.b__law_by_ballots .nil (pa_cons (pv 1) (pa_cons (pv 2) pa_nil))))
      (pss_cons (ps_par (by rfl) sc__law_right.nd (i := 8) (j := 9) rfl rfl (by decide) rfl rfl (pa_cons (pe_callG (ok_rule_of_ballots T) (hr.mono (by decide)) gu (by rfl) T.g_rule_of_ballots T.F_rule_of_ballots.kp T.b_rule_of_ballots .nil (pa_cons (pv 1) (pa_cons (pv 2) pa_nil))) (pa_cons (pe_callGK0 (ok_rule_of_ballots T) (hr.mono (by decide)) gu (by rfl) T.g_rule_of_ballots T.F_rule_of_ballots.kp (kb_of (n := 0) (ks := ["ballots", "size"]) T.F_rule_of_ballots [1, 0] (fun _ _ _ _ _ _ us ws l1 l2 => match us, l1, ws, l2 with | [], _, [_, _], _ => rfl)) (pk_cons (pv 2) (pk_cons (pv 1) pk_nil))) pa_nil)) (by rfl))
      (pss_cons (ps_if (PW.pt (pw_or (pt_cmpR (neK (K := K) hr.units) (pe_callB (call_repr gu hr.units) (by rfl) T.b_repr (by decide +kernel) (pa_cons (pe_lst (pa_cons (pv 8) (pa_cons (pv 9) pa_nil))) pa_nil)) (pe_callB (call_repr gu hr.units) (by rfl) T.b_repr (by decide +kernel) (pa_cons (pe_lst (pa_cons (pv 4) (pa_cons (pv 4) pa_nil))) pa_nil)) (nomark _)) (pw_or1 (pt_cmpR (neK (K := K) hr.units) (pe_callB (call_repr gu hr.units) (by rfl) T.b_repr (by decide +kernel) (pa_cons (pv 2) pa_nil)) (pv 3) (nomark _))))) (pss_one (ps_ret pe_bl)) pss_nil)
      (pss_cons (ps_expr (bmK (K := K) (pe_bm PySem.F.plainAttrs_list PySem.F.slot_list_append PySem.F.type_list_append mt_append (pv 8) (pa_cons pe_non pa_nil))))
      (pss_cons (ps_if (pt_cmpR op_gt (pv 1) pe_int (nomark _)) (pss_cons (ps_set (i := 10) sc__law_right.nd rfl (Or.inl rfl) (pe_ix (ixK (K := K)) (pv 9) (pe_un un_neg pe_int) (fun _ _ => rfl)))
      (pss_cons (ps_expr (bmK (K := K) (pe_bm PySem.F.plainAttrs_list PySem.F.slot_list_append PySem.F.type_list_append mt_append (pv 10) (pa_cons pe_non pa_nil))))
      (pss_one (ps_if (pt_cmpR (neK (K := K) hr.units) (pe_callB (lenK (K := K)) (by rfl) T.b_len PySem.boot_len (pa_cons (pe_lc (own := [("row", 13)]) (g := gName 13) rfl sc__law_right.nd (pi_listK (K := K) (pv 9)) (blkOk_by (own := [("row", 13)]) (by kernel_rfl)) (fun _ _ _ _ _ => (pg_name (i := 13) sc__law_right.nd rfl (Or.inl rfl))) (fun _ _ _ _ _ => (pts_one (pt_cmpR (inK (K := K)) pe_non (pv 13) (by with_unfolding_all rfl)))) (fun _ _ _ _ _ => (pv 13))) pa_nil)) pe_int (nomark _)) (pss_one (ps_ret pe_bl)) pss_nil)))) pss_nil)
      (pss_cons (ps_if (pt_cmpR (neK (K := K) hr.units) (pe_callG (ok_rule_of_ballots T) (hr.mono (by decide)) gu (by rfl) T.g_rule_of_ballots T.F_rule_of_ballots.kp T.b_rule_of_ballots .nil (pa_cons (pv 1) (pa_cons (pv 2) pa_nil))) (pv 4) (nomark _)) (pss_one (ps_ret pe_bl)) pss_nil)
      (pss_cons (ps_for PassesOwn.never rfl (pi_listK (K := K) (pe_lst (pa_cons (pe_un un_neg pe_int) (pa_cons pe_int (pa_cons pe_non (pa_cons pe_bl (pa_cons pe_str (pa_cons (pe_lst (pa_cons pe_int pa_nil)) pa_nil)))))))) (pg_name (i := 5) sc__law_right.nd rfl (Or.inr rfl)) (pss_one (ps_if (pt_cmpR (neK (K := K) hr.units) (pe_lamS (T := TC.T) (k := 5) (by rfl) T.g__law_kept T.F__law_kept T.b__law_kept sc__law_kept rfl (Or.inl rfl) (fun cdv => gives__law_kept T gu (hr.mono (by decide)) _ _ _) (BB.ok _ lb) lc.symm.symm lt lu (hr.mono (by decide)) (LamX.lamS_by (sc := defScope s__law_right) (by decide +kernel)) rfl (fun _ _ _ _ _ => rfl) (fun A2 ou2 s2 H2 E2 f2 b2 hr2 => (pe_callXN (okxn_rule_of_ballots T) (hr2.mono (by decide)) (by rfl) T.g_rule_of_ballots T.F_rule_of_ballots.kp T.b_rule_of_ballots (fun σ => passAt (takes_of rfl rfl rfl rfl) σ) (pa_cons (pv 5) (pa_cons pe_non pa_nil))))) (pe_callB (call_repr gu hr.units) (by rfl) T.b_repr (by decide +kernel) (pa_cons (pe_lst (pa_cons pe_str (pa_cons (pv 5) pa_nil))) pa_nil)) (nomark _)) (pss_one (ps_ret pe_bl)) pss_nil)))
      (pss_cons (ps_set (i := 6) sc__law_right.nd rfl (Or.inl rfl) (pe_listRg rfl (by rfl) T.b_list (prg_1 (by rfl) T.b_range (pv 1))))
      (pss_cons (ps_set (i := 7) sc__law_right.nd rfl (Or.inl rfl) (pe_lst (pa_cons pe_non (pa_cons (pe_callTy (tupleK (K := K)) (by rfl) T.b_tuple (by decide +kernel) (pa_cons (pv 6) pa_nil)) (pa_cons (pe_op op_cat (pv 6) (pe_lst (pa_cons (pv 1) pa_nil))) (pa_cons (pe_op op_cat (pv 6) (pe_lst (pa_cons pe_int pa_nil))) (pa_cons (pe_op op_rep (pe_lst (pa_cons pe_non pa_nil)) (pe_op op_add (pv 1) pe_int)) (pa_cons pe_str (pa_cons pe_dnewK (pa_cons pe_int pa_nil))))))))))
      (pss_cons (ps_set (i := 7) sc__law_right.nd rfl (Or.inl rfl) (pe_op op_cat (pv 7) (pe_op op_rep (pe_lst (pa_cons (pe_slice (slK (K := K)) (pv 6) po_none (po_some (pe_un un_neg pe_int))) (pa_cons (pe_op op_cat (pe_slice (slK (K := K)) (pv 6) (po_some pe_int) po_none) (pe_slice (slK (K := K)) (pv 6) (po_some pe_int) (po_some pe_int))) pa_nil))) (pe_callTy call_int1 (by rfl) T.b_int (by decide +kernel) (pa_cons (pe_cmpR op_gt (pv 1) pe_int (nomark _)) pa_nil)))))
      (pss_cons (ps_set (i := 7) sc__law_right.nd rfl (Or.inl rfl) (pe_op op_cat (pv 7) (pe_op op_rep (pe_lst (pa_cons (pe_op op_cat (pe_slice (slK (K := K)) (pv 6) po_none (po_some (pe_un un_neg pe_int))) (pe_lst (pa_cons (pv 1) pa_nil))) (pa_cons (pe_op op_cat (pe_slice (slK (K := K)) (pv 6) po_none (po_some (pe_un un_neg pe_int))) (pe_lst (pa_cons (pe_un un_neg pe_int) pa_nil))) pa_nil))) (pe_callTy call_int1 (by rfl) T.b_int (by decide +kernel) (pa_cons (pe_cmpR op_gt (pv 1) pe_int (nomark _)) pa_nil)))))
      (pss_cons (ps_set (i := 7) sc__law_right.nd rfl (Or.inl rfl) (pe_op op_cat (pv 7) (pe_op op_rep (pe_lst (pa_cons (pe_op op_cat (pe_lst (pa_cons pe_bl (pa_cons pe_bl pa_nil))) (pe_slice (slK (K := K)) (pv 6) (po_some pe_int) po_none)) (pa_cons (pe_op op_cat (pe_slice (slK (K := K)) (pv 6) po_none (po_some (pe_un un_neg pe_int))) (pe_lst (pa_cons (pe_callTy call_str_int (by rfl) T.b_str (by decide +kernel) (pa_cons (pe_op op_sub (pv 1) pe_int) pa_nil)) pa_nil))) pa_nil))) (pe_callTy call_int1 (by rfl) T.b_int (by decide +kernel) (pa_cons (pe_cmpR op_gt (pv 1) pe_int (nomark _)) pa_nil)))))
      (pss_cons (ps_set (i := 7) sc__law_right.nd rfl (Or.inl rfl) (pe_op op_cat (pv 7) (pe_op op_rep (pe_lst (pa_cons (pe_op op_cat (pe_slice (slK (K := K)) (pv 6) po_none (po_some (pe_un un_neg pe_int))) (pe_lst (pa_cons (pe_lst (pa_cons (pe_op op_sub (pv 1) pe_int) pa_nil)) pa_nil))) (pa_cons (pe_op op_cat (pe_slice (slK (K := K)) (pv 6) po_none (po_some (pe_un un_neg pe_int))) (pe_lst (pa_cons pe_non pa_nil))) pa_nil))) (pe_callTy call_int1 (by rfl) T.b_int (by decide +kernel) (pa_cons (pe_cmpR op_gt (pv 1) pe_int (nomark _)) pa_nil)))))
      (pss_cons (ps_set (i := 7) sc__law_right.nd rfl (Or.inl rfl) (pe_op op_cat (pv 7) (pe_op op_rep (pe_lst (pa_cons (pe_op op_cat (pe_slice (slK (K := K)) (pv 6) po_none (po_some (pe_un un_neg pe_int))) (pe_op op_rep (pe_lst (pa_cons (pe_op op_sub (pv 1) pe_int) pa_nil)) pe_int)) pa_nil)) (pe_callTy call_int1 (by rfl) T.b_int (by decide +kernel) (pa_cons (pe_cmpR op_gt (pv 1) pe_int (nomark _)) pa_nil)))))
      (pss_cons (ps_for PassesOwn.never rfl (pi_listK (K := K) (pv 7)) (pg_name (i := 5) sc__law_right.nd rfl (Or.inr rfl)) (pss_one (ps_if (pt_cmpR (neK (K := K) hr.units) (pe_lamS (T := TC.T) (k := 5) (by rfl) T.g__law_kept T.F__law_kept T.b__law_kept sc__law_kept rfl (Or.inl rfl) (fun cdv => gives__law_kept T gu (hr.mono (by decide)) _ _ _) (BB.ok _ lb) lc.symm.symm lt lu (hr.mono (by decide)) (LamX.lamS_by (sc := defScope s__law_right) (by decide +kernel)) rfl (fun _ _ _ _ _ => rfl) (fun A2 ou2 s2 H2 E2 f2 b2 hr2 => (pe_callXN (okxn_rule_of_ballots T) (hr2.mono (by decide)) (by rfl) T.g_rule_of_ballots T.F_rule_of_ballots.kp T.b_rule_of_ballots (fun σ => passAt (takes_of rfl rfl rfl rfl) σ) (pa_cons (pv 1) (pa_cons (pe_op op_cat (pv 2) (pe_lst (pa_cons (pv 5) (pa_cons pe_non pa_nil)))) pa_nil))))) (pe_callB (call_repr gu hr.units) (by rfl) T.b_repr (by decide +kernel) (pa_cons (pe_lst (pa_cons pe_str (pa_cons (pe_callB (lenK (K := K)) (by rfl) T.b_len PySem.boot_len (pa_cons (pv 2) pa_nil)) pa_nil))) pa_nil)) (nomark _)) (pss_one (ps_ret pe_bl)) pss_nil)))
      (pss_cons (ps_for PassesOwn.never rfl (pi_listK (K := K) (pe_lst (pa_cons pe_non (pa_cons (pe_tup pa_nil) (pa_cons pe_str (pa_cons pe_dnewK (pa_cons pe_int pa_nil))))))) (pg_name (i := 5) sc__law_right.nd rfl (Or.inr rfl)) (pss_one (ps_if (pt_cmpR (neK (K := K) hr.units) (pe_lamS (T := TC.T) (k := 5) (by rfl) T.g__law_kept T.F__law_kept T.b__law_kept sc__law_kept rfl (Or.inl rfl) (fun cdv => gives__law_kept T gu (hr.mono (by decide)) _ _ _) (BB.ok _ lb) lc.symm.symm lt lu (hr.mono (by decide)) (LamX.lamS_by (sc := defScope s__law_right) (by decide +kernel)) rfl (fun _ _ _ _ _ => rfl) (fun A2 ou2 s2 H2 E2 f2 b2 hr2 => (pe_callXN (okxn_rule_of_ballots T) (hr2.mono (by decide)) (by rfl) T.g_rule_of_ballots T.F_rule_of_ballots.kp T.b_rule_of_ballots (fun σ => passAt (takes_of rfl rfl rfl rfl) σ) (pa_cons (pv 1) (pa_cons (pv 5) pa_nil))))) (pe_callB (call_repr gu hr.units) (by rfl) T.b_repr (by decide +kernel) (pa_cons (pe_lst (pa_cons pe_str (pa_cons pe_non pa_nil))) pa_nil)) (nomark _)) (pss_one (ps_ret pe_bl)) pss_nil)))
      (pss_one (ps_ret pe_bl)))))))))))))))))))))), ?_⟩
  exact def_ok (N := ["draws", "many", "some", "kept", "due", "bad", "whole", "odd", "told", "named", "last", "k", "ballot", "row"]) (m := (mSeq (mAsg (mBin gMod (mFn gInt (mCons (mFz (mCall [0] m__law_next (mCons (mVar 0) mNil))) mNil)) (mC (.int 13))) (mgN 1))
    (mSeq (mAsg (mLE (mLc (mRng1 (mCons (mBin gMod (mFn gInt (mCons (mFz (mCall [0] m__law_next (mCons (mVar 0) mNil))) mNil)) (mBin gIx (mLE (mDs (mCons (mC (.int 7)) (mCons (mC (.int 30)) mNil)))) (mBin gMod (mFn gInt (mCons (mFz (mCall [0] m__law_next (mCons (mVar 0) mNil))) mNil)) (mC (.int 2))))) mNil)) (mgN 11) mYes (mFz (mCall [0] m__law_ballot (mCons (mVar 0) (mCons (mVar 1) mNil)))) [11])) (mgN 2))
    (mSeq (mAsg (mLE (mBinL gCat (mVar 2) (mLE (mLc (mItL (mLE (mSl (mVar 2) mNoPart (mPart (mBin gMod (mFn gInt (mCons (mFz (mCall [0] m__law_next (mCons (mVar 0) mNil))) mNil)) (mC (.int 4))))))) (mgN 12) mYes (mLE (mFnL gListOf (mCons (mVar 12) mNil))) [12])))) (mgN 2))
    (mSeq (mAsg (mFn gRepr (mCons (mVar 2) mNil)) (mgN 3))
    (mSeq (mAsg (mFz (mCall [] m__law_by_ballots (mCons (mVar 1) (mCons (mVar 2) mNil)))) (mgN 4))
    (mSeq (mAsg2 8 9 (mCall [] m_rule_of_ballots (mCons (mVar 1) (mCons (mVar 2) mNil))) (mCallN [] [1, 0] m_rule_of_ballots mNil (mCons (mVar 2) (mCons (mVar 1) mNil))))
    (mSeq (mIf (mOr (mT (mBin (gEq true) (mReprV [8, 9]) (mFn gRepr (mCons (mLE (mDs (mCons (mVar 4) (mCons (mVar 4) mNil)))) mNil)))) (mT (mBin (gEq true) (mFn gRepr (mCons (mVar 2) mNil)) (mVar 3)))) (mRet (mC (.bool false))) mNext)
    (mSeq (mAppG 8 (mCons (mC .none) mNil))
    (mSeq (mIf (mT (mBin (gI0 fun i j => .bool (decide (j < i))) (mVar 1) (mC (.int 0)))) (mAlias 9 10 (mUn gNeg (mC (.int 1))) (mCons (mC .none) mNil)
    (mIf (mT (mBin (gEq true) (mScoped 9 (mFn gLen (mCons (mLE (mLc (mItL (mVar 9)) (mgN 13) (mT (mBin (gIn false) (mC .none) (mVar 13))) (mVar 13) [13])) mNil))) (mC (.int 1)))) (mRet (mC (.bool false))) mNext)) mNext)
    (mSeq (mIf (mT (mBin (gEq true) (mFz (mCall [] m_rule_of_ballots (mCons (mVar 1) (mCons (mVar 2) mNil)))) (mVar 4))) (mRet (mC (.bool false))) mNext)
    (mSeq (mFor (mItL (mLE (mDs (mCons (mUn gNeg (mC (.int 1))) (mCons (mC (.int 13)) (mCons (mC .none) (mCons (mC (.bool true)) (mCons (mC (.str (Str.ofString "3"))) (mCons (mLE (mDs (mCons (mC (.int 3)) mNil))) mNil))))))))) (mgN 5) (mIf (mT (mBin (gEq true) (mLamK (Str.ofString "told") (mkTwo 0 1 (Str.ofString "size") (Str.ofString "ballots")) x_rule_of_ballots (mCons (mVar 5) (mCons (mC .none) mNil))) (mFn gRepr (mCons (mLE (mDs (mCons (mC (.str (Str.ofString "size"))) (mCons (mVar 5) mNil)))) mNil)))) (mRet (mC (.bool false))) mNext))
    (mSeq (mAsg (mLE (mLRg1 (mVar 1))) (mgN 6))
    (mSeq (mAsg (mLE (mDs (mCons (mC .none) (mCons (mFn gTupleOf (mCons (mVar 6) mNil)) (mCons (mLE (mBinL gCat (mVar 6) (mLE (mDs (mCons (mVar 1) mNil))))) (mCons (mLE (mBinL gCat (mVar 6) (mLE (mDs (mCons (mC (.int 0)) mNil))))) (mCons (mLE (mBinL gRep (mLE (mDs (mCons (mC .none) mNil))) (mBin (gI0 fun i j => .int (i + j)) (mVar 1) (mC (.int 1))))) (mCons (mC (.str (Str.ofString ""))) (mCons mDict (mCons (mC (.int 5)) mNil)))))))))) (mgN 7))
    (mSeq (mAsg (mLE (mBinL gCat (mVar 7) (mLE (mBinL gRep (mLE (mDs (mCons (mLE (mSl (mVar 6) mNoPart (mPart (mUn gNeg (mC (.int 1)))))) (mCons (mLE (mBinL gCat (mLE (mSl (mVar 6) (mPart (mC (.int 1))) mNoPart)) (mLE (mSl (mVar 6) (mPart (mC (.int 1))) (mPart (mC (.int 2))))))) mNil)))) (mFn gInt (mCons (mBin (gI0 fun i j => .bool (decide (j < i))) (mVar 1) (mC (.int 2))) mNil)))))) (mgN 7))
    (mSeq (mAsg (mLE (mBinL gCat (mVar 7) (mLE (mBinL gRep (mLE (mDs (mCons (mLE (mBinL gCat (mLE (mSl (mVar 6) mNoPart (mPart (mUn gNeg (mC (.int 1)))))) (mLE (mDs (mCons (mVar 1) mNil))))) (mCons (mLE (mBinL gCat (mLE (mSl (mVar 6) mNoPart (mPart (mUn gNeg (mC (.int 1)))))) (mLE (mDs (mCons (mUn gNeg (mC (.int 1))) mNil))))) mNil)))) (mFn gInt (mCons (mBin (gI0 fun i j => .bool (decide (j < i))) (mVar 1) (mC (.int 0))) mNil)))))) (mgN 7))
    (mSeq (mAsg (mLE (mBinL gCat (mVar 7) (mLE (mBinL gRep (mLE (mDs (mCons (mLE (mBinL gCat (mLE (mDs (mCons (mC (.bool false)) (mCons (mC (.bool true)) mNil)))) (mLE (mSl (mVar 6) (mPart (mC (.int 2))) mNoPart)))) (mCons (mLE (mBinL gCat (mLE (mSl (mVar 6) mNoPart (mPart (mUn gNeg (mC (.int 1)))))) (mLE (mDs (mCons (mFn gStrI (mCons (mBin (gI0 fun i j => .int (i - j)) (mVar 1) (mC (.int 1))) mNil)) mNil))))) mNil)))) (mFn gInt (mCons (mBin (gI0 fun i j => .bool (decide (j < i))) (mVar 1) (mC (.int 1))) mNil)))))) (mgN 7))
    (mSeq (mAsg (mLE (mBinL gCat (mVar 7) (mLE (mBinL gRep (mLE (mDs (mCons (mLE (mBinL gCat (mLE (mSl (mVar 6) mNoPart (mPart (mUn gNeg (mC (.int 1)))))) (mLE (mDs (mCons (mLE (mDs (mCons (mBin (gI0 fun i j => .int (i - j)) (mVar 1) (mC (.int 1))) mNil))) mNil))))) (mCons (mLE (mBinL gCat (mLE (mSl (mVar 6) mNoPart (mPart (mUn gNeg (mC (.int 1)))))) (mLE (mDs (mCons (mC .none) mNil))))) mNil)))) (mFn gInt (mCons (mBin (gI0 fun i j => .bool (decide (j < i))) (mVar 1) (mC (.int 0))) mNil)))))) (mgN 7))
    (mSeq (mAsg (mLE (mBinL gCat (mVar 7) (mLE (mBinL gRep (mLE (mDs (mCons (mLE (mBinL gCat (mLE (mSl (mVar 6) mNoPart (mPart (mUn gNeg (mC (.int 3)))))) (mLE (mBinL gRep (mLE (mDs (mCons (mBin (gI0 fun i j => .int (i - j)) (mVar 1) (mC (.int 2))) mNil))) (mC (.int 3)))))) mNil))) (mFn gInt (mCons (mBin (gI0 fun i j => .bool (decide (j < i))) (mVar 1) (mC (.int 2))) mNil)))))) (mgN 7))
    (mSeq (mFor (mItL (mVar 7)) (mgN 5) (mIf (mT (mBin (gEq true) (mLamK (Str.ofString "told") (mkTwo 0 1 (Str.ofString "size") (Str.ofString "ballots")) x_rule_of_ballots (mCons (mVar 1) (mCons (mLE (mBinL gCat (mVar 2) (mLE (mDs (mCons (mVar 5) (mCons (mC .none) mNil)))))) mNil))) (mFn gRepr (mCons (mLE (mDs (mCons (mC (.str (Str.ofString "ballots"))) (mCons (mFn gLen (mCons (mVar 2) mNil)) mNil)))) mNil)))) (mRet (mC (.bool false))) mNext))
    (mSeq (mFor (mItL (mLE (mDs (mCons (mC .none) (mCons (mTup mNil) (mCons (mC (.str (Str.ofString ""))) (mCons mDict (mCons (mC (.int 5)) mNil)))))))) (mgN 5) (mIf (mT (mBin (gEq true) (mLamK (Str.ofString "told") (mkTwo 0 1 (Str.ofString "size") (Str.ofString "ballots")) x_rule_of_ballots (mCons (mVar 1) (mCons (mVar 5) mNil))) (mFn gRepr (mCons (mLE (mDs (mCons (mC (.str (Str.ofString "ballots"))) (mCons (mC .none) mNil)))) mNil)))) (mRet (mC (.bool false))) mNext))
    (mRet (mC (.bool true)))))))))))))))))))))))) ((rs_seq (rs_asg (re_bin (re_fn (ra_cons (re_o (ro_call (ra_cons re_var ra_nil))) ra_nil) f_int) re_int b_mod) rg_name)
      (rs_seq (rs_asg (re_lc (ri_rng1 (ra_cons (re_bin (re_fn (ra_cons (re_o (ro_call (ra_cons re_var ra_nil))) ra_nil) f_int) (re_bin (re_l (rl_lst (ra_cons re_int (ra_cons re_int ra_nil)) (len_cons (len_cons len_nil)))) (re_bin (re_fn (ra_cons (re_o (ro_call (ra_cons re_var ra_nil))) ra_nil) f_int) re_int b_mod) b_ix) b_mod) ra_nil)) rg_name rt_yes (re_o (ro_call (ra_cons re_var (ra_cons re_var ra_nil))))) rg_name)
      (rs_seq (rs_asg (re_l (rl_bin re_var (re_lc (ri_list (re_l (rl_sl re_var rq_none (rq_some (re_bin (re_fn (ra_cons (re_o (ro_call (ra_cons re_var ra_nil))) ra_nil) f_int) re_int b_mod))))) rg_name rt_yes (re_l (rl_fn (ra_cons re_var ra_nil) l_list))) b_cat)) rg_name)
      (rs_seq (rs_asg (re_fn (ra_cons re_var ra_nil) f_repr) rg_name)
      (rs_seq (rs_asg (re_o (ro_call (ra_cons re_var (ra_cons re_var ra_nil)))) rg_name)
      (rs_seq (rs_asg2 (ro_call (ra_cons re_var (ra_cons re_var ra_nil))) (ro_callN ra_nil (ra_cons re_var (ra_cons re_var ra_nil)) len_nil (len_cons (len_cons len_nil))))
      (rs_seq (rs_if (rt_or (rt_test (re_bin (re_reprV [8, 9]) (re_fn (ra_cons (re_l (rl_lst (ra_cons re_var (ra_cons re_var ra_nil)) (len_cons (len_cons len_nil)))) ra_nil) f_repr) b_ne)) (rt_test (re_bin (re_fn (ra_cons re_var ra_nil) f_repr) re_var b_ne))) (rs_ret re_bl) rs_next)
      (rs_seq (rs_appG (ra_cons re_non ra_nil))
      (rs_seq (rs_if (rt_test (re_bin re_var re_int b_gt)) (rs_alias (re_un re_int u_neg) (ra_cons re_non ra_nil)
      (rs_if (rt_test (re_bin (re_scoped (j := 9) (re_fn (ra_cons (re_lc (ri_list re_var) rg_name (rt_test (re_bin re_non re_var (b_in false))) re_var) ra_nil) f_len)) re_int b_ne)) (rs_ret re_bl) rs_next)) rs_next)
      (rs_seq (rs_if (rt_test (re_bin (re_o (ro_call (ra_cons re_var (ra_cons re_var ra_nil)))) re_var b_ne)) (rs_ret re_bl) rs_next)
      (rs_seq (rs_for (ri_list (re_l (rl_lst (ra_cons (re_un re_int u_neg) (ra_cons re_int (ra_cons re_non (ra_cons re_bl (ra_cons re_str (ra_cons (re_l (rl_lst (ra_cons re_int ra_nil) (len_cons len_nil))) ra_nil)))))) (len_cons (len_cons (len_cons (len_cons (len_cons (len_cons len_nil))))))))) rg_name (rs_if (rt_test (re_bin (re_lamK (cl := clOf ca) (told := (Str.ofString "told")) (ra_cons re_var (ra_cons re_non ra_nil)) (by decide) (by decide) (by decide) tail2_none (tail2_ex (cl := clOf ca) (n1 := 0) (n2 := 1) rfl rfl T.kc_InvalidSize T.kc_InvalidBallots T.xa_InvalidBallots_InvalidSize.2 T.xa_InvalidBallots_InvalidSize.1 T.kt_InvalidSize T.kt_InvalidBallots T.ki_InvalidSize T.kn_InvalidBallots_InvalidSize)) (re_fn (ra_cons (re_l (rl_lst (ra_cons re_str (ra_cons re_var ra_nil)) (len_cons (len_cons len_nil)))) ra_nil) f_repr) b_ne)) (rs_ret re_bl) rs_next))
      (rs_seq (rs_asg (re_l (rl_rg1 re_var)) rg_name)
      (rs_seq (rs_asg (re_l (rl_lst (ra_cons re_non (ra_cons (re_fn (ra_cons re_var ra_nil) f_tuple) (ra_cons (re_l (rl_bin re_var (re_l (rl_lst (ra_cons re_var ra_nil) (len_cons len_nil))) b_cat)) (ra_cons (re_l (rl_bin re_var (re_l (rl_lst (ra_cons re_int ra_nil) (len_cons len_nil))) b_cat)) (ra_cons (re_l (rl_bin (re_l (rl_lst (ra_cons re_non ra_nil) (len_cons len_nil))) (re_bin re_var re_int b_add) b_rep)) (ra_cons re_str (ra_cons re_dict (ra_cons re_int ra_nil)))))))) (len_cons (len_cons (len_cons (len_cons (len_cons (len_cons (len_cons (len_cons len_nil)))))))))) rg_name)
      (rs_seq (rs_asg (re_l (rl_bin re_var (re_l (rl_bin (re_l (rl_lst (ra_cons (re_l (rl_sl re_var rq_none (rq_some (re_un re_int u_neg)))) (ra_cons (re_l (rl_bin (re_l (rl_sl re_var (rq_some re_int) rq_none)) (re_l (rl_sl re_var (rq_some re_int) (rq_some re_int))) b_cat)) ra_nil)) (len_cons (len_cons len_nil)))) (re_fn (ra_cons (re_bin re_var re_int b_gt) ra_nil) f_int) b_rep)) b_cat)) rg_name)
      (rs_seq (rs_asg (re_l (rl_bin re_var (re_l (rl_bin (re_l (rl_lst (ra_cons (re_l (rl_bin (re_l (rl_sl re_var rq_none (rq_some (re_un re_int u_neg)))) (re_l (rl_lst (ra_cons re_var ra_nil) (len_cons len_nil))) b_cat)) (ra_cons (re_l (rl_bin (re_l (rl_sl re_var rq_none (rq_some (re_un re_int u_neg)))) (re_l (rl_lst (ra_cons (re_un re_int u_neg) ra_nil) (len_cons len_nil))) b_cat)) ra_nil)) (len_cons (len_cons len_nil)))) (re_fn (ra_cons (re_bin re_var re_int b_gt) ra_nil) f_int) b_rep)) b_cat)) rg_name)
      (rs_seq (rs_asg (re_l (rl_bin re_var (re_l (rl_bin (re_l (rl_lst (ra_cons (re_l (rl_bin (re_l (rl_lst (ra_cons re_bl (ra_cons re_bl ra_nil)) (len_cons (len_cons len_nil)))) (re_l (rl_sl re_var (rq_some re_int) rq_none)) b_cat)) (ra_cons (re_l (rl_bin (re_l (rl_sl re_var rq_none (rq_some (re_un re_int u_neg)))) (re_l (rl_lst (ra_cons (re_fn (ra_cons (re_bin re_var re_int b_sub) ra_nil) f_strI) ra_nil) (len_cons len_nil))) b_cat)) ra_nil)) (len_cons (len_cons len_nil)))) (re_fn (ra_cons (re_bin re_var re_int b_gt) ra_nil) f_int) b_rep)) b_cat)) rg_name)
      (rs_seq (rs_asg (re_l (rl_bin re_var (re_l (rl_bin (re_l (rl_lst (ra_cons (re_l (rl_bin (re_l (rl_sl re_var rq_none (rq_some (re_un re_int u_neg)))) (re_l (rl_lst (ra_cons (re_l (rl_lst (ra_cons (re_bin re_var re_int b_sub) ra_nil) (len_cons len_nil))) ra_nil) (len_cons len_nil))) b_cat)) (ra_cons (re_l (rl_bin (re_l (rl_sl re_var rq_none (rq_some (re_un re_int u_neg)))) (re_l (rl_lst (ra_cons re_non ra_nil) (len_cons len_nil))) b_cat)) ra_nil)) (len_cons (len_cons len_nil)))) (re_fn (ra_cons (re_bin re_var re_int b_gt) ra_nil) f_int) b_rep)) b_cat)) rg_name)
      (rs_seq (rs_asg (re_l (rl_bin re_var (re_l (rl_bin (re_l (rl_lst (ra_cons (re_l (rl_bin (re_l (rl_sl re_var rq_none (rq_some (re_un re_int u_neg)))) (re_l (rl_bin (re_l (rl_lst (ra_cons (re_bin re_var re_int b_sub) ra_nil) (len_cons len_nil))) re_int b_rep)) b_cat)) ra_nil) (len_cons len_nil))) (re_fn (ra_cons (re_bin re_var re_int b_gt) ra_nil) f_int) b_rep)) b_cat)) rg_name)
      (rs_seq (rs_for (ri_list re_var) rg_name (rs_if (rt_test (re_bin (re_lamK (cl := clOf ca) (told := (Str.ofString "told")) (ra_cons re_var (ra_cons (re_l (rl_bin re_var (re_l (rl_lst (ra_cons re_var (ra_cons re_non ra_nil)) (len_cons (len_cons len_nil)))) b_cat)) ra_nil)) (by decide) (by decide) (by decide) tail2_none (tail2_ex (cl := clOf ca) (n1 := 0) (n2 := 1) rfl rfl T.kc_InvalidSize T.kc_InvalidBallots T.xa_InvalidBallots_InvalidSize.2 T.xa_InvalidBallots_InvalidSize.1 T.kt_InvalidSize T.kt_InvalidBallots T.ki_InvalidSize T.kn_InvalidBallots_InvalidSize)) (re_fn (ra_cons (re_l (rl_lst (ra_cons re_str (ra_cons (re_fn (ra_cons re_var ra_nil) f_len) ra_nil)) (len_cons (len_cons len_nil)))) ra_nil) f_repr) b_ne)) (rs_ret re_bl) rs_next))
      (rs_seq (rs_for (ri_list (re_l (rl_lst (ra_cons re_non (ra_cons (re_tup ra_nil len_nil) (ra_cons re_str (ra_cons re_dict (ra_cons re_int ra_nil))))) (len_cons (len_cons (len_cons (len_cons (len_cons len_nil)))))))) rg_name (rs_if (rt_test (re_bin (re_lamK (cl := clOf ca) (told := (Str.ofString "told")) (ra_cons re_var (ra_cons re_var ra_nil)) (by decide) (by decide) (by decide) tail2_none (tail2_ex (cl := clOf ca) (n1 := 0) (n2 := 1) rfl rfl T.kc_InvalidSize T.kc_InvalidBallots T.xa_InvalidBallots_InvalidSize.2 T.xa_InvalidBallots_InvalidSize.1 T.kt_InvalidSize T.kt_InvalidBallots T.ki_InvalidSize T.kn_InvalidBallots_InvalidSize)) (re_fn (ra_cons (re_l (rl_lst (ra_cons re_str (ra_cons re_non ra_nil)) (len_cons (len_cons len_nil)))) ra_nil) f_repr) b_ne)) (rs_ret re_bl) rs_next))
      (rs_ret re_bl)))))))))))))))))))))) h
noncomputable def m_law (K : PySem.W.Frag) (ca : Nat → Addr) : MF := mDef 3 1 []
    (mSeq (mForM (mLc2 (mItL (mLE (mBinL gCat (mLE (mSlS K 0 mNoPart (mPart (mC (.int 6))))) (mLE (mDs (mCons (mC (.int 0)) mNil)))))) (mgN 2) mYes (mCall [] m__law_draws (mCons (mVar 2) mNil)) [2]) 1 (mIf (mNot (mT (mFz (mCall [0] m__law_right (mCons (mVar 1) mNil))))) (mRet (mC (.bool false))) mNext))
    (mRet (mC (.bool true))))
theorem ok_law (T : Tx K mg ad fd w ca ia ifd) (BB : BaseT mg base) : FnG P w K mg base 11 (ad 15) (fd 15) ["script"] (spOf [] (m_law K ca)) := by
  refine okG T.F_law sc_law (fun vs H Q E h => by_len h) (fun cdv A ou s H vs Q E hr gu h => ⟨_, (pss_cons (ps_for PassesOwn.never rfl (pi_listK (K := K) (pe_lc (own := [("cell", 2)]) (g := gName 2) (tt := tYes) rfl sc_law.nd (pi_listK (K := K) (pe_op op_cat (pe_slice (slK (K := K)) (pv 0) po_none (po_some pe_int)) (pe_lst (pa_cons pe_int pa_nil)))) (blkOk_by (own := [("cell", 2)]) (by kernel_rfl)) (fun _ _ _ _ _ => (pg_name (i := 2) sc_law.nd rfl (Or.inl rfl))) (fun _ _ _ _ _ => pts_nil) (fun _ _ _ _ _ => (pe_callG (ok__law_draws T) (hr.mono (by decide)) gu (by rfl) T.g__law_draws T.F__law_draws.kp T.b__law_draws .nil (pa_cons (pv 2) pa_nil))))) (pg_name (i := 1) sc_law.nd rfl (Or.inl rfl)) (pss_one (ps_if (pt_not (pt_val (pe_callG (ok__law_right T BB) (hr.mono (by decide)) gu (by rfl) T.g__law_right T.F__law_right.kp T.b__law_right .nil (pa_cons (pv 1) pa_nil)))) (pss_one (ps_ret pe_bl)) pss_nil)))
      (pss_one (ps_ret pe_bl))), ?_⟩)
  exact def_ok (N := ["script", "draws", "cell"]) (m := (mSeq (mForM (mLc2 (mItL (mLE (mBinL gCat (mLE (mSlS K 0 mNoPart (mPart (mC (.int 6))))) (mLE (mDs (mCons (mC (.int 0)) mNil)))))) (mgN 2) mYes (mCall [] m__law_draws (mCons (mVar 2) mNil)) [2]) 1 (mIf (mNot (mT (mFz (mCall [0] m__law_right (mCons (mVar 1) mNil))))) (mRet (mC (.bool false))) mNext))
    (mRet (mC (.bool true))))) ((rs_seq (rs_forM (ro_lc2 (ri_list (re_l (rl_bin (re_l (rl_slS rq_none (rq_some re_int))) (re_l (rl_lst (ra_cons re_int ra_nil) (len_cons len_nil))) b_cat))) rg_name rt_yes (ro_call (ra_cons re_var ra_nil))) (rs_if (rt_not (rt_B (re_o (ro_call (ra_cons re_var ra_nil))))) (rs_ret re_bl) rs_next))
      (rs_ret re_bl))) h
end
end My
namespace My
open PySem PySem.Spec PyProof.Rows L2 Tr
open Prod (fst snd)
variable [TC]
/-! ### rows that are none: any data -/
def isItem (n : Int) : PyData → Bool
  | .int i => decide (0 ≤ i) && decide (i < n)
  | _ => false
theorem whole_any (d : PyData) : m_is_whole [.fz d] = some (.fz (.bool (match d with | .int _ => true | _ => false)), [.fz d]) := by
  cases d <;> rfl
theorem call1 {mf : MF} {os : List O} {r : O} {ps : List P} {env : En} (h : mf os = some (r, os)) (h1 : prepA [] 0 ps env = some (os, os.map fun _ => none, env)) : callP [] mf ps env = some (r, env) := by
  have g1 : ∀ l : List O, lentsOk (l.map fun _ => (none : Option Nat)) = true := fun l => by
    induction l with
    | nil => rfl
    | cons a l ih => exact ih
  have g2 : ∀ (l : List O) (e : En), lendA (l.map fun _ => (none : Option Nat)) l e = some l := fun l e => by
    induction l with
    | nil => rfl
    | cons a l ih => show (lendA (l.map fun _ => none) l e).map (a :: ·) = _; rw [ih]; rfl
  have g3 : ∀ (l : List O) (e : En), backA (l.map fun _ => (none : Option Nat)) l e = some e := fun l e => by
    induction l with
    | nil => rfl
    | cons a l ih => exact ih
  unfold callP
  rw [h1]
  simp only [g1, if_true, g2, h, g3]
theorem item_any (n : Int) (d : PyData) : m_is_item [.fz (.int n), .fz d] = some (.fz (.bool (isItem n d)), [.fz (.int n), .fz d]) := by
  have w := whole_any d
  cases d with
  | int i =>
    have c := oe_chain (f := fun i j => decide (i ≤ j)) (g := fun i j => decide (i < j)) (i := 0) (j := i) (k := n) (ma := mC (.int 0)) (mb := mVar 1) (mc := mVar 0) (env := [some (.fz (.int n)), some (.fz (.int i))]) rfl rfl rfl
    have e1 : mAndV (mFz (mCall [] m_is_whole (mCons (mVar 1) mNil))) (mChain (gI0 fun i j => .bool (decide (i ≤ j))) (gI0 fun i j => .bool (decide (i < j))) (mC (.int 0)) (mVar 1) (mVar 0)) [some (.fz (.int n)), some (.fz (.int i))] = some (.val (.bool (decide (0 ≤ i) && decide (i < n))), [some (.fz (.int n)), some (.fz (.int i))]) := c
    unfold m_is_item mDef
    simp only [List.length_cons, List.length_nil, if_true, List.map_cons, List.map_nil]
    show (match mRet _ [some (.fz (.int n)), some (.fz (.int i))] with
      | some (.rt r, env) => mDef.fin [] [O.fz (.int n), O.fz (.int i)] env r
      | some (.nx, env) => mDef.fin [] [O.fz (.int n), O.fz (.int i)] env (.fz .none)
      | _ => none) = _
    have e2 : mRet (mAndV (mFz (mCall [] m_is_whole (mCons (mVar 1) mNil))) (mChain (gI0 fun i j => .bool (decide (i ≤ j))) (gI0 fun i j => .bool (decide (i < j))) (mC (.int 0)) (mVar 1) (mVar 0))) [some (.fz (.int n)), some (.fz (.int i))] = some (.rt (.fz (.bool (decide (0 ≤ i) && decide (i < n)))), [some (.fz (.int n)), some (.fz (.int i))]) := (bnd_eq e1).trans rfl
    rw [e2]
    rfl
  | _ => rfl
def enF (k : Nat) : List PyData → List PyData
  | [] => []
  | d :: r => .tuple [.int k, d] :: enF (k + 1) r
theorem enF_get : ∀ (ds : List PyData) (k i : Nat), (enF k ds)[i]? = (ds[i]?).map fun d => .tuple [.int ((k + i : Nat) : Int), d]
  | [], k, i => by simp [enF]
  | d :: r, k, 0 => by simp [enF]
  | d :: r, k, i + 1 => by
    show (enF (k + 1) r)[i]? = _
    rw [enF_get r (k + 1) i, List.getElem?_cons_succ, show k + 1 + i = k + (i + 1) by omega]
theorem enD_F (ds : List PyData) : enD ds = enF 0 ds := List.ext_getElem? fun i => by rw [enD_get, enF_get, Nat.zero_add]
theorem xdef_ex {n np : Nat} {m : MX} {os : List O} {k : Nat} {d : PyData} {e : En} (hl : os.length = np) (h : m (os.map some ++ List.replicate (n - os.length) none) = some (.ex k d, e)) : xDef n np m os = some (.ex k d) := by
  unfold xDef
  rw [if_pos hl, h]
theorem xseq_nx {a b : MX} {env e1 : En} {r : Option (Xc × En)} (h : a env = some (.c .nx, e1)) (h2 : b e1 = r) : xSeq a b env = r := by
  unfold xSeq
  rw [h]
  exact h2
theorem xseq_ex {a b : MX} {env e : En} {k : Nat} {d : PyData} (h : a env = some (.ex k d, e)) : xSeq a b env = some (.ex k d, e) := by
  unfold xSeq
  rw [h]
theorem xcall_ex {xf : XF} {ma : MA} {env e1 e2 : En} {ps : List P} {os : List O} {k : Nat} {d : PyData} (h1 : ma env = some (ps, e1)) (h2 : prepX ps e1 = some (os, e2)) (h3 : xf os = some (.ex k d)) : xCall xf ma env = some (.ex k d, e2) := by
  refine (bnd_eq h1).trans ?_
  simp only [h2, h3]
theorem xcall_ok {xf : XF} {ma : MA} {env e1 e2 : En} {ps : List P} {os : List O} {o : O} (h1 : ma env = some (ps, e1)) (h2 : prepX ps e1 = some (os, e2)) (h3 : xf os = some (.ok o)) : xCall xf ma env = some (.c .nx, e2) := by
  refine (bnd_eq h1).trans ?_
  simp only [h2, h3]
theorem lamK_eq {told : Str} {mk : Nat → PyData → Option Str} {xf : XF} {ma : MA} {env e1 e2 : En} {ps : List P} {os : List O} {n : Nat} {d : PyData} {s : Str} (h1 : ma env = some (ps, e1)) (h2 : prepX ps e1 = some (os, e2)) (h3 : xf os = some (.ex n d)) (h4 : mk n d = some s) : mLamK told mk xf ma env = some (.val (.str s), e2) := by
  refine (bnd_eq h1).trans ?_
  simp only [h2, h3, h4]

/-! ### is_row on any data -/
def intOf : PyData → Int
  | .int i => i
  | _ => 0
def isRowD (n : Nat) : PyData → Bool
  | .list ds => decide (ds.length = n) && (ds.all (isItem n) && decide (setN (ds.map intOf) = n))
  | _ => false
theorem allI_items {n : Int} : ∀ {ds : List PyData}, ds.all (isItem n) = true → allI ds = some (ds.map intOf)
  | [], _ => rfl
  | .int i :: ds, h => by
    rw [List.all_cons, Bool.and_eq_true] at h
    show (allI ds).map (i :: ·) = _
    rw [allI_items h.2]
    rfl
  | .none :: ds, h => by rw [List.all_cons] at h; cases h
  | .bool _ :: ds, h => by rw [List.all_cons] at h; cases h
  | .str _ :: ds, h => by rw [List.all_cons] at h; cases h
  | .list _ :: ds, h => by rw [List.all_cons] at h; cases h
  | .tuple _ :: ds, h => by rw [List.all_cons] at h; cases h
  | .dict _ :: ds, h => by rw [List.all_cons] at h; cases h
abbrev itE : ME := mFz (mCall [] m_is_item (mCons (mVar 0) (mCons (mVar 2) mNil)))
theorem itemsGo {n : Nat} {L : PyData} (ds : List PyData) (h : ds.length ≤ 4000) : mLcGo (mgN 2) mYes itE [2] ds [] [some (.fz (.int n)), some (.fz L), none] = some (ds.map fun d => .bool (isItem n d), [some (.fz (.int n)), some (.fz L), none]) :=
  lcGo_map (i := 2) (me := itE) (E := [some (.fz (.int n)), some (.fz L), none]) (fun d => .bool (isItem n d)) (fun d _ => by
    have c := call1 (ps := [.val (.int n), .val d]) (env := [some (.fz (.int n)), some (.fz L), some (.fz d)]) (item_any n d) rfl
    have e : itE [some (.fz (.int n)), some (.fz L), some (.fz d)] = some (.val (.bool (isItem n d)), [some (.fz (.int n)), some (.fz L), some (.fz d)]) := (bnd_eq (a := .fz (.bool (isItem n d))) ((bnd_eq (a := [.val (.int n), .val d]) rfl).trans c)).trans rfl
    exact ⟨_, _, e, _, rfl, rfl⟩) (le_line (by omega))
theorem allB_bools (n : Int) : ∀ ds : List PyData, allB (ds.map fun d => PyData.bool (isItem n d)) = some (ds.map fun d => isItem n d)
  | [] => rfl
  | d :: ds => by
    show (allB (ds.map fun d => PyData.bool (isItem n d))).map (isItem n d :: ·) = _
    rw [allB_bools n ds]
    rfl
theorem def_rt {n np : Nat} {m : MS} {os : List O} {r : O} {e : En} (hl : os.length = np) (h : m (os.map some ++ List.replicate (n - os.length) none) = some (.rt r, e)) : mDef n np [] m os = some (r, os) := by
  unfold mDef
  rw [if_pos hl, h]
  rfl
theorem row_any {n : Nat} {d : PyData} (hz : ∀ ds, d = .list ds → ds.length ≤ 2000) : m_is_row [.fz (.int n), .fz d] = some (.fz (.bool (isRowD n d)), [.fz (.int n), .fz d]) := by
  unfold m_is_row
  have nolist : (match d with | .list _ => false | _ => true) = true → ∃ e, mSeq (mIf (mOr (mNot (mT (mIsi "list" (mVar 1)))) (mT (mBin (gEq true) (mFn gLen (mCons (mVar 1) mNil)) (mVar 0)))) (mRet (mC (.bool false))) mNext)
      (mRet (mAndV (mFn gAll (mCons (mLE (mLc (mItL (mVar 1)) (mgN 2) mYes itE [2])) mNil)) (mBin (gEq false) (mFn gLenSet (mCons (mVar 1) mNil)) (mVar 0)))) [some (.fz (.int n)), some (.fz d), none] = some (.rt (.fz (.bool false)), e) := fun hd => by
    cases d with
    | list ds => exact nomatch hd
    | _ => exact ⟨_, rfl⟩
  cases d with
  | list ds =>
    have hl := hz ds rfl
    have q : mBin (gEq true) (mFn gLen (mCons (mVar 1) mNil)) (mVar 0) [some (.fz (.int n)), some (.fz (.list ds)), none] = some (.val (.bool (true ^^ decide (((ds.length : Nat) : Int) = ((n : Nat) : Int)))), [some (.fz (.int n)), some (.fz (.list ds)), none]) :=
      (bnd_eq (a := .val (.int ds.length)) rfl).trans ((bnd_eq (a := .val (.int n)) rfl).trans rfl)
    have t : mOr (mNot (mT (mIsi "list" (mVar 1)))) (mT (mBin (gEq true) (mFn gLen (mCons (mVar 1) mNil)) (mVar 0))) [some (.fz (.int n)), some (.fz (.list ds)), none] = some (true ^^ decide (((ds.length : Nat) : Int) = ((n : Nat) : Int)), [some (.fz (.int n)), some (.fz (.list ds)), none]) :=
      (bnd_eq (a := false) (e := [some (.fz (.int n)), some (.fz (.list ds)), none]) rfl).trans ((bnd_eq q).trans rfl)
    show _ = some ((O.fz (PyData.bool (decide (ds.length = n) && (ds.all (isItem n) && decide (setN (ds.map intOf) = n)))), _) : O × List O)
    by_cases c : ds.length = n
    · rw [show decide (((ds.length : Nat) : Int) = ((n : Nat) : Int)) = true from decide_eq_true (by omega)] at t
      rw [decide_eq_true c, Bool.true_and]
      have s1 : mIf (mOr (mNot (mT (mIsi "list" (mVar 1)))) (mT (mBin (gEq true) (mFn gLen (mCons (mVar 1) mNil)) (mVar 0)))) (mRet (mC (.bool false))) mNext [some (.fz (.int n)), some (.fz (.list ds)), none] = some (.nx, [some (.fz (.int n)), some (.fz (.list ds)), none]) := (bnd_eq t).trans rfl
      have go := itemsGo (n := n) (L := .list ds) ds (by omega)
      have lc : mLc (mItL (mVar 1)) (mgN 2) mYes itE [2] [some (.fz (.int n)), some (.fz (.list ds)), none] = some (ds.map fun d => .bool (isItem n d), [some (.fz (.int n)), some (.fz (.list ds)), none]) := (bnd_eq (a := ds) (e := [some (.fz (.int n)), some (.fz (.list ds)), none]) rfl).trans go
      have al : mFn gAll (mCons (mLE (mLc (mItL (mVar 1)) (mgN 2) mYes itE [2])) mNil) [some (.fz (.int n)), some (.fz (.list ds)), none] = some (.val (.bool (ds.all (isItem n))), [some (.fz (.int n)), some (.fz (.list ds)), none]) := by
        refine (bnd_eq (a := [.val (.list (ds.map fun d => .bool (isItem n d)))]) (e := [some (.fz (.int n)), some (.fz (.list ds)), none]) ((bnd_eq ((bnd_eq lc).trans rfl)).trans rfl)).trans ?_
        show Option.map _ (((some (ds.map fun d => PyData.bool (isItem n d))).bind allB).map fun bs => P.val (.bool (bs.all id))) = _
        rw [Option.bind_some, allB_bools n ds, Option.map_some, Option.map_some, List.all_map]
        rfl
      refine def_rt (e := [some (.fz (.int n)), some (.fz (.list ds)), none]) rfl ?_
      show mSeq _ _ [some (.fz (.int n)), some (.fz (.list ds)), none] = _
      unfold mSeq
      rw [s1]
      show mRet _ [some (.fz (.int n)), some (.fz (.list ds)), none] = _
      cases ha : ds.all (isItem n) with
      | false =>
        rw [ha] at al
        exact (bnd_eq (a := .val (.bool false)) ((bnd_eq (a := false) ((bnd_eq al).trans rfl)).trans rfl)).trans rfl
      | true =>
        rw [ha] at al
        have ai : allI ds = some (ds.map intOf) := allI_items ha
        have sn : mFn gLenSet (mCons (mVar 1) mNil) [some (.fz (.int n)), some (.fz (.list ds)), none] = some (.val (.int (setN (ds.map intOf) : Nat)), [some (.fz (.int n)), some (.fz (.list ds)), none]) := by
          refine (bnd_eq (a := [.val (.list ds)]) (e := [some (.fz (.int n)), some (.fz (.list ds)), none]) rfl).trans ?_
          show Option.map _ (((some ds).bind allI).bind fun ns => if ns.length ≤ 4000 then some (P.val (.int (setN ns : Nat))) else none) = _
          rw [Option.bind_some, ai, Option.bind_some, if_pos (by rw [List.length_map]; omega)]
          rfl
        have eq : mBin (gEq false) (mFn gLenSet (mCons (mVar 1) mNil)) (mVar 0) [some (.fz (.int n)), some (.fz (.list ds)), none] = some (.val (.bool (false ^^ decide (((setN (ds.map intOf) : Nat) : Int) = ((n : Nat) : Int)))), [some (.fz (.int n)), some (.fz (.list ds)), none]) := (bnd_eq sn).trans ((bnd_eq (a := .val (.int n)) rfl).trans rfl)
        have dd : decide (((setN (ds.map intOf) : Nat) : Int) = ((n : Nat) : Int)) = decide (setN (ds.map intOf) = n) := decide_eq_decide.mpr ⟨fun e => by omega, fun e => by omega⟩
        rw [Bool.false_xor, dd] at eq
        rw [Bool.true_and]
        exact (bnd_eq ((bnd_eq (a := true) ((bnd_eq al).trans rfl)).trans eq)).trans rfl
    · rw [show decide (((ds.length : Nat) : Int) = ((n : Nat) : Int)) = false from decide_eq_false (by omega)] at t
      rw [decide_eq_false c, Bool.false_and]
      refine def_rt (e := [some (.fz (.int n)), some (.fz (.list ds)), none]) rfl ?_
      show mSeq _ _ [some (.fz (.int n)), some (.fz (.list ds)), none] = _
      unfold mSeq
      have s1 : mIf (mOr (mNot (mT (mIsi "list" (mVar 1)))) (mT (mBin (gEq true) (mFn gLen (mCons (mVar 1) mNil)) (mVar 0)))) (mRet (mC (.bool false))) mNext [some (.fz (.int n)), some (.fz (.list ds)), none] = some (.rt (.fz (.bool false)), [some (.fz (.int n)), some (.fz (.list ds)), none]) := (bnd_eq t).trans rfl
      rw [s1]
  | none => obtain ⟨e, z⟩ := nolist rfl; exact def_rt rfl z
  | bool x => obtain ⟨e, z⟩ := nolist rfl; exact def_rt rfl z
  | int x => obtain ⟨e, z⟩ := nolist rfl; exact def_rt rfl z
  | str x => obtain ⟨e, z⟩ := nolist rfl; exact def_rt rfl z
  | tuple x => obtain ⟨e, z⟩ := nolist rfl; exact def_rt rfl z
  | dict x => obtain ⟨e, z⟩ := nolist rfl; exact def_rt rfl z
/-! ### the checks -/
abbrev smallL (d : PyData) : Prop := ∀ ds, d = .list ds → ds.length ≤ 2000
abbrev bodyB : MX := mIf (mNot (mT (mFz (mCall [] m_is_row (mCons (mVar 0) (mCons (mVar 3) mNil)))))) (xRaise 1 (mCons (mVar 2) mNil)) (xLift mNext)
theorem ballT {n k : Nat} {L d : PyData} (hs : smallL d) : mNot (mT (mFz (mCall [] m_is_row (mCons (mVar 0) (mCons (mVar 3) mNil))))) [some (.fz (.int n)), some (.fz L), some (.fz (.int k)), some (.fz d)] = some (!isRowD n d, [some (.fz (.int n)), some (.fz L), some (.fz (.int k)), some (.fz d)]) := by
  have c := call1 (ps := [.val (.int n), .val d]) (env := [some (.fz (.int n)), some (.fz L), some (.fz (.int k)), some (.fz d)]) (row_any hs) rfl
  have e : mFz (mCall [] m_is_row (mCons (mVar 0) (mCons (mVar 3) mNil))) [some (.fz (.int n)), some (.fz L), some (.fz (.int k)), some (.fz d)] = some (.val (.bool (isRowD n d)), [some (.fz (.int n)), some (.fz L), some (.fz (.int k)), some (.fz d)]) := (bnd_eq (a := .fz (.bool (isRowD n d))) ((bnd_eq (a := [.val (.int n), .val d]) rfl).trans c)).trans rfl
  exact (bnd_eq (a := isRowD n d) ((bnd_eq e).trans rfl)).trans rfl
theorem balls_go {n : Nat} {L bad : PyData} {rest : List PyData} (hb : isRowD n bad = false) (sb : smallL bad) : ∀ (bs : List PyData) (k : Nat) (x2 x3 : Option O), (∀ b ∈ bs, isRowD n b = true ∧ smallL b) →
    ∃ e', xForGo (mgT [2, 3]) bodyB (enF k (bs ++ bad :: rest)) [some (.fz (.int n)), some (.fz L), x2, x3] = some (.ex 1 (.int ((k + bs.length : Nat) : Int)), e')
  | [], k, x2, x3, _ => by
    have t := ballT (n := n) (k := k) (L := L) sb
    rw [hb] at t
    have e1 : mgT [2, 3] (.tuple [.int k, bad]) [some (.fz (.int n)), some (.fz L), x2, x3] = some [some (.fz (.int n)), some (.fz L), some (.fz (.int k)), some (.fz bad)] := rfl
    have e3 : bodyB [some (.fz (.int n)), some (.fz L), some (.fz (.int k)), some (.fz bad)] = some (.ex 1 (.int k), [some (.fz (.int n)), some (.fz L), some (.fz (.int k)), some (.fz bad)]) := (bnd_eq t).trans rfl
    refine ⟨[some (.fz (.int n)), some (.fz L), some (.fz (.int k)), some (.fz bad)], ?_⟩
    show xForGo _ _ (.tuple [.int k, bad] :: enF (k + 1) rest) _ = _
    unfold xForGo
    simp only [e1, e3]
    rfl
  | b :: bs, k, x2, x3, h => by
    obtain ⟨h1, h2⟩ := h b (List.mem_cons_self ..)
    have t := ballT (n := n) (k := k) (L := L) h2
    rw [h1] at t
    have e1 : mgT [2, 3] (.tuple [.int k, b]) [some (.fz (.int n)), some (.fz L), x2, x3] = some [some (.fz (.int n)), some (.fz L), some (.fz (.int k)), some (.fz b)] := rfl
    have e3 : bodyB [some (.fz (.int n)), some (.fz L), some (.fz (.int k)), some (.fz b)] = some (.c .nx, [some (.fz (.int n)), some (.fz L), some (.fz (.int k)), some (.fz b)]) := (bnd_eq t).trans rfl
    obtain ⟨e', ih⟩ := balls_go (L := L) (rest := rest) hb sb bs (k + 1) (some (.fz (.int k))) (some (.fz b)) fun y hy => h y (List.mem_cons_of_mem _ hy)
    refine ⟨e', ?_⟩
    show xForGo _ _ (.tuple [.int k, b] :: enF (k + 1) (bs ++ bad :: rest)) _ = _
    unfold xForGo
    simp only [e1, e3]
    rw [ih, List.length_cons, show k + 1 + bs.length = k + (bs.length + 1) by omega]
theorem size_ok {n : Nat} (h : n ≤ 12) : x_check_size [.fz (.int n)] = some (.ok (.fz .none)) := by
  have : n = 0 ∨ n = 1 ∨ n = 2 ∨ n = 3 ∨ n = 4 ∨ n = 5 ∨ n = 6 ∨ n = 7 ∨ n = 8 ∨ n = 9 ∨ n = 10 ∨ n = 11 ∨ n = 12 := by omega
  rcases this with rfl | rfl | rfl | rfl | rfl | rfl | rfl | rfl | rfl | rfl | rfl | rfl | rfl <;> rfl
def sizesD : List PyData := [.int (-1), .int 13, .none, .bool true, .str (Str.ofString "3"), .list [.int 3]]
theorem sizes_bad : ∀ d ∈ sizesD, x_check_size [.fz d] = some (.ex 0 d) := by
  intro d hd
  unfold sizesD at hd
  simp only [List.mem_cons, List.not_mem_nil, or_false] at hd
  rcases hd with rfl | rfl | rfl | rfl | rfl | rfl <;> rfl
theorem rule_size {d b : PyData} (h : x_check_size [.fz d] = some (.ex 0 d)) : x_rule_of_ballots [.fz d, .fz b] = some (.ex 0 d) := by
  unfold x_rule_of_ballots
  refine xdef_ex (e := [some (.fz d), some (.fz b), none, none, none, none, none, none]) rfl ?_
  exact xseq_ex (xcall_ex (ps := [.val d]) rfl rfl h)
theorem balls_none {n : Nat} {d : PyData} (h : (match d with | .list _ => false | _ => true) = true) : x_check_ballots [.fz (.int n), .fz d] = some (.ex 1 .none) := by
  cases d with
  | list ds => exact nomatch h
  | _ => rfl
theorem balls_bad {n : Nat} {bs rest : List PyData} {bad : PyData} (h : ∀ b ∈ bs, isRowD n b = true ∧ smallL b) (hb : isRowD n bad = false) (sb : smallL bad) : x_check_ballots [.fz (.int n), .fz (.list (bs ++ bad :: rest))] = some (.ex 1 (.int (bs.length : Nat))) := by
  obtain ⟨e', g⟩ := balls_go (L := .list (bs ++ bad :: rest)) (rest := rest) hb sb bs 0 none none h
  rw [Nat.zero_add] at g
  have A : mIf (mNot (mT (mIsi "list" (mVar 1)))) (xRaise 1 (mCons (mC .none) mNil)) (xLift mNext) [some (.fz (.int n)), some (.fz (.list (bs ++ bad :: rest))), none, none] = some (.c .nx, [some (.fz (.int n)), some (.fz (.list (bs ++ bad :: rest))), none, none]) := rfl
  have C : xFor (mEnum (mCons (mVar 1) mNil)) (mgT [2, 3]) bodyB [some (.fz (.int n)), some (.fz (.list (bs ++ bad :: rest))), none, none] = some (.ex 1 (.int (bs.length : Nat)), e') := by
    refine (bnd_eq (a := enD (bs ++ bad :: rest)) (e := [some (.fz (.int n)), some (.fz (.list (bs ++ bad :: rest))), none, none]) rfl).trans ?_
    rw [enD_F]
    exact g
  unfold x_check_ballots
  exact xdef_ex (e := e') rfl (xseq_nx A C)
theorem rule_balls {n : Nat} {d w : PyData} (hn : n ≤ 12) (h : x_check_ballots [.fz (.int n), .fz d] = some (.ex 1 w)) : x_rule_of_ballots [.fz (.int n), .fz d] = some (.ex 1 w) := by
  unfold x_rule_of_ballots
  refine xdef_ex (e := [some (.fz (.int n)), some (.fz d), none, none, none, none, none, none]) rfl ?_
  exact xseq_nx (xcall_ok (ps := [.val (.int n)]) rfl rfl (size_ok hn)) (xseq_ex (xcall_ex (ps := [.val (.int n), .val d]) rfl rfl h))
/-! ### the odd ballots -/
def wholeD (n : Nat) : List PyData := (List.range n).map fun i => .int (i : Nat)
def pyTo (xs : List PyData) (k : Nat) : List PyData := xs.take (xs.length - k)
def oddD (n : Nat) : List PyData :=
  [.none, .tuple (wholeD n), .list (wholeD n ++ [.int n]), .list (wholeD n ++ [.int 0]), .list (List.replicate (n + 1) .none), .str (Str.ofString ""), .dict [], .int 5]
  ++ (if 2 < n then [.list (pyTo (wholeD n) 1), .list ((wholeD n).drop 1 ++ ((wholeD n).drop 1).take 1)] else [])
  ++ (if 0 < n then [.list (pyTo (wholeD n) 1 ++ [.int n]), .list (pyTo (wholeD n) 1 ++ [.int (-1)])] else [])
  ++ (if 1 < n then [.list ([.bool false, .bool true] ++ (wholeD n).drop 2), .list (pyTo (wholeD n) 1 ++ [.str (Str.ofString (toString (n - 1)))])] else [])
  ++ (if 0 < n then [.list (pyTo (wholeD n) 1 ++ [.list [.int ((n : Int) - 1)]]), .list (pyTo (wholeD n) 1 ++ [.none])] else [])
  ++ (if 2 < n then [.list (pyTo (wholeD n) 3 ++ [.int ((n : Int) - 2), .int ((n : Int) - 2), .int ((n : Int) - 2)])] else [])
theorem odd_bad : ∀ n : Nat, n < 13 → ((oddD n).all fun d => !isRowD n d && (match d with | .list ds => decide (ds.length ≤ 2000) | _ => true)) = true := by decide +kernel
end My
namespace My
open PySem PySem.Spec PyProof.Rows L2 Tr
open Prod (fst snd)
variable [TC]
theorem lc_filter {mi : ML} {mt : MT} {i : Nat} {env e e0 : En} {ds : List PyData} (t : PyData → Bool) (h : mi env = some (ds, e)) (h0 : e.set i none = e0) (hw : e0.set i none = e0) (hi : i < e0.length) (hy : ∀ d ∈ ds, mt (e0.set i (some (.fz d))) = some (t d, e0.set i (some (.fz d)))) (hz : ds.length ≤ sizeLine) :
    mLc mi (mgN i) mt (mVar i) [i] env = some (ds.filter t, e0) := by
  have go : ∀ (ds acc : List PyData), (∀ d ∈ ds, mt (e0.set i (some (.fz d))) = some (t d, e0.set i (some (.fz d)))) → acc.length + ds.length ≤ sizeLine → mLcGo (mgN i) mt (mVar i) [i] ds acc e0 = some (acc ++ ds.filter t, e0) := by
    intro ds
    induction ds with
    | nil => intro acc _ _; show some (acc, e0) = _; rw [List.filter_nil, List.append_nil]
    | cons d r ih =>
      intro acc hy hz
      rw [List.length_cons] at hz
      have h1 := hy d (by simp)
      have g1 : mgN i d e0 = some (e0.set i (some (.fz d))) := rfl
      have v1 : mVar i (e0.set i (some (.fz d))) = some (.val d, e0.set i (some (.fz d))) := by
        unfold mVar
        rw [List.getElem?_set_self hi]
      have w1 : wipeE (e0.set i (some (.fz d))) [i] = e0 := by
        show (e0.set i (some (.fz d))).set i none = e0
        rw [List.set_set, hw]
      unfold mLcGo
      simp only [g1, h1]
      cases ht : t d with
      | true =>
        simp only [v1, fzP, w1]
        rw [if_pos (by omega), ih _ (fun x hx => hy x (by simp [hx])) (by rw [List.length_append, List.length_singleton]; omega), List.filter_cons_of_pos ht, List.append_assoc]
        rfl
      | false =>
        simp only [w1]
        rw [ih _ (fun x hx => hy x (by simp [hx])) (by omega), List.filter_cons_of_neg (by rw [ht]; exact Bool.false_ne_true)]
  unfold mLc bnd
  simp only [h]
  show mLcGo (mgN i) mt (mVar i) [i] ds [] (e.set i none) = _
  rw [h0, go ds [] hy (by simpa using hz), List.nil_append]
theorem alias_eq {j l n : Nat} {mi : ME} {ma : MA} {m : MS} {env e1 e2 : En} {rows : List (List PyData)} {row : List PyData} {x : Int} {d : PyData} (h : env[j]? = some (some (.ow2 rows))) (hi : mi env = some (.val (.int x), e1)) (hx : ixN rows.length x = some n) (hr : rows[n]? = some row) (ha : ma (env.set l none) = some ([.val d], e2)) (hl : l < env.length ∧ row.length < sizeLine) :
    mAlias j l mi ma m env = m ((env.set l none).set j (some (.ow2 (rows.set n (row ++ [d]))))) := by
  unfold mAlias
  simp only [h, hi, hx, hr, ha]
  rw [if_pos hl]
theorem seq_eq {a b : MS} {env e1 : En} (h : a env = some (.nx, e1)) : mSeq a b env = b e1 := by unfold mSeq; rw [h]
def hasN : PyData → Bool
  | .list xs => xs.any fun y => PyData.eqv y .none
  | _ => false
theorem eqv_in (i : Int) : PyData.eqv (.int i) .none = false := by simp [PyData.eqv]
theorem eqv_nn : PyData.eqv .none .none = true := by simp [PyData.eqv]
theorem hasN_row (xs : List Int) : hasN (encL encI xs) = false := by
  show (xs.map encI).any _ = false
  rw [List.any_map, List.any_eq_false]
  intro i _
  show ¬ (PyData.eqv (.int i) .none = true)
  rw [eqv_in]
  exact Bool.false_ne_true
theorem hasN_odd (xs : List Int) : hasN (.list (xs.map encI ++ [PyData.none])) = true := by
  show (xs.map encI ++ [PyData.none]).any _ = true
  rw [List.any_append]
  show (_ || ([PyData.none].any fun y => PyData.eqv y .none)) = true
  rw [show ([PyData.none].any fun y => PyData.eqv y .none) = true from by show (PyData.eqv .none .none || false) = true; rw [eqv_nn]; rfl, Bool.or_true]
theorem flat_ints (xs : List Int) : (xs.map encI).all flat = true := by
  rw [List.all_map, List.all_eq_true]
  intro i _
  rfl
abbrev inT : MT := mT (mBin (gIn false) (mC .none) (mVar 13))
theorem in_test {e : En} {xs : List PyData} (h : e[13]? = some (some (.fz (.list xs)))) (hf : xs.all flat = true) : inT e = some (hasN (.list xs), e) := by
  have v : mVar 13 e = some (.val (.list xs), e) := by unfold mVar; simp only [h]
  have g : mBin (gIn false) (mC .none) (mVar 13) e = some (.val (.bool (hasN (.list xs))), e) := by
    refine (bnd_eq (a := .val .none) rfl).trans ((bnd_eq v).trans ?_)
    show Option.map _ (if (flat .none && xs.all flat) = true then _ else _) = _
    rw [hf]
    show some (P.val (.bool (false ^^ xs.any fun y => PyData.eqv y .none)), e) = _
    rw [Bool.false_xor]
    rfl
  exact (bnd_eq g).trans rfl
abbrev cntE : ME := mFn gLen (mCons (mLE (mLc (mItL (mVar 9)) (mgN 13) inT (mVar 13) [13])) mNil)
abbrev eC (L : List PyData) : En := [none, none, none, none, none, none, none, none, none, some (.fz (.list L)), none, none, none, none]
theorem cnt_ok {row : List Int} {rest : List (List Int)} (hl : rest.length < 1000000) : cntE (eC (rest.map (encL encI) ++ [.list (row.map encI ++ [PyData.none])])) = some (.val (.int 1), eC (rest.map (encL encI) ++ [.list (row.map encI ++ [PyData.none])])) := by
  have lc := lc_filter (mi := mItL (mVar 9)) (mt := inT) (i := 13) (env := eC (rest.map (encL encI) ++ [.list (row.map encI ++ [PyData.none])])) (e := eC (rest.map (encL encI) ++ [.list (row.map encI ++ [PyData.none])])) (e0 := eC (rest.map (encL encI) ++ [.list (row.map encI ++ [PyData.none])])) (ds := rest.map (encL encI) ++ [.list (row.map encI ++ [PyData.none])]) hasN rfl rfl rfl (show 13 < 14 by decide) (fun d hd => by
    rcases List.mem_append.mp hd with hd | hd
    · obtain ⟨xs, _, rfl⟩ := List.mem_map.mp hd
      exact in_test rfl (flat_ints xs)
    · rw [List.mem_singleton.mp hd]
      exact in_test rfl (by rw [List.all_append, flat_ints]; rfl)) (by rw [List.length_append, List.length_map, List.length_singleton]; exact le_line (by omega))
  have ft : (rest.map (encL encI) ++ [PyData.list (row.map encI ++ [PyData.none])]).filter hasN = [.list (row.map encI ++ [PyData.none])] := by
    rw [List.filter_append, List.filter_cons_of_pos (hasN_odd row)]
    have : (rest.map (encL encI)).filter hasN = [] := by
      refine List.filter_eq_nil_iff.mpr fun d hd => ?_
      obtain ⟨xs, _, rfl⟩ := List.mem_map.mp hd
      rw [hasN_row]
      exact Bool.false_ne_true
    rw [this]
    rfl
  rw [ft] at lc
  exact (bnd_eq ((bnd_eq ((bnd_eq lc).trans rfl)).trans rfl)).trans rfl
theorem enc_rows (r : List (List Int)) : (r.map fun x => x.map encI).map PyData.list = r.map (encL encI) := by rw [List.map_map]; rfl
theorem neq_of {ma mb : ME} {env : En} {a b : List (List Int)} {p q : P} (ha : ma env = some (p, env)) (hb : mb env = some (q, env)) (va : vw env p = some (encL (encL encI) a)) (vb : vw env q = some (encL (encL encI) b)) : mT (mBin (gEq true) ma mb) env = some (!decide (a = b), env) := by
  have e : mBin (gEq true) ma mb env = some (.val (.bool (true ^^ decide (a = b))), env) := (bnd_eq ha).trans ((bnd_eq hb).trans (oe_eq0 (eo_L (eo_L eo_I)) va vb))
  refine (bnd_eq e).trans ?_
  rw [Bool.true_xor]
  rfl
theorem if_eq {t : MT} {a b : MS} {env e : En} {c : Bool} (h : t env = some (c, e)) : mIf t a b env = if c = true then a e else b e := by
  refine (bnd_eq h).trans ?_
  cases c <;> rfl
theorem ne_strs {s : Str} {ma mb : ME} {env : En} (ha : ma env = some (.val (.str s), env)) (hb : mb env = some (.val (.str s), env)) (hs : SeqAt.shaped (.str s) = true) : mT (mBin (gEq true) ma mb) env = some (false, env) := by
  have e : mBin (gEq true) ma mb env = some (.val (.bool (true ^^ PyData.eqv (.str s) (.str s))), env) := by
    refine (bnd_eq ha).trans ((bnd_eq hb).trans ?_)
    show Option.map _ (if (SeqAt.shaped (.str s) && SeqAt.shaped (.str s)) = true then _ else _) = _
    rw [hs]
    rfl
  refine (bnd_eq e).trans ?_
  have q : PyData.eqv (.str s) (.str s) = true := by simp [PyData.eqv]
  rw [q]
  rfl
theorem if_no {t : MT} {a b : MS} {env : En} (h : t env = some (false, env)) : mIf t a b env = b env := (bnd_eq h).trans rfl
theorem forGo_nx {mg : PyData → En → Option En} {mb : MS} {E : Option O → Option O → En} (h1 : ∀ d x y, mg d (E x y) = some (E (some (.fz d)) y)) : ∀ (ds : List PyData) (x y : Option O), (∀ d ∈ ds, ∀ y, ∃ y', mb (E (some (.fz d)) y) = some (.nx, E (some (.fz d)) y')) → ∃ x' y', mForGo mg mb ds (E x y) = some (.nx, E x' y')
  | [], x, y, _ => ⟨x, y, rfl⟩
  | d :: ds, x, y, hb => by
    obtain ⟨y', e⟩ := hb d (List.mem_cons_self ..) y
    obtain ⟨x2, y2, ih⟩ := forGo_nx h1 ds (some (.fz d)) y' fun d' hd => hb d' (List.mem_cons_of_mem _ hd)
    refine ⟨x2, y2, ?_⟩
    unfold mForGo
    simp only [h1, e]
    exact ih

abbrev szS : Str := Str.ofString "size"
abbrev blS : Str := Str.ofString "ballots"
abbrev mk2 : Nat → PyData → Option Str := mkTwo 0 1 szS blS
abbrev noF : MS := mRet (mC (.bool false))
abbrev T2 : MS := mIf (mT (mBin (gI0 fun i j => .bool (decide (j < i))) (mVar 1) (mC (.int 0)))) (mAlias 9 10 (mUn gNeg (mC (.int 1))) (mCons (mC .none) mNil)
    (mIf (mT (mBin (gEq true) (mScoped 9 cntE) (mC (.int 1)))) noF mNext)) mNext
abbrev T3 : MS := mIf (mT (mBin (gEq true) (mFz (mCall [] m_rule_of_ballots (mCons (mVar 1) (mCons (mVar 2) mNil)))) (mVar 4))) noF mNext
abbrev B4 : MS := mIf (mT (mBin (gEq true) (mLamK (Str.ofString "told") mk2 x_rule_of_ballots (mCons (mVar 5) (mCons (mC .none) mNil))) (mFn gRepr (mCons (mLE (mDs (mCons (mC (.str szS)) (mCons (mVar 5) mNil)))) mNil)))) noF mNext
abbrev T4 : MS := mFor (mItL (mLE (mDs (mCons (mUn gNeg (mC (.int 1))) (mCons (mC (.int 13)) (mCons (mC .none) (mCons (mC (.bool true)) (mCons (mC (.str (Str.ofString "3"))) (mCons (mLE (mDs (mCons (mC (.int 3)) mNil))) mNil))))))))) (mgN 5) B4
abbrev T5 : MS := mAsg (mLE (mLRg1 (mVar 1))) (mgN 6)
abbrev T6 : MS := (mAsg (mLE (mDs (mCons (mC .none) (mCons (mFn gTupleOf (mCons (mVar 6) mNil)) (mCons (mLE (mBinL gCat (mVar 6) (mLE (mDs (mCons (mVar 1) mNil))))) (mCons (mLE (mBinL gCat (mVar 6) (mLE (mDs (mCons (mC (.int 0)) mNil))))) (mCons (mLE (mBinL gRep (mLE (mDs (mCons (mC .none) mNil))) (mBin (gI0 fun i j => .int (i + j)) (mVar 1) (mC (.int 1))))) (mCons (mC (.str (Str.ofString ""))) (mCons mDict (mCons (mC (.int 5)) mNil)))))))))) (mgN 7))
abbrev T7 : MS := (mAsg (mLE (mBinL gCat (mVar 7) (mLE (mBinL gRep (mLE (mDs (mCons (mLE (mSl (mVar 6) mNoPart (mPart (mUn gNeg (mC (.int 1)))))) (mCons (mLE (mBinL gCat (mLE (mSl (mVar 6) (mPart (mC (.int 1))) mNoPart)) (mLE (mSl (mVar 6) (mPart (mC (.int 1))) (mPart (mC (.int 2))))))) mNil)))) (mFn gInt (mCons (mBin (gI0 fun i j => .bool (decide (j < i))) (mVar 1) (mC (.int 2))) mNil)))))) (mgN 7))
abbrev T8 : MS := (mAsg (mLE (mBinL gCat (mVar 7) (mLE (mBinL gRep (mLE (mDs (mCons (mLE (mBinL gCat (mLE (mSl (mVar 6) mNoPart (mPart (mUn gNeg (mC (.int 1)))))) (mLE (mDs (mCons (mVar 1) mNil))))) (mCons (mLE (mBinL gCat (mLE (mSl (mVar 6) mNoPart (mPart (mUn gNeg (mC (.int 1)))))) (mLE (mDs (mCons (mUn gNeg (mC (.int 1))) mNil))))) mNil)))) (mFn gInt (mCons (mBin (gI0 fun i j => .bool (decide (j < i))) (mVar 1) (mC (.int 0))) mNil)))))) (mgN 7))
abbrev T9 : MS := (mAsg (mLE (mBinL gCat (mVar 7) (mLE (mBinL gRep (mLE (mDs (mCons (mLE (mBinL gCat (mLE (mDs (mCons (mC (.bool false)) (mCons (mC (.bool true)) mNil)))) (mLE (mSl (mVar 6) (mPart (mC (.int 2))) mNoPart)))) (mCons (mLE (mBinL gCat (mLE (mSl (mVar 6) mNoPart (mPart (mUn gNeg (mC (.int 1)))))) (mLE (mDs (mCons (mFn gStrI (mCons (mBin (gI0 fun i j => .int (i - j)) (mVar 1) (mC (.int 1))) mNil)) mNil))))) mNil)))) (mFn gInt (mCons (mBin (gI0 fun i j => .bool (decide (j < i))) (mVar 1) (mC (.int 1))) mNil)))))) (mgN 7))
abbrev T10 : MS := (mAsg (mLE (mBinL gCat (mVar 7) (mLE (mBinL gRep (mLE (mDs (mCons (mLE (mBinL gCat (mLE (mSl (mVar 6) mNoPart (mPart (mUn gNeg (mC (.int 1)))))) (mLE (mDs (mCons (mLE (mDs (mCons (mBin (gI0 fun i j => .int (i - j)) (mVar 1) (mC (.int 1))) mNil))) mNil))))) (mCons (mLE (mBinL gCat (mLE (mSl (mVar 6) mNoPart (mPart (mUn gNeg (mC (.int 1)))))) (mLE (mDs (mCons (mC .none) mNil))))) mNil)))) (mFn gInt (mCons (mBin (gI0 fun i j => .bool (decide (j < i))) (mVar 1) (mC (.int 0))) mNil)))))) (mgN 7))
abbrev T11 : MS := (mAsg (mLE (mBinL gCat (mVar 7) (mLE (mBinL gRep (mLE (mDs (mCons (mLE (mBinL gCat (mLE (mSl (mVar 6) mNoPart (mPart (mUn gNeg (mC (.int 3)))))) (mLE (mBinL gRep (mLE (mDs (mCons (mBin (gI0 fun i j => .int (i - j)) (mVar 1) (mC (.int 2))) mNil))) (mC (.int 3)))))) mNil))) (mFn gInt (mCons (mBin (gI0 fun i j => .bool (decide (j < i))) (mVar 1) (mC (.int 2))) mNil)))))) (mgN 7))
abbrev B12 : MS := mIf (mT (mBin (gEq true) (mLamK (Str.ofString "told") mk2 x_rule_of_ballots (mCons (mVar 1) (mCons (mLE (mBinL gCat (mVar 2) (mLE (mDs (mCons (mVar 5) (mCons (mC .none) mNil)))))) mNil))) (mFn gRepr (mCons (mLE (mDs (mCons (mC (.str blS)) (mCons (mFn gLen (mCons (mVar 2) mNil)) mNil)))) mNil)))) noF mNext
abbrev T12 : MS := mFor (mItL (mVar 7)) (mgN 5) B12
abbrev B13 : MS := mIf (mT (mBin (gEq true) (mLamK (Str.ofString "told") mk2 x_rule_of_ballots (mCons (mVar 1) (mCons (mVar 5) mNil))) (mFn gRepr (mCons (mLE (mDs (mCons (mC (.str blS)) (mCons (mC .none) mNil)))) mNil)))) noF mNext
abbrev T13 : MS := mFor (mItL (mLE (mDs (mCons (mC .none) (mCons (mTup mNil) (mCons (mC (.str (Str.ofString ""))) (mCons mDict (mCons (mC (.int 5)) mNil)))))))) (mgN 5) B13
abbrev E14 (D : List PyData) (n : Nat) (ss due : List (List Int)) (x3 x8 x9 x10 x11 x12 x13 : Option O) (x5 x6 x7 : Option O) : En := [some (.ow D), some (.fz (.int n)), some (.fz (encL (encL encI) ss)), x3, some (.fz (encL (encL encI) due)), x5, x6, x7, x8, x9, x10, x11, x12, x13]
abbrev E14i (D : List PyData) (m : Int) (ss due : List (List Int)) (x3 x8 x9 x10 x11 x12 x13 : Option O) (x5 x6 x7 : Option O) : En := [some (.ow D), some (.fz (.int m)), some (.fz (encL (encL encI) ss)), x3, some (.fz (encL (encL encI) due)), x5, x6, x7, x8, x9, x10, x11, x12, x13]
structure TailOk (n : Nat) (ss due told named : List (List Int)) : Prop where
  n12 : n ≤ 12
  nm : named = due
  td : told.length < 1000
  dl : due.length = n
  dr : ∀ row ∈ due, row.length ≤ 12
  ru : m_rule_of_ballots [.fz (.int n), .fz (encL (encL encI) ss)] = some (.ow2 (due.map fun r => r.map encI), [.fz (.int n), .fz (encL (encL encI) ss)])
  sl : ss.length ≤ 40
  sb : ∀ b ∈ ss, isRowD n (encL encI b) = true ∧ smallL (encL encI b)
open Classical in
noncomputable def t_tail (m : Int) (ss due told named : List (List Int)) : Option Bool := if ∃ n : Nat, m = (n : Int) ∧ TailOk n ss due told named then some true else none
theorem tail_of {n : Nat} {ss due told named : List (List Int)} (h : TailOk n ss due told named) : t_tail (n : Int) ss due told named = some true := if_pos ⟨n, rfl, h⟩
section
variable {D : List PyData} {n : Nat} {ss due told named : List (List Int)} {x3 x8 x9 x10 x11 x12 x13 x5 x6 x7 : Option O}
theorem ixN_m1 {k : Nat} (h : 0 < k) : ixN k (-1) = some (k - 1) := by
  obtain ⟨m, rfl⟩ : ∃ m, k = m + 1 := ⟨k - 1, by omega⟩
  unfold ixN
  first
    | (simp; omega)
    | (rw [if_neg (by omega), if_pos (by omega)]; congr 1; omega)
theorem T2_ok (h : due.length = n) (hr : ∀ row ∈ due, row.length ≤ 12) (hn : n ≤ 12) : ∃ rows x10', T2 (E14 D n ss due x3 x8 (some (.ow2 (due.map fun r => r.map encI))) x10 x11 x12 x13 x5 x6 x7) = some (.nx, E14 D n ss due x3 x8 (some (.ow2 rows)) x10' x11 x12 x13 x5 x6 x7) := by
  have t : mT (mBin (gI0 fun i j => .bool (decide (j < i))) (mVar 1) (mC (.int 0))) (E14 D n ss due x3 x8 (some (.ow2 (due.map fun r => r.map encI))) x10 x11 x12 x13 x5 x6 x7) = some (decide ((0 : Int) < (n : Int)), E14 D n ss due x3 x8 (some (.ow2 (due.map fun r => r.map encI))) x10 x11 x12 x13 x5 x6 x7) := rfl
  by_cases h0 : 0 < n
  · obtain ⟨rest, row, rfl⟩ : ∃ rest row, due = rest ++ [row] := by
      have ne : due ≠ [] := fun e => by rw [e] at h; simp at h; omega
      exact ⟨due.dropLast, due.getLast ne, (List.dropLast_concat_getLast ne).symm⟩
    have hz := hr row (List.mem_append_right _ (List.mem_singleton.mpr rfl))
    rw [List.length_append, List.length_singleton] at h
    rw [decide_eq_true (by omega)] at t
    have em : ((rest ++ [row]).map fun r => r.map encI) = (rest.map fun r => r.map encI) ++ [row.map encI] := by rw [List.map_append]; rfl
    have lm : ((rest ++ [row]).map fun r => r.map encI).length = rest.length + 1 := by rw [List.length_map, List.length_append, List.length_singleton]
    refine ⟨(rest.map fun r => r.map encI) ++ [row.map encI ++ [PyData.none]], none, (if_eq t).trans ?_⟩
    rw [if_pos rfl]
    refine (alias_eq (n := rest.length) (rows := (rest ++ [row]).map fun r => r.map encI) (row := row.map encI) (x := -1) (d := .none) (e1 := E14 D n ss (rest ++ [row]) x3 x8 (some (.ow2 ((rest ++ [row]).map fun r => r.map encI))) x10 x11 x12 x13 x5 x6 x7) rfl rfl (by rw [lm, ixN_m1 (by omega)]; congr 1) (by rw [em, List.getElem?_append_right (by rw [List.length_map]; omega), List.length_map, Nat.sub_self]; rfl) rfl ⟨(show 10 < 14 by decide), by rw [List.length_map]; exact lt_line (by omega)⟩).trans ?_
    have es : ((rest ++ [row]).map fun r => r.map encI).set rest.length (row.map encI ++ [PyData.none]) = (rest.map fun r => r.map encI) ++ [row.map encI ++ [PyData.none]] := by
      rw [em, List.set_append_right _ _ (by rw [List.length_map]; omega), List.length_map, Nat.sub_self]
      rfl
    rw [es]
    show mIf (mT (mBin (gEq true) (mScoped 9 cntE) (mC (.int 1)))) noF mNext (E14 D n ss (rest ++ [row]) x3 x8 (some (.ow2 ((rest.map fun r => r.map encI) ++ [row.map encI ++ [PyData.none]]))) none x11 x12 x13 x5 x6 x7) = _
    have sc : mScoped 9 cntE (E14 D n ss (rest ++ [row]) x3 x8 (some (.ow2 ((rest.map fun r => r.map encI) ++ [row.map encI ++ [PyData.none]]))) none x11 x12 x13 x5 x6 x7) = some (.val (.int 1), E14 D n ss (rest ++ [row]) x3 x8 (some (.ow2 ((rest.map fun r => r.map encI) ++ [row.map encI ++ [PyData.none]]))) none x11 x12 x13 x5 x6 x7) := by
      unfold mScoped
      show (match cntE (eC (((rest.map fun r => r.map encI) ++ [row.map encI ++ [PyData.none]]).map PyData.list)) with | some (.val (.int i), _) => some (P.val (.int i), _) | _ => none) = _
      have e2 : ((rest.map fun r => r.map encI) ++ [row.map encI ++ [PyData.none]]).map PyData.list = rest.map (encL encI) ++ [.list (row.map encI ++ [PyData.none])] := by rw [List.map_append, enc_rows]; rfl
      rw [e2, cnt_ok (by omega)]
    have t2 : mT (mBin (gEq true) (mScoped 9 cntE) (mC (.int 1))) (E14 D n ss (rest ++ [row]) x3 x8 (some (.ow2 ((rest.map fun r => r.map encI) ++ [row.map encI ++ [PyData.none]]))) none x11 x12 x13 x5 x6 x7) = some (false, E14 D n ss (rest ++ [row]) x3 x8 (some (.ow2 ((rest.map fun r => r.map encI) ++ [row.map encI ++ [PyData.none]]))) none x11 x12 x13 x5 x6 x7) := by
      have e : mBin (gEq true) (mScoped 9 cntE) (mC (.int 1)) (E14 D n ss (rest ++ [row]) x3 x8 (some (.ow2 ((rest.map fun r => r.map encI) ++ [row.map encI ++ [PyData.none]]))) none x11 x12 x13 x5 x6 x7) = some (.val (.bool (true ^^ decide ((1 : Int) = 1))), _) := (bnd_eq sc).trans ((bnd_eq (a := .val (.int 1)) rfl).trans (oe_eq0 (a := (1 : Int)) (b := 1) eo_I rfl rfl))
      exact (bnd_eq e).trans rfl
    exact (if_eq t2).trans rfl
  · rw [decide_eq_false (by omega)] at t
    exact ⟨_, x10, (if_eq t).trans rfl⟩
theorem T3_ok (h : m_rule_of_ballots [.fz (.int n), .fz (encL (encL encI) ss)] = some (.ow2 (due.map fun r => r.map encI), [.fz (.int n), .fz (encL (encL encI) ss)])) : T3 (E14 D n ss due x3 x8 x9 x10 x11 x12 x13 x5 x6 x7) = some (.nx, E14 D n ss due x3 x8 x9 x10 x11 x12 x13 x5 x6 x7) := by
  have c := call1 (ps := [.val (.int n), .val (encL (encL encI) ss)]) (env := E14 D n ss due x3 x8 x9 x10 x11 x12 x13 x5 x6 x7) h rfl
  have c2 : mFz (mCall [] m_rule_of_ballots (mCons (mVar 1) (mCons (mVar 2) mNil))) (E14 D n ss due x3 x8 x9 x10 x11 x12 x13 x5 x6 x7) = some (.val (encL (encL encI) due), E14 D n ss due x3 x8 x9 x10 x11 x12 x13 x5 x6 x7) := by
    refine (bnd_eq (a := .ow2 (due.map fun r => r.map encI)) ((bnd_eq (a := [.val (.int n), .val (encL (encL encI) ss)]) rfl).trans c)).trans ?_
    show some (P.val (.list _), _) = _
    rw [enc_rows]
    rfl
  have t := neq_of (ma := mFz (mCall [] m_rule_of_ballots (mCons (mVar 1) (mCons (mVar 2) mNil)))) (mb := mVar 4) (a := due) (b := due) c2 rfl rfl rfl
  rw [decide_eq_true rfl] at t
  exact (if_eq t).trans rfl
abbrev tll (s : Str) (d : PyData) : Prop := reprOk (.list [.str s, d]) = true ∧ deepD (.list [.str s, d]) ≤ 60 ∧ (reprD (.list [.str s, d])).length ≤ 1000 ∧ SeqAt.shaped (.str (reprD (.list [.str s, d]))) = true
theorem tll_tell {s : Str} {d : PyData} (h : tll s d) : tellL s d := ⟨h.1, h.2.1, le_line (Nat.le_trans h.2.2.1 (by decide))⟩
theorem rep_same {s : Str} {me : ME} {d : PyData} {env : En} (hm : me env = some (.val d, env)) (h : tll s d) : mFn gRepr (mCons (mLE (mDs (mCons (mC (.str s)) (mCons me mNil)))) mNil) env = some (.val (.str (reprD (.list [.str s, d]))), env) := by
  have a : mCons (mC (.str s)) (mCons me mNil) env = some ([.val (.str s), .val d], env) := (bnd_eq (show mC (.str s) env = some (.val (.str s), env) from rfl)).trans ((bnd_eq ((bnd_eq hm).trans rfl)).trans rfl)
  have b : mDs (mCons (mC (.str s)) (mCons me mNil)) env = some ([.str s, d], env) := (bnd_eq a).trans rfl
  have c : mCons (mLE (mDs (mCons (mC (.str s)) (mCons me mNil)))) mNil env = some ([.val (.list [.str s, d])], env) := (bnd_eq ((bnd_eq b).trans rfl)).trans rfl
  exact (bnd_eq c).trans (xo_repr (p := .val (.list [.str s, d])) (env := env) rfl _ (if_pos ⟨rfl, (tll_tell h).1, (tll_tell h).2.1, (tll_tell h).2.2⟩))
theorem sizes_tell : ∀ d ∈ sizesD, tll szS d := by
  intro d hd
  unfold sizesD at hd
  simp only [List.mem_cons, List.not_mem_nil, or_false] at hd
  rcases hd with rfl | rfl | rfl | rfl | rfl | rfl <;> decide +kernel
theorem len_tell : ∀ k : Nat, k < 41 → tll blS (.int (k : Nat)) := by decide +kernel
theorem none_tell : tll blS .none := by decide +kernel
theorem T4_ok : ∃ x5', T4 (E14 D n ss due x3 x8 x9 x10 x11 x12 x13 x5 x6 x7) = some (.nx, E14 D n ss due x3 x8 x9 x10 x11 x12 x13 x5' x6 x7) := by
  obtain ⟨x', y', e⟩ := forGo_nx (mg := mgN 5) (mb := B4) (E := fun a _ => E14 D n ss due x3 x8 x9 x10 x11 x12 x13 a x6 x7) (fun d x y => rfl) sizesD x5 none fun d hd y => ⟨none, by
    have h := sizes_tell d hd
    have hm : mk2 0 d = some (reprD (.list [.str szS, d])) := if_pos ⟨rfl, tll_tell h⟩
    have f : mLamK (Str.ofString "told") mk2 x_rule_of_ballots (mCons (mVar 5) (mCons (mC .none) mNil)) (E14 D n ss due x3 x8 x9 x10 x11 x12 x13 (some (.fz d)) x6 x7) = some (.val (.str (reprD (.list [.str szS, d]))), E14 D n ss due x3 x8 x9 x10 x11 x12 x13 (some (.fz d)) x6 x7) := lamK_eq (ps := [.val d, .val .none]) rfl rfl (rule_size (sizes_bad d hd)) hm
    exact (if_no (ne_strs f (rep_same (me := mVar 5) rfl h) h.2.2.2)).trans rfl⟩
  exact ⟨x', (bnd_eq (a := sizesD) (e := E14 D n ss due x3 x8 x9 x10 x11 x12 x13 x5 x6 x7) rfl).trans e⟩
theorem odd_made (hn : n ≤ 12) : mSeq T5 (mSeq T6 (mSeq T7 (mSeq T8 (mSeq T9 (mSeq T10 T11))))) (E14 D n ss due x3 x8 x9 x10 x11 x12 x13 x5 x6 x7) = some (.nx, E14 D n ss due x3 x8 x9 x10 x11 x12 x13 x5 (some (.fz (.list (wholeD n)))) (some (.fz (.list (oddD n))))) := by
  have : n = 0 ∨ n = 1 ∨ n = 2 ∨ n = 3 ∨ n = 4 ∨ n = 5 ∨ n = 6 ∨ n = 7 ∨ n = 8 ∨ n = 9 ∨ n = 10 ∨ n = 11 ∨ n = 12 := by omega
  rcases this with rfl | rfl | rfl | rfl | rfl | rfl | rfl | rfl | rfl | rfl | rfl | rfl | rfl <;> rfl
theorem odd_all (hn : n ≤ 12) : ∀ d ∈ oddD n, isRowD n d = false ∧ smallL d := by
  intro d hd
  have a := List.all_eq_true.mp (odd_bad n (by omega)) d hd
  rw [Bool.and_eq_true] at a
  refine ⟨by have := a.1; cases h : isRowD n d <;> simp_all, fun ds e => ?_⟩
  have := a.2
  rw [e] at this
  exact of_decide_eq_true this
theorem T12_ok (h : TailOk n ss due told named) : ∃ x5', T12 (E14 D n ss due x3 x8 x9 x10 x11 x12 x13 x5 x6 (some (.fz (.list (oddD n))))) = some (.nx, E14 D n ss due x3 x8 x9 x10 x11 x12 x13 x5' x6 (some (.fz (.list (oddD n))))) := by
  obtain ⟨x', y', e⟩ := forGo_nx (mg := mgN 5) (mb := B12) (E := fun a _ => E14 D n ss due x3 x8 x9 x10 x11 x12 x13 a x6 (some (.fz (.list (oddD n))))) (fun d x y => rfl) (oddD n) x5 none fun d hd y => ⟨none, by
    obtain ⟨o1, o2⟩ := odd_all h.n12 d hd
    have h2 := len_tell ss.length (by have := h.sl; omega)
    have hm : mk2 1 (.int (ss.length : Nat)) = some (reprD (.list [.str blS, .int (ss.length : Nat)])) := (if_neg fun z => nomatch z.1).trans (if_pos ⟨rfl, by decide, tll_tell h2⟩)
    have bb := balls_bad (n := n) (bs := ss.map (encL encI)) (rest := [.none]) (bad := d) (fun b hb => by
      obtain ⟨b', hb', rfl⟩ := List.mem_map.mp hb
      exact h.sb b' hb') o1 o2
    rw [List.length_map] at bb
    have g : gCat (E14 D n ss due x3 x8 x9 x10 x11 x12 x13 (some (.fz d)) x6 (some (.fz (.list (oddD n))))) (.val (encL (encL encI) ss)) (.val (.list [d, .none])) = some (ss.map (encL encI) ++ [d, .none]) := by
      unfold gCat
      show (if _ then _ else _) = _
      rw [if_pos (by rw [List.length_map]; exact le_line (by have := h.sl; simp; omega))]
    have b : mBinL gCat (mVar 2) (mLE (mDs (mCons (mVar 5) (mCons (mC .none) mNil)))) (E14 D n ss due x3 x8 x9 x10 x11 x12 x13 (some (.fz d)) x6 (some (.fz (.list (oddD n))))) = some (ss.map (encL encI) ++ [d, .none], E14 D n ss due x3 x8 x9 x10 x11 x12 x13 (some (.fz d)) x6 (some (.fz (.list (oddD n))))) := by
      refine (bnd_eq (a := .val (encL (encL encI) ss)) (e := E14 D n ss due x3 x8 x9 x10 x11 x12 x13 (some (.fz d)) x6 (some (.fz (.list (oddD n))))) rfl).trans ((bnd_eq (a := .val (.list [d, .none])) (e := E14 D n ss due x3 x8 x9 x10 x11 x12 x13 (some (.fz d)) x6 (some (.fz (.list (oddD n))))) rfl).trans ?_)
      rw [g]
      rfl
    have ca : mCons (mVar 1) (mCons (mLE (mBinL gCat (mVar 2) (mLE (mDs (mCons (mVar 5) (mCons (mC .none) mNil)))))) mNil) (E14 D n ss due x3 x8 x9 x10 x11 x12 x13 (some (.fz d)) x6 (some (.fz (.list (oddD n))))) = some ([.val (.int n), .val (.list (ss.map (encL encI) ++ [d, .none]))], E14 D n ss due x3 x8 x9 x10 x11 x12 x13 (some (.fz d)) x6 (some (.fz (.list (oddD n))))) := (bnd_eq (show mVar 1 (E14 D n ss due x3 x8 x9 x10 x11 x12 x13 (some (.fz d)) x6 (some (.fz (.list (oddD n))))) = some (.val (.int n), E14 D n ss due x3 x8 x9 x10 x11 x12 x13 (some (.fz d)) x6 (some (.fz (.list (oddD n))))) from rfl)).trans ((bnd_eq ((bnd_eq ((bnd_eq b).trans rfl)).trans rfl)).trans rfl)
    have f : mLamK (Str.ofString "told") mk2 x_rule_of_ballots (mCons (mVar 1) (mCons (mLE (mBinL gCat (mVar 2) (mLE (mDs (mCons (mVar 5) (mCons (mC .none) mNil)))))) mNil)) (E14 D n ss due x3 x8 x9 x10 x11 x12 x13 (some (.fz d)) x6 (some (.fz (.list (oddD n))))) = some (.val (.str (reprD (.list [.str blS, .int (ss.length : Nat)]))), E14 D n ss due x3 x8 x9 x10 x11 x12 x13 (some (.fz d)) x6 (some (.fz (.list (oddD n))))) := lamK_eq ca rfl (rule_balls h.n12 bb) hm
    have ln : mFn gLen (mCons (mVar 2) mNil) (E14 D n ss due x3 x8 x9 x10 x11 x12 x13 (some (.fz d)) x6 (some (.fz (.list (oddD n))))) = some (.val (.int (ss.length : Nat)), E14 D n ss due x3 x8 x9 x10 x11 x12 x13 (some (.fz d)) x6 (some (.fz (.list (oddD n))))) := by
      refine (bnd_eq (a := [.val (encL (encL encI) ss)]) (e := E14 D n ss due x3 x8 x9 x10 x11 x12 x13 (some (.fz d)) x6 (some (.fz (.list (oddD n))))) rfl).trans ?_
      show some (P.val (.int ((ss.map (encL encI)).length : Nat)), _) = _
      rw [List.length_map]
    exact (if_no (ne_strs f (rep_same ln h2) h2.2.2.2)).trans rfl⟩
  exact ⟨x', (bnd_eq (a := oddD n) (e := E14 D n ss due x3 x8 x9 x10 x11 x12 x13 x5 x6 (some (.fz (.list (oddD n))))) rfl).trans e⟩
theorem T13_ok (hn : n ≤ 12) : ∃ x5', T13 (E14 D n ss due x3 x8 x9 x10 x11 x12 x13 x5 x6 x7) = some (.nx, E14 D n ss due x3 x8 x9 x10 x11 x12 x13 x5' x6 x7) := by
  obtain ⟨x', y', e⟩ := forGo_nx (mg := mgN 5) (mb := B13) (E := fun a _ => E14 D n ss due x3 x8 x9 x10 x11 x12 x13 a x6 x7) (fun d x y => rfl) [.none, .tuple [], .str (Str.ofString ""), .dict [], .int 5] x5 none fun d hd y => ⟨none, by
    have hm : mk2 1 .none = some (reprD (.list [.str blS, .none])) := (if_neg fun z => nomatch z.1).trans (if_pos ⟨rfl, by decide, tll_tell none_tell⟩)
    have bb : x_check_ballots [.fz (.int n), .fz d] = some (.ex 1 .none) := balls_none (by
      simp only [List.mem_cons, List.not_mem_nil, or_false] at hd
      rcases hd with rfl | rfl | rfl | rfl | rfl <;> rfl)
    have f : mLamK (Str.ofString "told") mk2 x_rule_of_ballots (mCons (mVar 1) (mCons (mVar 5) mNil)) (E14 D n ss due x3 x8 x9 x10 x11 x12 x13 (some (.fz d)) x6 x7) = some (.val (.str (reprD (.list [.str blS, .none]))), E14 D n ss due x3 x8 x9 x10 x11 x12 x13 (some (.fz d)) x6 x7) := lamK_eq (ps := [.val (.int n), .val d]) rfl rfl (rule_balls hn bb) hm
    exact (if_no (ne_strs f (rep_same (me := mC .none) rfl none_tell) none_tell.2.2.2)).trans rfl⟩
  exact ⟨x', (bnd_eq (a := [.none, .tuple [], .str (Str.ofString ""), .dict [], .int 5]) (e := E14 D n ss due x3 x8 x9 x10 x11 x12 x13 x5 x6 x7) rfl).trans e⟩
theorem seq_assoc (a b c : MS) : mSeq (mSeq a b) c = mSeq a (mSeq b c) := by
  funext env
  unfold mSeq
  cases a env with
  | none => rfl
  | some p =>
    obtain ⟨k, e⟩ := p
    cases k <;> rfl
theorem xv_tail {m : Int} : ∀ c, t_tail m ss due told named = some c → ∃ k e, (mSeq (mAppG 8 (mCons (mC .none) mNil)) (mSeq T2 (mSeq T3 (mSeq T4 (mSeq T5 (mSeq T6 (mSeq T7 (mSeq T8 (mSeq T9 (mSeq T10 (mSeq T11 (mSeq T12 (mSeq T13 (mRet (mC (.bool true)))))))))))))))) (E14i D m ss due x3 (some (.ow2 (told.map fun r => r.map encI))) (some (.ow2 (named.map fun r => r.map encI))) x10 x11 x12 x13 x5 x6 x7) = some (k, e) ∧ k ≠ .nx ∧ (k = .rt (.fz (encB c)) ∧ e[0]? = some (some (.ow D))) := by
  intro c hc
  unfold t_tail at hc
  split at hc
  case isFalse => cases hc
  rename_i hh
  cases hc
  obtain ⟨n, rfl, h⟩ := hh
  obtain ⟨n12, rfl, td, dl, dr, ru, sl, sb⟩ := id h
  have t1 : mAppG 8 (mCons (mC .none) mNil) (E14 D n ss named x3 (some (.ow2 (told.map fun r => r.map encI))) (some (.ow2 (named.map fun r => r.map encI))) x10 x11 x12 x13 x5 x6 x7) = some (.nx, E14 D n ss named x3 none (some (.ow2 (named.map fun r => r.map encI))) x10 x11 x12 x13 x5 x6 x7) := by
    show (if (told.map fun r => r.map encI).length < sizeLine then some (Ctl.nx, _) else none) = _
    rw [if_pos (by rw [List.length_map]; exact lt_line (by omega))]
    rfl
  obtain ⟨rows, x10', t2⟩ := T2_ok (D := D) (ss := ss) (x3 := x3) (x8 := none) (x10 := x10) (x11 := x11) (x12 := x12) (x13 := x13) (x5 := x5) (x6 := x6) (x7 := x7) dl dr n12
  have t3 := T3_ok (D := D) (x3 := x3) (x8 := none) (x9 := some (.ow2 rows)) (x10 := x10') (x11 := x11) (x12 := x12) (x13 := x13) (x5 := x5) (x6 := x6) (x7 := x7) ru
  obtain ⟨y5, t4⟩ := T4_ok (D := D) (n := n) (ss := ss) (due := named) (x3 := x3) (x8 := none) (x9 := some (.ow2 rows)) (x10 := x10') (x11 := x11) (x12 := x12) (x13 := x13) (x5 := x5) (x6 := x6) (x7 := x7)
  have t5 := odd_made (D := D) (n := n) (ss := ss) (due := named) (x3 := x3) (x8 := none) (x9 := some (.ow2 rows)) (x10 := x10') (x11 := x11) (x12 := x12) (x13 := x13) (x5 := y5) (x6 := x6) (x7 := x7) n12
  obtain ⟨z5, t12⟩ := T12_ok (D := D) (x3 := x3) (x8 := none) (x9 := some (.ow2 rows)) (x10 := x10') (x11 := x11) (x12 := x12) (x13 := x13) (x5 := y5) (x6 := some (.fz (.list (wholeD n)))) h
  obtain ⟨w5, t13⟩ := T13_ok (D := D) (n := n) (ss := ss) (due := named) (x3 := x3) (x8 := none) (x9 := some (.ow2 rows)) (x10 := x10') (x11 := x11) (x12 := x12) (x13 := x13) (x5 := z5) (x6 := some (.fz (.list (wholeD n)))) (x7 := some (.fz (.list (oddD n)))) n12
  refine ⟨.rt (.fz (.bool true)), E14 D n ss named x3 none (some (.ow2 rows)) x10' x11 x12 x13 w5 (some (.fz (.list (wholeD n)))) (some (.fz (.list (oddD n)))), (seq_eq t1).trans ((seq_eq t2).trans ((seq_eq t3).trans ((seq_eq t4).trans ?_))), (fun z => nomatch z), rfl, rfl⟩
  · have q : mSeq T5 (mSeq T6 (mSeq T7 (mSeq T8 (mSeq T9 (mSeq T10 (mSeq T11 (mSeq T12 (mSeq T13 (mRet (mC (.bool true))))))))))) = mSeq (mSeq T5 (mSeq T6 (mSeq T7 (mSeq T8 (mSeq T9 (mSeq T10 (T11))))))) (mSeq T12 (mSeq T13 (mRet (mC (.bool true))))) := by
      simp only [seq_assoc]
    rw [q]
    exact (seq_eq t5).trans ((seq_eq t12).trans ((seq_eq t13).trans rfl))
theorem vws_two {env : En} {a b : List (List Int)} (ha : env[8]? = some (some (.ow2 (a.map fun r => r.map encI)))) (hb : env[9]? = some (some (.ow2 (b.map fun r => r.map encI)))) : vws env [8, 9] = some [encL (encL encI) a, encL (encL encI) b] := by
  have g : ∀ {i : Nat} {a : List (List Int)}, env[i]? = some (some (.ow2 (a.map fun r => r.map encI))) → vw env (.var i) = some (encL (encL encI) a) := fun {i a} h => by
    unfold vw
    simp only [h]
    rw [enc_rows]
    rfl
  unfold vws
  rw [g ha]
  unfold vws
  rw [g hb]
  rfl
end
end My
namespace My
open PySem PySem.Spec PyProof.Rows L2 Tr
variable [TC] [TabC]
noncomputable section
open Prod (fst snd)
def t_is_whole (thing_1_ : Int) : Option Bool := some (true && (!false))
theorem tk_is_whole (thing_1_ : Int) : ∀ bb, t_is_whole thing_1_ = some bb → m_is_whole [(O.fz (encI thing_1_))] = some ((fun (bb : Bool) => (O.fz (encB bb))) bb, (fun (bb : Bool) => [(O.fz (encI thing_1_))]) bb) := by
  unfold t_is_whole m_is_whole
  refine def_T (ro := (fun (bb : Bool) => (O.fz (encB bb)))) (ios := (fun (bb : Bool) => [(O.fz (encI thing_1_))])) rfl ?_
  show SV _ [some (O.fz (encI thing_1_))] _ _
  refine sv_last ?_
  exact sv_exit (ct := (Ctl.rt (O.fz (encB (true && (!false)))))) (e := [some (O.fz (encI thing_1_))]) ((bnd_eq (a := (P.val (encB (true && (!false))))) (e := [some (O.fz (encI thing_1_))]) (oe_andV rfl rfl)).trans rfl) (fun h => nomatch h) ⟨.inl rfl, rfl⟩
def t_is_item (size_2_ : Int) (thing_3_ : Int) : Option Bool := (((t_is_whole thing_3_).map fun b4_ => (b4_, ())).bind fun b7_ => if (fst b7_) = true then (fun s5_ => (some ((decide ((0 : Int) ≤ thing_3_) && decide (thing_3_ < size_2_)), ()))) (snd b7_) else some (false, (snd b7_))).map fun b6_ => (fst b6_)
theorem tk_is_item (size_2_ : Int) (thing_3_ : Int) : ∀ bb, t_is_item size_2_ thing_3_ = some bb → m_is_item [(O.fz (encI size_2_)), (O.fz (encI thing_3_))] = some ((fun (bb : Bool) => (O.fz (encB bb))) bb, (fun (bb : Bool) => [(O.fz (encI size_2_)), (O.fz (encI thing_3_))]) bb) := by
  unfold t_is_item m_is_item
  refine def_T (ro := (fun (bb : Bool) => (O.fz (encB bb)))) (ios := (fun (bb : Bool) => [(O.fz (encI size_2_)), (O.fz (encI thing_3_))])) rfl ?_
  show SV _ [some (O.fz (encI size_2_)), some (O.fz (encI thing_3_))] _ _
  refine sv_last ?_
  exact sv_exitV (ct := fun b6_ => (Ctl.rt (O.fz (encB (fst b6_))))) (st := fun b6_ => [some (O.fz (encI size_2_)), some (O.fz (encI thing_3_))]) (xv_VP (xv_andVV (E := (fun s5_ => [some (O.fz (encI size_2_)), some (O.fz (encI thing_3_))])) (t2 := (fun s5_ => (some ((decide ((0 : Int) ≤ thing_3_) && decide (thing_3_ < size_2_)), ())))) (xv_map (t := (t_is_whole thing_3_)) (f := fun b4_ => (b4_, ())) (xv_VP (xv_PV' (a := [(P.val (encI thing_3_))]) (e2 := [some (O.fz (encI size_2_)), some (O.fz (encI thing_3_))]) rfl (xo_call (tk_is_whole thing_3_) rfl rfl rfl (fun _ => rfl))) (fun b4_ => rfl))) (fun s5_ => (xv_some (oe_chain rfl rfl rfl)))) (fun b6_ => rfl)) (fun _ h => nomatch h) (fun _ => ⟨.inl rfl, rfl⟩)
def t_is_row (size_8_ : Int) (thing_9_ : (List Int)) : Option Bool := (if ((!true) || (!(decide (((List.length thing_9_ : Nat) : Int) = size_8_)))) = true then (some false) else ((((cmpO (fun _ => some true) (fun a10_ => (t_is_item size_8_ a10_).map fun b11_ => b11_) thing_9_).map fun b12_ => ((List.all b12_ id), ())).bind fun b17_ => if (fst b17_) = true then (fun s14_ => ((lenSetI thing_9_).map fun b15_ => ((decide (b15_ = size_8_)), ()))) (snd b17_) else some (false, (snd b17_))).map fun b16_ => (fst b16_)))
theorem tk_is_row (size_8_ : Int) (thing_9_ : (List Int)) : ∀ bb, t_is_row size_8_ thing_9_ = some bb → m_is_row [(O.fz (encI size_8_)), (O.fz ((encL encI) thing_9_))] = some ((fun (bb : Bool) => (O.fz (encB bb))) bb, (fun (bb : Bool) => [(O.fz (encI size_8_)), (O.fz ((encL encI) thing_9_))]) bb) := by
  unfold t_is_row m_is_row
  refine def_T (ro := (fun (bb : Bool) => (O.fz (encB bb)))) (ios := (fun (bb : Bool) => [(O.fz (encI size_8_)), (O.fz ((encL encI) thing_9_))])) rfl ?_
  show SV _ [some (O.fz (encI size_8_)), some (O.fz ((encL encI) thing_9_)), none] _ _
  refine sv_last ?_
  refine sv_assoc ?_
  refine sv_if (oe_or rfl ((bnd_eq (a := (P.val (encB (!(decide (((List.length thing_9_ : Nat) : Int) = size_8_)))))) (e := [some (O.fz (encI size_8_)), some (O.fz ((encL encI) thing_9_)), none]) ((bnd_eq (a := (P.val (encI ((List.length thing_9_ : Nat) : Int)))) (e := [some (O.fz (encI size_8_)), some (O.fz ((encL encI) thing_9_)), none]) ((bnd_eq (a := [(P.val ((encL encI) thing_9_))]) (e := [some (O.fz (encI size_8_)), some (O.fz ((encL encI) thing_9_)), none]) rfl).trans (oe_len rfl))).trans ((bnd_eq (a := (P.val (encI size_8_))) (e := [some (O.fz (encI size_8_)), some (O.fz ((encL encI) thing_9_)), none]) rfl).trans (oe_eq (a := ((List.length thing_9_ : Nat) : Int)) (b := size_8_) eo_I rfl rfl)))).trans rfl)) ?_ ?_
  · exact sv_exit (ct := (Ctl.rt (O.fz (encB false)))) (e := [some (O.fz (encI size_8_)), some (O.fz ((encL encI) thing_9_)), none]) rfl (fun h => nomatch h) ⟨.inl rfl, rfl⟩
  · refine sv_nx (e := [some (O.fz (encI size_8_)), some (O.fz ((encL encI) thing_9_)), none]) rfl ?_
    exact sv_exitV (ct := fun b16_ => (Ctl.rt (O.fz (encB (fst b16_))))) (st := fun b16_ => [some (O.fz (encI size_8_)), some (O.fz ((encL encI) thing_9_)), none]) (xv_VP (xv_andVV (E := (fun s14_ => [some (O.fz (encI size_8_)), some (O.fz ((encL encI) thing_9_)), none])) (t2 := (fun s14_ => ((lenSetI thing_9_).map fun b15_ => ((decide (b15_ = size_8_)), ())))) (xv_map (t := (cmpO (fun _ => some true) (fun a10_ => (t_is_item size_8_ a10_).map fun b11_ => b11_) thing_9_)) (f := fun b12_ => ((List.all b12_ id), ())) (xv_VP (xv_VP (xv_VP (xv_PV' (a := (List.map encI thing_9_)) (e2 := [some (O.fz (encI size_8_)), some (O.fz ((encL encI) thing_9_)), none]) rfl (lc_O (en := encI) (en' := encB) (E1 := (fun a10_ => [some (O.fz (encI size_8_)), some (O.fz ((encL encI) thing_9_)), some (O.fz (encI a10_))])) rfl (fun _ => rfl) (fun _ => xv_some rfl) (fun a10_ => xv_map (xv_VP (xv_PV' (a := [(P.val (encI size_8_)), (P.val (encI a10_))]) (e2 := [some (O.fz (encI size_8_)), some (O.fz ((encL encI) thing_9_)), some (O.fz (encI a10_))]) rfl (xo_call (tk_is_item size_8_ a10_) rfl rfl rfl (fun _ => rfl))) (fun b11_ => rfl))) (fun _ => rfl))) (fun b12_ => rfl)) (fun b12_ => rfl)) (fun b12_ => (oe_all rfl)))) (fun s14_ => (xv_map (t := (lenSetI thing_9_)) (f := fun b15_ => ((decide (b15_ = size_8_)), ())) (xv_VP (xv_PV' (a := [(P.val ((encL encI) thing_9_))]) (e2 := [some (O.fz (encI size_8_)), some (O.fz ((encL encI) thing_9_)), none]) rfl (xo_lenSet rfl)) (fun b15_ => ((bnd_eq (a := (P.val (encI size_8_))) (e := [some (O.fz (encI size_8_)), some (O.fz ((encL encI) thing_9_)), none]) rfl).trans (oe_eq (a := b15_) (b := size_8_) eo_I rfl rfl))))))) (fun b16_ => rfl)) (fun _ h => nomatch h) (fun _ => ⟨.inl rfl, rfl⟩)
def t_check_size (size_18_ : Int) : Option Unit := (((t_is_whole size_18_).map fun b19_ => ((!b19_), ())).bind fun b22_ => if (fst b22_) = true then some (true, (snd b22_)) else (fun s20_ => (some (((decide (size_18_ < (0 : Int))) || (decide ((12 : Int) < size_18_))), ()))) (snd b22_)).bind fun b21_ => if (fst b21_) = true then ((none : Option Unit)) else (some ())
theorem tk_check_size (size_18_ : Int) : ∀ bb, t_check_size size_18_ = some bb → m_check_size [(O.fz (encI size_18_))] = some ((fun (bb : Unit) => (O.fz .none)) bb, (fun (bb : Unit) => [(O.fz (encI size_18_))]) bb) := by
  unfold t_check_size m_check_size
  refine def_T (ro := (fun (bb : Unit) => (O.fz .none))) (ios := (fun (bb : Unit) => [(O.fz (encI size_18_))])) rfl ?_
  show SV _ [some (O.fz (encI size_18_))] _ _
  refine sv_last ?_
  refine sv_ifV (st := fun b21_ => [some (O.fz (encI size_18_))]) (xv_orV (E := (fun s20_ => [some (O.fz (encI size_18_))])) (t2 := (fun s20_ => (some (((decide (size_18_ < (0 : Int))) || (decide ((12 : Int) < size_18_))), ())))) (xv_map (t := (t_is_whole size_18_)) (f := fun b19_ => ((!b19_), ())) (xv_not (xv_VP (xv_VP (xv_PV' (a := [(P.val (encI size_18_))]) (e2 := [some (O.fz (encI size_18_))]) rfl (xo_call (tk_is_whole size_18_) rfl rfl rfl (fun _ => rfl))) (fun b19_ => rfl)) (fun b19_ => rfl)))) (fun s20_ => (xv_some (oe_or rfl rfl)))) ?_ ?_
  · intro b21_
    exact sv_never
  · intro b21_
    refine sv_nx (e := [some (O.fz (encI size_18_))]) rfl ?_
    exact sv_end ⟨.inr ⟨rfl, rfl⟩, rfl⟩
def t_check_ballots (size_23_ : Int) (ballots_24_ : (List (List Int))) : Option Unit := (if (!true) = true then ((none : Option Unit)) else ((forN (fun (a25_ : (Int × (List Int))) (s28_ : Unit) => (t_is_row size_23_ (snd a25_)).bind fun b32_ => if (!b32_) = true then ((none : Option Unit)) else (some ())) (enL ballots_24_) ()).bind fun (s28_ : Unit) => some ()))
theorem tk_check_ballots (size_23_ : Int) (ballots_24_ : (List (List Int))) : ∀ bb, t_check_ballots size_23_ ballots_24_ = some bb → m_check_ballots [(O.fz (encI size_23_)), (O.fz ((encL (encL encI)) ballots_24_))] = some ((fun (bb : Unit) => (O.fz .none)) bb, (fun (bb : Unit) => [(O.fz (encI size_23_)), (O.fz ((encL (encL encI)) ballots_24_))]) bb) := by
  unfold t_check_ballots m_check_ballots
  refine def_T (ro := (fun (bb : Unit) => (O.fz .none))) (ios := (fun (bb : Unit) => [(O.fz (encI size_23_)), (O.fz ((encL (encL encI)) ballots_24_))])) rfl ?_
  show SV _ [some (O.fz (encI size_23_)), some (O.fz ((encL (encL encI)) ballots_24_)), none, none] _ _
  refine sv_last ?_
  refine sv_assoc ?_
  refine sv_if rfl ?_ ?_
  · exact sv_never
  · refine sv_nx (e := [some (O.fz (encI size_23_)), some (O.fz ((encL (encL encI)) ballots_24_)), none, none]) rfl ?_
    refine sv_forN (en := (encT encI (encL encI))) (e := [some (O.fz (encI size_23_)), some (O.fz ((encL (encL encI)) ballots_24_)), none, none]) (Q := fun (s28_ : Unit) e31_ => ∃ u29_, ∃ u30_, e31_ = [some (O.fz (encI size_23_)), some (O.fz ((encL (encL encI)) ballots_24_)), u29_, u30_]) (oe_enum (p := (P.val ((encL (encL encI)) ballots_24_))) (xs := ballots_24_) rfl rfl) ⟨_, _, rfl⟩ ?_ ?_
    · rintro a25_ s28_ _ ⟨u29_, u30_, rfl⟩
      refine ⟨[some (O.fz (encI size_23_)), some (O.fz ((encL (encL encI)) ballots_24_)), some (O.fz (encI (fst a25_))), some (O.fz ((encL encI) (snd a25_)))], rfl, ?_⟩
      refine sv_last ?_
      refine sv_ifV (st := fun b32_ => [some (O.fz (encI size_23_)), some (O.fz ((encL (encL encI)) ballots_24_)), some (O.fz (encI (fst a25_))), some (O.fz ((encL encI) (snd a25_)))]) (xv_not (xv_VP (xv_VP (xv_PV' (a := [(P.val (encI size_23_)), (P.val ((encL encI) (snd a25_)))]) (e2 := [some (O.fz (encI size_23_)), some (O.fz ((encL (encL encI)) ballots_24_)), some (O.fz (encI (fst a25_))), some (O.fz ((encL encI) (snd a25_)))]) rfl (xo_call (tk_is_row size_23_ (snd a25_)) rfl rfl rfl (fun _ => rfl))) (fun b32_ => rfl)) (fun b32_ => rfl))) ?_ ?_
      · intro b32_
        exact sv_never
      · intro b32_
        refine sv_nx (e := [some (O.fz (encI size_23_)), some (O.fz ((encL (encL encI)) ballots_24_)), some (O.fz (encI (fst a25_))), some (O.fz ((encL encI) (snd a25_)))]) rfl ?_
        exact sv_end ⟨.inl rfl, _, _, rfl⟩
    rintro s28_ _ ⟨u29_, u30_, rfl⟩
    exact sv_end ⟨.inr ⟨rfl, rfl⟩, rfl⟩
def t_square_of_zeros (size_33_ : Int) : Option (List (List Int)) := ((rng1 size_33_).bind fun b34_ => (cmpO (fun _ => some true) (fun a35_ => (repG [(0 : Int)] size_33_).map fun b36_ => b36_) b34_).map fun b37_ => (b34_, b37_)).map fun q38_ => (snd q38_)
theorem tk_square_of_zeros (size_33_ : Int) : ∀ bb, t_square_of_zeros size_33_ = some bb → m_square_of_zeros [(O.fz (encI size_33_))] = some ((fun (bb : (List (List Int))) => (O.ow2 (List.map (fun r => List.map encI r) bb))) bb, (fun (bb : (List (List Int))) => [(O.fz (encI size_33_))]) bb) := by
  unfold t_square_of_zeros m_square_of_zeros
  refine def_T (ro := (fun (bb : (List (List Int))) => (O.ow2 (List.map (fun r => List.map encI r) bb)))) (ios := (fun (bb : (List (List Int))) => [(O.fz (encI size_33_))])) rfl ?_
  show SV _ [some (O.fz (encI size_33_)), none] _ _
  refine sv_last ?_
  exact sv_exitV (ct := fun q38_ => (Ctl.rt (O.ow2 (List.map (fun r => List.map encI r) (snd q38_))))) (st := fun q38_ => [some (O.fz (encI size_33_)), none]) (xv_VP (xv_VV (t := (rng1 size_33_)) (t2 := fun b34_ => (cmpO (fun _ => some true) (fun a35_ => (repG [(0 : Int)] size_33_).map fun b36_ => b36_) b34_)) (cv := fun q38_ => (O.ow2 (List.map (fun r => List.map encI r) (snd q38_)))) (st2 := fun q38_ => [some (O.fz (encI size_33_)), none]) (xv_PV' (a := [(P.val (encI size_33_))]) (e2 := [some (O.fz (encI size_33_)), none]) rfl xo_rng1) (fun b34_ => (lc_2 (en := encI) (en' := encI) (E1 := (fun a35_ => [some (O.fz (encI size_33_)), some (O.fz (encI a35_))])) rfl (fun _ => rfl) (fun a35_ => xv_map (xv_VP (xv_PV' (a := (P.val ((encL encI) [(0 : Int)]))) (e2 := [some (O.fz (encI size_33_)), some (O.fz (encI a35_))]) rfl (xv_PV' (a := (P.val (encI size_33_))) (e2 := [some (O.fz (encI size_33_)), some (O.fz (encI a35_))]) rfl (xo_rep rfl))) (fun b36_ => rfl))) (fun _ => rfl)))) (fun q38_ => rfl)) (fun _ h => nomatch h) (fun _ => ⟨.inl rfl, rfl⟩)
def t_answer_of_numbers (one_39_ : Int) (other_40_ : Int) (tolerance_41_ : Int) : Option Int := (if (decide ((one_39_ + tolerance_41_) < other_40_)) = true then (some (-(1 : Int))) else ((if (decide ((other_40_ + tolerance_41_) < one_39_)) = true then (some (1 : Int)) else (some (0 : Int)))))
theorem tk_answer_of_numbers (one_39_ : Int) (other_40_ : Int) (tolerance_41_ : Int) : ∀ bb, t_answer_of_numbers one_39_ other_40_ tolerance_41_ = some bb → m_answer_of_numbers [(O.fz (encI one_39_)), (O.fz (encI other_40_)), (O.fz (encI tolerance_41_))] = some ((fun (bb : Int) => (O.fz (encI bb))) bb, (fun (bb : Int) => [(O.fz (encI one_39_)), (O.fz (encI other_40_)), (O.fz (encI tolerance_41_))]) bb) := by
  unfold t_answer_of_numbers m_answer_of_numbers
  refine def_T (ro := (fun (bb : Int) => (O.fz (encI bb)))) (ios := (fun (bb : Int) => [(O.fz (encI one_39_)), (O.fz (encI other_40_)), (O.fz (encI tolerance_41_))])) rfl ?_
  show SV _ [some (O.fz (encI one_39_)), some (O.fz (encI other_40_)), some (O.fz (encI tolerance_41_))] _ _
  refine sv_last ?_
  refine sv_assoc ?_
  refine sv_if rfl ?_ ?_
  · exact sv_exit (ct := (Ctl.rt (O.fz (encI (-(1 : Int)))))) (e := [some (O.fz (encI one_39_)), some (O.fz (encI other_40_)), some (O.fz (encI tolerance_41_))]) rfl (fun h => nomatch h) ⟨.inl rfl, rfl⟩
  · refine sv_nx (e := [some (O.fz (encI one_39_)), some (O.fz (encI other_40_)), some (O.fz (encI tolerance_41_))]) rfl ?_
    refine sv_assoc ?_
    refine sv_if rfl ?_ ?_
    · exact sv_exit (ct := (Ctl.rt (O.fz (encI (1 : Int))))) (e := [some (O.fz (encI one_39_)), some (O.fz (encI other_40_)), some (O.fz (encI tolerance_41_))]) rfl (fun h => nomatch h) ⟨.inl rfl, rfl⟩
    · refine sv_nx (e := [some (O.fz (encI one_39_)), some (O.fz (encI other_40_)), some (O.fz (encI tolerance_41_))]) rfl ?_
      exact sv_exit (ct := (Ctl.rt (O.fz (encI (0 : Int))))) (e := [some (O.fz (encI one_39_)), some (O.fz (encI other_40_)), some (O.fz (encI tolerance_41_))]) rfl (fun h => nomatch h) ⟨.inl rfl, rfl⟩
def t_rule_of_ballots (size_42_ : Int) (ballots_43_ : (List (List Int))) : Option (List (List Int)) := (t_check_size size_42_).bind fun b44_ => (t_check_ballots size_42_ ballots_43_).bind fun b45_ => (t_square_of_zeros size_42_).bind fun votes_47_ => (forN (fun (a48_ : (List Int)) (s129_ : (List (List Int))) => (forN (fun (a135_ : (Int × Int)) (s158_ : (List (List Int))) => (forN (fun (a163_ : Int) (s168_ : (List (List Int))) => ((ix2G s168_ (snd a135_) a163_).bind fun z => set2G s168_ (snd a135_) a163_ (z + 1)).bind fun votes_172_ => some votes_172_) (cutG a48_ (some ((fst a135_) + (1 : Int))) none) s158_).bind fun (votes_173_ : (List (List Int))) => some votes_173_) (enL a48_) s129_).bind fun (votes_174_ : (List (List Int))) => some votes_174_) ballots_43_ votes_47_).bind fun (votes_175_ : (List (List Int))) => ((rgN (0 : Int) size_42_).bind fun b176_ => (cmpO (fun _ => some true) (fun a177_ => ((rgN (0 : Int) size_42_).bind fun b178_ => (cmpO (fun _ => some true) (fun a179_ => (((ix2G votes_175_ a179_ a177_).bind fun b180_ => (ix2G votes_175_ a177_ a179_).map fun b181_ => (b180_, b181_)).bind fun q182_ => (t_answer_of_numbers (fst q182_) (snd q182_) (0 : Int)).map fun b183_ => (q182_, b183_)).map fun q184_ => (snd q184_)) b178_).map fun b185_ => (b178_, b185_)).map fun q186_ => (snd q186_)) b176_).map fun b187_ => (b176_, b187_)).map fun q188_ => (snd q188_)
theorem tk_rule_of_ballots (size_42_ : Int) (ballots_43_ : (List (List Int))) : ∀ bb, t_rule_of_ballots size_42_ ballots_43_ = some bb → m_rule_of_ballots [(O.fz (encI size_42_)), (O.fz ((encL (encL encI)) ballots_43_))] = some ((fun (bb : (List (List Int))) => (O.ow2 (List.map (fun r => List.map encI r) bb))) bb, (fun (bb : (List (List Int))) => [(O.fz (encI size_42_)), (O.fz ((encL (encL encI)) ballots_43_))]) bb) := by
  unfold t_rule_of_ballots m_rule_of_ballots
  refine def_T (ro := (fun (bb : (List (List Int))) => (O.ow2 (List.map (fun r => List.map encI r) bb)))) (ios := (fun (bb : (List (List Int))) => [(O.fz (encI size_42_)), (O.fz ((encL (encL encI)) ballots_43_))])) rfl ?_
  show SV _ [some (O.fz (encI size_42_)), some (O.fz ((encL (encL encI)) ballots_43_)), none, none, none, none, none, none] _ _
  refine sv_last ?_
  refine sv_assoc ?_
  refine sv_V (st := fun b44_ => [some (O.fz (encI size_42_)), some (O.fz ((encL (encL encI)) ballots_43_)), none, none, none, none, none, none]) (xv_VP (xv_VP (xv_PV' (a := [(P.val (encI size_42_))]) (e2 := [some (O.fz (encI size_42_)), some (O.fz ((encL (encL encI)) ballots_43_)), none, none, none, none, none, none]) rfl (xo_call (tk_check_size size_42_) rfl rfl rfl (fun _ => rfl))) (fun b44_ => rfl)) (fun b44_ => rfl)) ?_
  intro b44_
  refine sv_assoc ?_
  refine sv_V (st := fun b45_ => [some (O.fz (encI size_42_)), some (O.fz ((encL (encL encI)) ballots_43_)), none, none, none, none, none, none]) (xv_VP (xv_VP (xv_PV' (a := [(P.val (encI size_42_)), (P.val ((encL (encL encI)) ballots_43_))]) (e2 := [some (O.fz (encI size_42_)), some (O.fz ((encL (encL encI)) ballots_43_)), none, none, none, none, none, none]) rfl (xo_call (tk_check_ballots size_42_ ballots_43_) rfl rfl rfl (fun _ => rfl))) (fun b45_ => rfl)) (fun b45_ => rfl)) ?_
  intro b45_
  refine sv_assoc ?_
  refine sv_V (st := fun b46_ => [some (O.fz (encI size_42_)), some (O.fz ((encL (encL encI)) ballots_43_)), some (O.ow2 (List.map (fun r => List.map encI r) b46_)), none, none, none, none, none]) (xv_VP (xv_PV' (a := [(P.val (encI size_42_))]) (e2 := [some (O.fz (encI size_42_)), some (O.fz ((encL (encL encI)) ballots_43_)), none, none, none, none, none, none]) rfl (xo_call (tk_square_of_zeros size_42_) rfl rfl rfl (fun _ => rfl))) (fun b46_ => rfl)) ?_
  intro votes_47_
  refine sv_assoc ?_
  refine sv_forN (en := (encL encI)) (e := [some (O.fz (encI size_42_)), some (O.fz ((encL (encL encI)) ballots_43_)), some (O.ow2 (List.map (fun r => List.map encI r) votes_47_)), none, none, none, none, none]) (Q := fun (s129_ : (List (List Int))) e134_ => ∃ u130_, ∃ u131_, ∃ u132_, ∃ u133_, e134_ = [some (O.fz (encI size_42_)), some (O.fz ((encL (encL encI)) ballots_43_)), some (O.ow2 (List.map (fun r => List.map encI r) s129_)), u130_, none, u131_, u132_, u133_]) rfl ⟨_, _, _, _, rfl⟩ ?_ ?_
  · rintro a48_ s129_ _ ⟨u130_, u131_, u132_, u133_, rfl⟩
    refine ⟨[some (O.fz (encI size_42_)), some (O.fz ((encL (encL encI)) ballots_43_)), some (O.ow2 (List.map (fun r => List.map encI r) s129_)), some (O.fz ((encL encI) a48_)), none, u131_, u132_, u133_], rfl, ?_⟩
    refine sv_last ?_
    refine sv_forN (en := (encT encI encI)) (e := [some (O.fz (encI size_42_)), some (O.fz ((encL (encL encI)) ballots_43_)), some (O.ow2 (List.map (fun r => List.map encI r) s129_)), some (O.fz ((encL encI) a48_)), none, u131_, u132_, u133_]) (Q := fun (s158_ : (List (List Int))) e162_ => ∃ u159_, ∃ u160_, ∃ u161_, e162_ = [some (O.fz (encI size_42_)), some (O.fz ((encL (encL encI)) ballots_43_)), some (O.ow2 (List.map (fun r => List.map encI r) s158_)), some (O.fz ((encL encI) a48_)), none, u159_, u160_, u161_]) (oe_enum (p := (P.val ((encL encI) a48_))) (xs := a48_) rfl rfl) ⟨_, _, _, rfl⟩ ?_ ?_
    · rintro a135_ s158_ _ ⟨u159_, u160_, u161_, rfl⟩
      refine ⟨[some (O.fz (encI size_42_)), some (O.fz ((encL (encL encI)) ballots_43_)), some (O.ow2 (List.map (fun r => List.map encI r) s158_)), some (O.fz ((encL encI) a48_)), none, some (O.fz (encI (fst a135_))), some (O.fz (encI (snd a135_))), u161_], rfl, ?_⟩
      refine sv_last ?_
      refine sv_forN (en := encI) (e := [some (O.fz (encI size_42_)), some (O.fz ((encL (encL encI)) ballots_43_)), some (O.ow2 (List.map (fun r => List.map encI r) s158_)), some (O.fz ((encL encI) a48_)), none, some (O.fz (encI (fst a135_))), some (O.fz (encI (snd a135_))), u161_]) (Q := fun (s168_ : (List (List Int))) e170_ => ∃ u169_, e170_ = [some (O.fz (encI size_42_)), some (O.fz ((encL (encL encI)) ballots_43_)), some (O.ow2 (List.map (fun r => List.map encI r) s168_)), some (O.fz ((encL encI) a48_)), none, some (O.fz (encI (fst a135_))), some (O.fz (encI (snd a135_))), u169_]) ((bnd_eq (a := (P.val ((encL encI) (cutG a48_ (some ((fst a135_) + (1 : Int))) none)))) (e := [some (O.fz (encI size_42_)), some (O.fz ((encL (encL encI)) ballots_43_)), some (O.ow2 (List.map (fun r => List.map encI r) s158_)), some (O.fz ((encL encI) a48_)), none, some (O.fz (encI (fst a135_))), some (O.fz (encI (snd a135_))), u161_]) ((bnd_eq (a := (List.map encI (cutG a48_ (some ((fst a135_) + (1 : Int))) none))) (e := [some (O.fz (encI size_42_)), some (O.fz ((encL (encL encI)) ballots_43_)), some (O.ow2 (List.map (fun r => List.map encI r) s158_)), some (O.fz ((encL encI) a48_)), none, some (O.fz (encI (fst a135_))), some (O.fz (encI (snd a135_))), u161_]) ((bnd_eq (a := (P.val ((encL encI) a48_))) (e := [some (O.fz (encI size_42_)), some (O.fz ((encL (encL encI)) ballots_43_)), some (O.ow2 (List.map (fun r => List.map encI r) s158_)), some (O.fz ((encL encI) a48_)), none, some (O.fz (encI (fst a135_))), some (O.fz (encI (snd a135_))), u161_]) rfl).trans ((bnd_eq (a := (some ((fst a135_) + (1 : Int)))) (e := [some (O.fz (encI size_42_)), some (O.fz ((encL (encL encI)) ballots_43_)), some (O.ow2 (List.map (fun r => List.map encI r) s158_)), some (O.fz ((encL encI) a48_)), none, some (O.fz (encI (fst a135_))), some (O.fz (encI (snd a135_))), u161_]) rfl).trans ((bnd_eq (a := none) (e := [some (O.fz (encI size_42_)), some (O.fz ((encL (encL encI)) ballots_43_)), some (O.ow2 (List.map (fun r => List.map encI r) s158_)), some (O.fz ((encL encI) a48_)), none, some (O.fz (encI (fst a135_))), some (O.fz (encI (snd a135_))), u161_]) rfl).trans (oe_cut rfl))))).trans rfl)).trans rfl) ⟨_, rfl⟩ ?_ ?_
      · rintro a163_ s168_ _ ⟨u169_, rfl⟩
        refine ⟨[some (O.fz (encI size_42_)), some (O.fz ((encL (encL encI)) ballots_43_)), some (O.ow2 (List.map (fun r => List.map encI r) s168_)), some (O.fz ((encL encI) a48_)), none, some (O.fz (encI (fst a135_))), some (O.fz (encI (snd a135_))), some (O.fz (encI a163_))], rfl, ?_⟩
        refine sv_last ?_
        refine sv_V (st := fun b171_ => [some (O.fz (encI size_42_)), some (O.fz ((encL (encL encI)) ballots_43_)), some (O.ow2 (List.map (fun r => List.map encI r) b171_)), some (O.fz ((encL encI) a48_)), none, some (O.fz (encI (fst a135_))), some (O.fz (encI (snd a135_))), some (O.fz (encI a163_))]) (xo_aug2 (xs := s168_) rfl rfl rfl (fun _ => rfl)) ?_
        intro votes_172_
        exact sv_end ⟨.inl rfl, _, rfl⟩
      rintro votes_173_ _ ⟨u169_, rfl⟩
      exact sv_end ⟨.inl rfl, _, _, _, rfl⟩
    rintro votes_174_ _ ⟨u159_, u160_, u161_, rfl⟩
    exact sv_end ⟨.inl rfl, _, _, _, _, rfl⟩
  rintro votes_175_ _ ⟨u130_, u131_, u132_, u133_, rfl⟩
  refine sv_assoc ?_
  refine sv_nx (e := [some (O.fz (encI size_42_)), some (O.fz ((encL (encL encI)) ballots_43_)), some (O.ow2 (List.map (fun r => List.map encI r) votes_175_)), u130_, some (O.rg (0 : Int) size_42_), u131_, u132_, u133_]) (os_rg rfl rfl) ?_
  refine sv_forget (is := [5, 6, 7, 3]) (e2 := [some (O.fz (encI size_42_)), some (O.fz ((encL (encL encI)) ballots_43_)), some (O.ow2 (List.map (fun r => List.map encI r) votes_175_)), none, some (O.rg (0 : Int) size_42_), none, none, none]) rfl ?_
  exact sv_exitV (ct := fun q188_ => (Ctl.rt (O.ow2 (List.map (fun r => List.map encI r) (snd q188_))))) (st := fun q188_ => [some (O.fz (encI size_42_)), some (O.fz ((encL (encL encI)) ballots_43_)), some (O.ow2 (List.map (fun r => List.map encI r) votes_175_)), none, some (O.rg (0 : Int) size_42_), none, none, none]) (xv_VP (xv_VV (t := (rgN (0 : Int) size_42_)) (t2 := fun b176_ => (cmpO (fun _ => some true) (fun a177_ => ((rgN (0 : Int) size_42_).bind fun b178_ => (cmpO (fun _ => some true) (fun a179_ => (((ix2G votes_175_ a179_ a177_).bind fun b180_ => (ix2G votes_175_ a177_ a179_).map fun b181_ => (b180_, b181_)).bind fun q182_ => (t_answer_of_numbers (fst q182_) (snd q182_) (0 : Int)).map fun b183_ => (q182_, b183_)).map fun q184_ => (snd q184_)) b178_).map fun b185_ => (b178_, b185_)).map fun q186_ => (snd q186_)) b176_)) (cv := fun q188_ => (O.ow2 (List.map (fun r => List.map encI r) (snd q188_)))) (st2 := fun q188_ => [some (O.fz (encI size_42_)), some (O.fz ((encL (encL encI)) ballots_43_)), some (O.ow2 (List.map (fun r => List.map encI r) votes_175_)), none, some (O.rg (0 : Int) size_42_), none, none, none]) (xo_rgv rfl) (fun b176_ => (lc_2 (en := encI) (en' := encI) (E1 := (fun a177_ => [some (O.fz (encI size_42_)), some (O.fz ((encL (encL encI)) ballots_43_)), some (O.ow2 (List.map (fun r => List.map encI r) votes_175_)), none, some (O.rg (0 : Int) size_42_), none, some (O.fz (encI a177_)), none])) rfl (fun _ => rfl) (fun a177_ => xv_map (xv_VP (xv_VV (t := (rgN (0 : Int) size_42_)) (t2 := fun b178_ => (cmpO (fun _ => some true) (fun a179_ => (((ix2G votes_175_ a179_ a177_).bind fun b180_ => (ix2G votes_175_ a177_ a179_).map fun b181_ => (b180_, b181_)).bind fun q182_ => (t_answer_of_numbers (fst q182_) (snd q182_) (0 : Int)).map fun b183_ => (q182_, b183_)).map fun q184_ => (snd q184_)) b178_)) (cv := fun q186_ => (List.map encI (snd q186_))) (st2 := fun q186_ => [some (O.fz (encI size_42_)), some (O.fz ((encL (encL encI)) ballots_43_)), some (O.ow2 (List.map (fun r => List.map encI r) votes_175_)), none, some (O.rg (0 : Int) size_42_), none, some (O.fz (encI a177_)), none]) (xo_rgv rfl) (fun b178_ => (lc_O (en := encI) (en' := encI) (E1 := (fun a179_ => [some (O.fz (encI size_42_)), some (O.fz ((encL (encL encI)) ballots_43_)), some (O.ow2 (List.map (fun r => List.map encI r) votes_175_)), none, some (O.rg (0 : Int) size_42_), none, some (O.fz (encI a177_)), some (O.fz (encI a179_))])) rfl (fun _ => rfl) (fun _ => xv_some rfl) (fun a179_ => xv_map (xv_VP (xv_VV (t := ((ix2G votes_175_ a179_ a177_).bind fun b180_ => (ix2G votes_175_ a177_ a179_).map fun b181_ => (b180_, b181_))) (t2 := fun q182_ => (t_answer_of_numbers (fst q182_) (snd q182_) (0 : Int))) (cv := fun q184_ => (O.fz (encI (snd q184_)))) (st2 := fun q184_ => [some (O.fz (encI size_42_)), some (O.fz ((encL (encL encI)) ballots_43_)), some (O.ow2 (List.map (fun r => List.map encI r) votes_175_)), none, some (O.rg (0 : Int) size_42_), none, some (O.fz (encI a177_)), some (O.fz (encI a179_))]) (xv_VV (t := (ix2G votes_175_ a179_ a177_)) (t2 := fun b180_ => (ix2G votes_175_ a177_ a179_)) (cv := fun q182_ => [(P.val (encI (fst q182_))), (P.val (encI (snd q182_))), (P.val (encI (0 : Int)))]) (st2 := fun q182_ => [some (O.fz (encI size_42_)), some (O.fz ((encL (encL encI)) ballots_43_)), some (O.ow2 (List.map (fun r => List.map encI r) votes_175_)), none, some (O.rg (0 : Int) size_42_), none, some (O.fz (encI a177_)), some (O.fz (encI a179_))]) (xo_ix2 rfl rfl rfl) (fun b180_ => (xv_VP (xv_VP (xo_ix2 rfl rfl rfl) (fun b181_ => rfl)) (fun b181_ => rfl)))) (fun q182_ => (xo_call (tk_answer_of_numbers (fst q182_) (snd q182_) (0 : Int)) rfl rfl rfl (fun _ => rfl)))) (fun q184_ => rfl))) (fun _ => rfl)))) (fun q186_ => rfl))) (fun _ => rfl)))) (fun q188_ => rfl)) (fun _ h => nomatch h) (fun _ => ⟨.inl rfl, rfl⟩)
def t__law_draws (cell_189_ : Int) : Option (Int × Int × Bool) := (((((powI (10 : Int) (60 : Int)).bind fun b190_ => (powI b190_ (60 : Int)).map fun b191_ => (b190_, b191_)).bind fun q192_ => (powI (snd q192_) (4 : Int)).map fun b193_ => (q192_, b193_)).bind fun q194_ => (modI cell_189_ (snd q194_)).map fun b195_ => (q194_, b195_)).bind fun q196_ => (powI (10 : Int) (18 : Int)).map fun b197_ => (q196_, b197_)).map fun q198_ => ((snd (fst q198_)), (0 : Int), (decide ((snd q198_) ≤ cell_189_)))
theorem tk__law_draws (cell_189_ : Int) : ∀ bb, t__law_draws cell_189_ = some bb → m__law_draws [(O.fz (encI cell_189_))] = some ((fun (bb : (Int × Int × Bool)) => (O.ow [(encI (fst bb)), (encI (fst (snd bb))), (encB (snd (snd bb)))])) bb, (fun (bb : (Int × Int × Bool)) => [(O.fz (encI cell_189_))]) bb) := by
  unfold t__law_draws m__law_draws
  refine def_T (ro := (fun (bb : (Int × Int × Bool)) => (O.ow [(encI (fst bb)), (encI (fst (snd bb))), (encB (snd (snd bb)))]))) (ios := (fun (bb : (Int × Int × Bool)) => [(O.fz (encI cell_189_))])) rfl ?_
  show SV _ [some (O.fz (encI cell_189_))] _ _
  refine sv_last ?_
  exact sv_exitV (ct := fun q198_ => (Ctl.rt (O.ow [(encI ((snd (fst q198_)), (0 : Int), (decide ((snd q198_) ≤ cell_189_))).1), (encI ((snd (fst q198_)), (0 : Int), (decide ((snd q198_) ≤ cell_189_))).2.1), (encB ((snd (fst q198_)), (0 : Int), (decide ((snd q198_) ≤ cell_189_))).2.2)]))) (st := fun q198_ => [some (O.fz (encI cell_189_))]) (xv_VP (xv_VP (xv_VP (xv_VV (t := ((((powI (10 : Int) (60 : Int)).bind fun b190_ => (powI b190_ (60 : Int)).map fun b191_ => (b190_, b191_)).bind fun q192_ => (powI (snd q192_) (4 : Int)).map fun b193_ => (q192_, b193_)).bind fun q194_ => (modI cell_189_ (snd q194_)).map fun b195_ => (q194_, b195_))) (t2 := fun q196_ => (powI (10 : Int) (18 : Int))) (cv := fun q198_ => [(P.val (encI (snd (fst q198_)))), (P.val (encI (0 : Int))), (P.val (encB (decide ((snd q198_) ≤ cell_189_))))]) (st2 := fun q198_ => [some (O.fz (encI cell_189_))]) (xv_PV' (a := (P.val (encI cell_189_))) (e2 := [some (O.fz (encI cell_189_))]) rfl (xv_VV (t := (((powI (10 : Int) (60 : Int)).bind fun b190_ => (powI b190_ (60 : Int)).map fun b191_ => (b190_, b191_)).bind fun q192_ => (powI (snd q192_) (4 : Int)).map fun b193_ => (q192_, b193_))) (t2 := fun q194_ => (modI cell_189_ (snd q194_))) (cv := fun q196_ => (P.val (encI (snd q196_)))) (st2 := fun q196_ => [some (O.fz (encI cell_189_))]) (xv_VV (t := ((powI (10 : Int) (60 : Int)).bind fun b190_ => (powI b190_ (60 : Int)).map fun b191_ => (b190_, b191_))) (t2 := fun q192_ => (powI (snd q192_) (4 : Int))) (cv := fun q194_ => (P.val (encI (snd q194_)))) (st2 := fun q194_ => [some (O.fz (encI cell_189_))]) (xv_VV (t := (powI (10 : Int) (60 : Int))) (t2 := fun b190_ => (powI b190_ (60 : Int))) (cv := fun q192_ => (P.val (encI (snd q192_)))) (st2 := fun q192_ => [some (O.fz (encI cell_189_))]) (xv_PV' (a := (P.val (encI (10 : Int)))) (e2 := [some (O.fz (encI cell_189_))]) rfl (xv_PV' (a := (P.val (encI (60 : Int)))) (e2 := [some (O.fz (encI cell_189_))]) rfl xo_pow)) (fun b190_ => (xv_PV' (a := (P.val (encI (60 : Int)))) (e2 := [some (O.fz (encI cell_189_))]) rfl xo_pow))) (fun q192_ => (xv_PV' (a := (P.val (encI (4 : Int)))) (e2 := [some (O.fz (encI cell_189_))]) rfl xo_pow))) (fun q194_ => xo_mod))) (fun q196_ => (xv_VP (xv_PV' (a := (P.val (encI (0 : Int)))) (e2 := [some (O.fz (encI cell_189_))]) rfl (xv_VP (xv_VP (xv_PV' (a := (P.val (encI cell_189_))) (e2 := [some (O.fz (encI cell_189_))]) rfl (xv_VP (xv_PV' (a := (P.val (encI (10 : Int)))) (e2 := [some (O.fz (encI cell_189_))]) rfl (xv_PV' (a := (P.val (encI (18 : Int)))) (e2 := [some (O.fz (encI cell_189_))]) rfl xo_pow)) (fun b197_ => rfl))) (fun b197_ => rfl)) (fun b197_ => rfl))) (fun b197_ => rfl)))) (fun q198_ => rfl)) (fun q198_ => rfl)) (fun q198_ => rfl)) (fun _ h => nomatch h) (fun _ => ⟨.inl rfl, rfl⟩)
def t__law_next (draws_199_ : (Int × Int × Bool)) : Option (Int × (Int × Int × Bool)) := (some ((fst draws_199_), ((fst (snd draws_199_)) + (1 : Int)), (snd (snd draws_199_)))).bind fun (draws_200_ : (Int × Int × Bool)) => (some (fst (snd draws_200_))).bind fun (k_202_ : Int) => (if (snd (snd draws_200_)) = true then (((powI (10 : Int) (6 : Int)).bind fun b204_ => (modI (fst draws_200_) b204_).map fun b205_ => (b204_, b205_)).bind fun q206_ => (some (snd q206_)).bind fun (number_207_ : Int) => ((powI (10 : Int) (6 : Int)).bind fun b209_ => (fdivI (fst draws_200_) b209_).map fun b210_ => (b209_, b210_)).bind fun q211_ => (some ((snd q211_), (fst (snd draws_200_)), (snd (snd draws_200_)))).bind fun (draws_212_ : (Int × Int × Bool)) => some (number_207_, draws_212_)) else ((((mulI k_202_ k_202_).bind fun b214_ => (mulI b214_ (7919 : Int)).map fun b215_ => (b214_, b215_)).bind fun q216_ => (mulI (((Int.fmod (fst draws_200_) (1000003 : Int)) + (snd q216_)) + k_202_) (48271 : Int)).map fun b217_ => (q216_, b217_)).bind fun q218_ => (some (Int.fmod (snd q218_) (2147483629 : Int))).bind fun (number_219_ : Int) => (mulI number_219_ number_219_).bind fun b221_ => (some (Int.fmod b221_ (2147483587 : Int))).bind fun (number_222_ : Int) => (mulI number_222_ (number_222_ + (2 : Int))).map fun b224_ => ((Int.fdiv (Int.fmod b224_ (2147483579 : Int)) (7 : Int)), draws_200_)))
theorem tk__law_next (draws_199_ : (Int × Int × Bool)) : ∀ bb, t__law_next draws_199_ = some bb → m__law_next [(O.ow [(encI (fst draws_199_)), (encI (fst (snd draws_199_))), (encB (snd (snd draws_199_)))])] = some ((fun (bb : (Int × (Int × Int × Bool))) => (O.fz (encI (fst bb)))) bb, (fun (bb : (Int × (Int × Int × Bool))) => [(O.ow [(encI (fst (snd bb))), (encI (fst (snd (snd bb)))), (encB (snd (snd (snd bb))))])]) bb) := by
  unfold t__law_next m__law_next
  refine def_T (ro := (fun (bb : (Int × (Int × Int × Bool))) => (O.fz (encI (fst bb))))) (ios := (fun (bb : (Int × (Int × Int × Bool))) => [(O.ow [(encI (fst (snd bb))), (encI (fst (snd (snd bb)))), (encB (snd (snd (snd bb))))])])) rfl ?_
  show SV _ [some (O.ow [(encI (fst draws_199_)), (encI (fst (snd draws_199_))), (encB (snd (snd draws_199_)))]), none, none] _ _
  refine sv_last ?_
  refine sv_assoc ?_
  refine sv_nx (e := [some (O.ow [(encI ((fst draws_199_), ((fst (snd draws_199_)) + (1 : Int)), (snd (snd draws_199_))).1), (encI ((fst draws_199_), ((fst (snd draws_199_)) + (1 : Int)), (snd (snd draws_199_))).2.1), (encB ((fst draws_199_), ((fst (snd draws_199_)) + (1 : Int)), (snd (snd draws_199_))).2.2)]), none, none]) rfl ?_
  refine sv_let (v := ((fst draws_199_), ((fst (snd draws_199_)) + (1 : Int)), (snd (snd draws_199_)))) (E := fun (y201_ : (Int × Int × Bool)) => [some (O.ow [(encI (fst y201_)), (encI (fst (snd y201_))), (encB (snd (snd y201_)))]), none, none]) ?_
  intro draws_200_
  refine sv_assoc ?_
  refine sv_nx (e := [some (O.ow [(encI (fst draws_200_)), (encI (fst (snd draws_200_))), (encB (snd (snd draws_200_)))]), some (O.fz (encI (fst (snd draws_200_)))), none]) rfl ?_
  refine sv_let (v := (fst (snd draws_200_))) (E := fun (y203_ : Int) => [some (O.ow [(encI (fst draws_200_)), (encI (fst (snd draws_200_))), (encB (snd (snd draws_200_)))]), some (O.fz (encI y203_)), none]) ?_
  intro k_202_
  refine sv_assoc ?_
  refine sv_if rfl ?_ ?_
  · refine sv_assoc ?_
    refine sv_V (st := fun q206_ => [some (O.ow [(encI (fst draws_200_)), (encI (fst (snd draws_200_))), (encB (snd (snd draws_200_)))]), some (O.fz (encI k_202_)), some (O.fz (encI (snd q206_)))]) (xv_VP (xv_PV' (a := (P.val (encI (fst draws_200_)))) (e2 := [some (O.ow [(encI (fst draws_200_)), (encI (fst (snd draws_200_))), (encB (snd (snd draws_200_)))]), some (O.fz (encI k_202_)), none]) rfl (xv_VV (t := (powI (10 : Int) (6 : Int))) (t2 := fun b204_ => (modI (fst draws_200_) b204_)) (cv := fun q206_ => (P.val (encI (snd q206_)))) (st2 := fun q206_ => [some (O.ow [(encI (fst draws_200_)), (encI (fst (snd draws_200_))), (encB (snd (snd draws_200_)))]), some (O.fz (encI k_202_)), none]) (xv_PV' (a := (P.val (encI (10 : Int)))) (e2 := [some (O.ow [(encI (fst draws_200_)), (encI (fst (snd draws_200_))), (encB (snd (snd draws_200_)))]), some (O.fz (encI k_202_)), none]) rfl (xv_PV' (a := (P.val (encI (6 : Int)))) (e2 := [some (O.ow [(encI (fst draws_200_)), (encI (fst (snd draws_200_))), (encB (snd (snd draws_200_)))]), some (O.fz (encI k_202_)), none]) rfl xo_pow)) (fun b204_ => xo_mod))) (fun q206_ => rfl)) ?_
    intro q206_
    refine sv_let (v := (snd q206_)) (E := fun (y208_ : Int) => [some (O.ow [(encI (fst draws_200_)), (encI (fst (snd draws_200_))), (encB (snd (snd draws_200_)))]), some (O.fz (encI k_202_)), some (O.fz (encI y208_))]) ?_
    intro number_207_
    refine sv_assoc ?_
    refine sv_V (st := fun q211_ => [some (O.ow [(encI ((snd q211_), (fst (snd draws_200_)), (snd (snd draws_200_))).1), (encI ((snd q211_), (fst (snd draws_200_)), (snd (snd draws_200_))).2.1), (encB ((snd q211_), (fst (snd draws_200_)), (snd (snd draws_200_))).2.2)]), some (O.fz (encI k_202_)), some (O.fz (encI number_207_))]) (xv_VP (xv_PV' (a := (P.val (encI (fst draws_200_)))) (e2 := [some (O.ow [(encI (fst draws_200_)), (encI (fst (snd draws_200_))), (encB (snd (snd draws_200_)))]), some (O.fz (encI k_202_)), some (O.fz (encI number_207_))]) rfl (xv_VV (t := (powI (10 : Int) (6 : Int))) (t2 := fun b209_ => (fdivI (fst draws_200_) b209_)) (cv := fun q211_ => (P.val (encI (snd q211_)))) (st2 := fun q211_ => [some (O.ow [(encI (fst draws_200_)), (encI (fst (snd draws_200_))), (encB (snd (snd draws_200_)))]), some (O.fz (encI k_202_)), some (O.fz (encI number_207_))]) (xv_PV' (a := (P.val (encI (10 : Int)))) (e2 := [some (O.ow [(encI (fst draws_200_)), (encI (fst (snd draws_200_))), (encB (snd (snd draws_200_)))]), some (O.fz (encI k_202_)), some (O.fz (encI number_207_))]) rfl (xv_PV' (a := (P.val (encI (6 : Int)))) (e2 := [some (O.ow [(encI (fst draws_200_)), (encI (fst (snd draws_200_))), (encB (snd (snd draws_200_)))]), some (O.fz (encI k_202_)), some (O.fz (encI number_207_))]) rfl xo_pow)) (fun b209_ => xo_fdiv))) (fun q211_ => rfl)) ?_
    intro q211_
    refine sv_let (v := ((snd q211_), (fst (snd draws_200_)), (snd (snd draws_200_)))) (E := fun (y213_ : (Int × Int × Bool)) => [some (O.ow [(encI (fst y213_)), (encI (fst (snd y213_))), (encB (snd (snd y213_)))]), some (O.fz (encI k_202_)), some (O.fz (encI number_207_))]) ?_
    intro draws_212_
    exact sv_exit (ct := (Ctl.rt (O.fz (encI number_207_)))) (e := [some (O.ow [(encI (fst draws_212_)), (encI (fst (snd draws_212_))), (encB (snd (snd draws_212_)))]), some (O.fz (encI k_202_)), some (O.fz (encI number_207_))]) rfl (fun h => nomatch h) ⟨.inl rfl, rfl⟩
  · refine sv_nx (e := [some (O.ow [(encI (fst draws_200_)), (encI (fst (snd draws_200_))), (encB (snd (snd draws_200_)))]), some (O.fz (encI k_202_)), none]) rfl ?_
    refine sv_assoc ?_
    refine sv_V (st := fun q218_ => [some (O.ow [(encI (fst draws_200_)), (encI (fst (snd draws_200_))), (encB (snd (snd draws_200_)))]), some (O.fz (encI k_202_)), some (O.fz (encI (Int.fmod (snd q218_) (2147483629 : Int))))]) (xv_VP (xv_VP (xv_VP (xv_VP (xv_VV (t := ((mulI k_202_ k_202_).bind fun b214_ => (mulI b214_ (7919 : Int)).map fun b215_ => (b214_, b215_))) (t2 := fun q216_ => (mulI (((Int.fmod (fst draws_200_) (1000003 : Int)) + (snd q216_)) + k_202_) (48271 : Int))) (cv := fun q218_ => (P.val (encI (snd q218_)))) (st2 := fun q218_ => [some (O.ow [(encI (fst draws_200_)), (encI (fst (snd draws_200_))), (encB (snd (snd draws_200_)))]), some (O.fz (encI k_202_)), none]) (xv_VP (xv_PV' (a := (P.val (encI (Int.fmod (fst draws_200_) (1000003 : Int))))) (e2 := [some (O.ow [(encI (fst draws_200_)), (encI (fst (snd draws_200_))), (encB (snd (snd draws_200_)))]), some (O.fz (encI k_202_)), none]) rfl (xv_VP (xv_VV (t := (mulI k_202_ k_202_)) (t2 := fun b214_ => (mulI b214_ (7919 : Int))) (cv := fun q216_ => (P.val (encI (snd q216_)))) (st2 := fun q216_ => [some (O.ow [(encI (fst draws_200_)), (encI (fst (snd draws_200_))), (encB (snd (snd draws_200_)))]), some (O.fz (encI k_202_)), none]) (xv_PV' (a := (P.val (encI k_202_))) (e2 := [some (O.ow [(encI (fst draws_200_)), (encI (fst (snd draws_200_))), (encB (snd (snd draws_200_)))]), some (O.fz (encI k_202_)), none]) rfl (xv_PV' (a := (P.val (encI k_202_))) (e2 := [some (O.ow [(encI (fst draws_200_)), (encI (fst (snd draws_200_))), (encB (snd (snd draws_200_)))]), some (O.fz (encI k_202_)), none]) rfl xo_mul)) (fun b214_ => (xv_PV' (a := (P.val (encI (7919 : Int)))) (e2 := [some (O.ow [(encI (fst draws_200_)), (encI (fst (snd draws_200_))), (encB (snd (snd draws_200_)))]), some (O.fz (encI k_202_)), none]) rfl xo_mul))) (fun q216_ => rfl))) (fun q216_ => rfl)) (fun q216_ => (xv_PV' (a := (P.val (encI (48271 : Int)))) (e2 := [some (O.ow [(encI (fst draws_200_)), (encI (fst (snd draws_200_))), (encB (snd (snd draws_200_)))]), some (O.fz (encI k_202_)), none]) rfl xo_mul))) (fun q218_ => rfl)) (fun q218_ => rfl)) (fun q218_ => rfl)) (fun q218_ => rfl)) ?_
    intro q218_
    refine sv_let (v := (Int.fmod (snd q218_) (2147483629 : Int))) (E := fun (y220_ : Int) => [some (O.ow [(encI (fst draws_200_)), (encI (fst (snd draws_200_))), (encB (snd (snd draws_200_)))]), some (O.fz (encI k_202_)), some (O.fz (encI y220_))]) ?_
    intro number_219_
    refine sv_assoc ?_
    refine sv_V (st := fun b221_ => [some (O.ow [(encI (fst draws_200_)), (encI (fst (snd draws_200_))), (encB (snd (snd draws_200_)))]), some (O.fz (encI k_202_)), some (O.fz (encI (Int.fmod b221_ (2147483587 : Int))))]) (xv_VP (xv_VP (xv_VP (xv_VP (xv_PV' (a := (P.val (encI number_219_))) (e2 := [some (O.ow [(encI (fst draws_200_)), (encI (fst (snd draws_200_))), (encB (snd (snd draws_200_)))]), some (O.fz (encI k_202_)), some (O.fz (encI number_219_))]) rfl (xv_PV' (a := (P.val (encI number_219_))) (e2 := [some (O.ow [(encI (fst draws_200_)), (encI (fst (snd draws_200_))), (encB (snd (snd draws_200_)))]), some (O.fz (encI k_202_)), some (O.fz (encI number_219_))]) rfl xo_mul)) (fun b221_ => rfl)) (fun b221_ => rfl)) (fun b221_ => rfl)) (fun b221_ => rfl)) ?_
    intro b221_
    refine sv_let (v := (Int.fmod b221_ (2147483587 : Int))) (E := fun (y223_ : Int) => [some (O.ow [(encI (fst draws_200_)), (encI (fst (snd draws_200_))), (encB (snd (snd draws_200_)))]), some (O.fz (encI k_202_)), some (O.fz (encI y223_))]) ?_
    intro number_222_
    exact sv_exitV (ct := fun b224_ => (Ctl.rt (O.fz (encI (Int.fdiv (Int.fmod b224_ (2147483579 : Int)) (7 : Int)))))) (st := fun b224_ => [some (O.ow [(encI (fst draws_200_)), (encI (fst (snd draws_200_))), (encB (snd (snd draws_200_)))]), some (O.fz (encI k_202_)), some (O.fz (encI number_222_))]) (xv_VP (xv_VP (xv_VP (xv_VP (xv_VP (xv_PV' (a := (P.val (encI number_222_))) (e2 := [some (O.ow [(encI (fst draws_200_)), (encI (fst (snd draws_200_))), (encB (snd (snd draws_200_)))]), some (O.fz (encI k_202_)), some (O.fz (encI number_222_))]) rfl (xv_PV' (a := (P.val (encI (number_222_ + (2 : Int))))) (e2 := [some (O.ow [(encI (fst draws_200_)), (encI (fst (snd draws_200_))), (encB (snd (snd draws_200_)))]), some (O.fz (encI k_202_)), some (O.fz (encI number_222_))]) rfl xo_mul)) (fun b224_ => rfl)) (fun b224_ => rfl)) (fun b224_ => rfl)) (fun b224_ => rfl)) (fun b224_ => rfl)) (fun _ h => nomatch h) (fun _ => ⟨.inl rfl, rfl⟩)
def t__law_ballot (draws_225_ : (Int × Int × Bool)) (many_226_ : Int) : Option ((List Int) × (Int × Int × Bool)) := (rngV 0 many_226_).bind fun left_228_ => (some []).bind fun (told_229_ : (List Int)) => (whN (fun (s257_ : ((Int × Int × Bool) × (List Int) × (List Int))) => some ((!(decide ((fst (snd s257_)) = []))), ((fst s257_), (fst (snd s257_)), (snd (snd s257_))))) (fun (s257_ : ((Int × Int × Bool) × (List Int) × (List Int))) => (some (fst s257_)).bind fun (draws_259_ : (Int × Int × Bool)) => (some (fst (snd s257_))).bind fun (left_261_ : (List Int)) => (some (snd (snd s257_))).bind fun (told_263_ : (List Int)) => ((((t__law_next draws_259_).bind fun b265_ => (modI (fst b265_) ((List.length left_261_ : Nat) : Int)).map fun b266_ => (b265_, b266_)).bind fun q267_ => (popI left_261_ (snd q267_)).map fun b268_ => (q267_, b268_)).bind fun q269_ => (appG told_263_ (fst (snd q269_))).map fun b270_ => (q269_, b270_)).bind fun q271_ => (some (snd q271_)).bind fun (told_272_ : (List Int)) => (some (snd (fst (fst (fst q271_))))).bind fun (draws_274_ : (Int × Int × Bool)) => (some (snd (snd (fst q271_)))).bind fun (left_276_ : (List Int)) => some (draws_274_, left_276_, told_272_)) 1000 (draws_225_, left_228_, told_229_)).bind fun (s257_ : ((Int × Int × Bool) × (List Int) × (List Int))) => (some (fst s257_)).bind fun (draws_278_ : (Int × Int × Bool)) => (some (fst (snd s257_))).bind fun (left_280_ : (List Int)) => (some (snd (snd s257_))).bind fun (told_282_ : (List Int)) => some (told_282_, draws_278_)
theorem tk__law_ballot (draws_225_ : (Int × Int × Bool)) (many_226_ : Int) : ∀ bb, t__law_ballot draws_225_ many_226_ = some bb → m__law_ballot [(O.ow [(encI (fst draws_225_)), (encI (fst (snd draws_225_))), (encB (snd (snd draws_225_)))]), (O.fz (encI many_226_))] = some ((fun (bb : ((List Int) × (Int × Int × Bool))) => (O.ow (List.map encI (fst bb)))) bb, (fun (bb : ((List Int) × (Int × Int × Bool))) => [(O.ow [(encI (fst (snd bb))), (encI (fst (snd (snd bb)))), (encB (snd (snd (snd bb))))]), (O.fz (encI many_226_))]) bb) := by
  unfold t__law_ballot m__law_ballot
  refine def_T (ro := (fun (bb : ((List Int) × (Int × Int × Bool))) => (O.ow (List.map encI (fst bb))))) (ios := (fun (bb : ((List Int) × (Int × Int × Bool))) => [(O.ow [(encI (fst (snd bb))), (encI (fst (snd (snd bb)))), (encB (snd (snd (snd bb))))]), (O.fz (encI many_226_))])) rfl ?_
  show SV _ [some (O.ow [(encI (fst draws_225_)), (encI (fst (snd draws_225_))), (encB (snd (snd draws_225_)))]), some (O.fz (encI many_226_)), none, none] _ _
  refine sv_last ?_
  refine sv_assoc ?_
  refine sv_V (st := fun b227_ => [some (O.ow [(encI (fst draws_225_)), (encI (fst (snd draws_225_))), (encB (snd (snd draws_225_)))]), some (O.fz (encI many_226_)), some (O.ow (List.map encI b227_)), none]) (xv_VP (xv_VP (xv_PV' (a := (P.val (encI many_226_))) (e2 := [some (O.ow [(encI (fst draws_225_)), (encI (fst (snd draws_225_))), (encB (snd (snd draws_225_)))]), some (O.fz (encI many_226_)), none, none]) rfl xo_lrg1) (fun b227_ => rfl)) (fun b227_ => rfl)) ?_
  intro left_228_
  refine sv_assoc ?_
  refine sv_nx (e := [some (O.ow [(encI (fst draws_225_)), (encI (fst (snd draws_225_))), (encB (snd (snd draws_225_)))]), some (O.fz (encI many_226_)), some (O.ow (List.map encI left_228_)), some (O.ow (List.map encI []))]) rfl ?_
  refine sv_let (v := []) (E := fun (y230_ : (List Int)) => [some (O.ow [(encI (fst draws_225_)), (encI (fst (snd draws_225_))), (encB (snd (snd draws_225_)))]), some (O.fz (encI many_226_)), some (O.ow (List.map encI left_228_)), some (O.ow (List.map encI y230_))]) ?_
  intro told_229_
  refine sv_assoc ?_
  refine sv_whN (Q := fun (s257_ : ((Int × Int × Bool) × (List Int) × (List Int))) e258_ => e258_ = [some (O.ow [(encI (fst (fst s257_))), (encI (fst (snd (fst s257_)))), (encB (snd (snd (fst s257_))))]), some (O.fz (encI many_226_)), some (O.ow (List.map encI (fst (snd s257_)))), some (O.ow (List.map encI (snd (snd s257_))))]) rfl ?_ ?_ ?_
  · rintro s257_ _ ⟨rfl⟩ r hr
    cases hr
    exact ⟨_, ((bnd_eq (a := (P.val (encB (!(decide ((fst (snd s257_)) = [])))))) (e := [some (O.ow [(encI (fst (fst s257_))), (encI (fst (snd (fst s257_)))), (encB (snd (snd (fst s257_))))]), some (O.fz (encI many_226_)), some (O.ow (List.map encI (fst (snd s257_)))), some (O.ow (List.map encI (snd (snd s257_))))]) ((bnd_eq (a := (P.var 2)) (e := [some (O.ow [(encI (fst (fst s257_))), (encI (fst (snd (fst s257_)))), (encB (snd (snd (fst s257_))))]), some (O.fz (encI many_226_)), some (O.ow (List.map encI (fst (snd s257_)))), some (O.ow (List.map encI (snd (snd s257_))))]) rfl).trans ((bnd_eq (a := (P.val ((encL encD) []))) (e := [some (O.ow [(encI (fst (fst s257_))), (encI (fst (snd (fst s257_)))), (encB (snd (snd (fst s257_))))]), some (O.fz (encI many_226_)), some (O.ow (List.map encI (fst (snd s257_)))), some (O.ow (List.map encI (snd (snd s257_))))]) rfl).trans (oe_eq (a := (fst (snd s257_))) (b := []) (eo_L eo_I) rfl rfl)))).trans rfl), rfl⟩
  · rintro s257_ _ ⟨rfl⟩
    refine sv_last ?_
    refine sv_let (v := (fst s257_)) (E := fun (y260_ : (Int × Int × Bool)) => [some (O.ow [(encI (fst y260_)), (encI (fst (snd y260_))), (encB (snd (snd y260_)))]), some (O.fz (encI many_226_)), some (O.ow (List.map encI (fst (snd s257_)))), some (O.ow (List.map encI (snd (snd s257_))))]) ?_
    intro draws_259_
    refine sv_let (v := (fst (snd s257_))) (E := fun (y262_ : (List Int)) => [some (O.ow [(encI (fst draws_259_)), (encI (fst (snd draws_259_))), (encB (snd (snd draws_259_)))]), some (O.fz (encI many_226_)), some (O.ow (List.map encI y262_)), some (O.ow (List.map encI (snd (snd s257_))))]) ?_
    intro left_261_
    refine sv_let (v := (snd (snd s257_))) (E := fun (y264_ : (List Int)) => [some (O.ow [(encI (fst draws_259_)), (encI (fst (snd draws_259_))), (encB (snd (snd draws_259_)))]), some (O.fz (encI many_226_)), some (O.ow (List.map encI left_261_)), some (O.ow (List.map encI y264_))]) ?_
    intro told_263_
    refine sv_V (st := fun q271_ => [some (O.ow [(encI (fst (snd (fst (fst (fst q271_)))))), (encI (fst (snd (snd (fst (fst (fst q271_))))))), (encB (snd (snd (snd (fst (fst (fst q271_)))))))]), some (O.fz (encI many_226_)), some (O.ow (List.map encI (snd (snd (fst q271_))))), some (O.ow (List.map encI (snd q271_)))]) (by refine xv_app (j := 3) (t := (((t__law_next draws_259_).bind fun b265_ => (modI (fst b265_) ((List.length left_261_ : Nat) : Int)).map fun b266_ => (b265_, b266_)).bind fun q267_ => (popI left_261_ (snd q267_)).map fun b268_ => (q267_, b268_))) (en := encI) (xs := fun q269_ => told_263_) (x := fun q269_ => (fst (snd q269_))) (p := fun q269_ => (P.val (encI (fst (snd q269_))))) (e1 := fun q269_ => [some (O.ow [(encI (fst (snd (fst (fst q269_))))), (encI (fst (snd (snd (fst (fst q269_)))))), (encB (snd (snd (snd (fst (fst q269_))))))]), some (O.fz (encI many_226_)), some (O.ow (List.map encI (snd (snd q269_)))), some (O.ow (List.map encI told_263_))]) (e2 := fun q269_ => [some (O.ow [(encI (fst (snd (fst (fst q269_))))), (encI (fst (snd (snd (fst (fst q269_)))))), (encB (snd (snd (snd (fst (fst q269_))))))]), some (O.fz (encI many_226_)), some (O.ow (List.map encI (snd (snd q269_)))), some (O.ow (List.map encI told_263_))]) ⟨_, rfl⟩ ?_ ?_ ?_ ?_ <;> first | exact fun _ => rfl | exact (xv_VP (by refine xv_popAt (t := ((t__law_next draws_259_).bind fun b265_ => (modI (fst b265_) ((List.length left_261_ : Nat) : Int)).map fun b266_ => (b265_, b266_))) (en := encI) (i := fun q267_ => (snd q267_)) (xs := fun q267_ => left_261_) (e1 := fun q267_ => [some (O.ow [(encI (fst (snd (fst q267_)))), (encI (fst (snd (snd (fst q267_))))), (encB (snd (snd (snd (fst q267_)))))]), some (O.fz (encI many_226_)), some (O.ow (List.map encI left_261_)), some (O.ow (List.map encI told_263_))]) (j := 2) (E0 := fun q269_ => [some (O.ow [(encI (fst (snd (fst (fst q269_))))), (encI (fst (snd (snd (fst (fst q269_)))))), (encB (snd (snd (snd (fst (fst q269_))))))]), some (O.fz (encI many_226_)), some (O.ow (List.map encI (snd (snd q269_)))), some (O.ow (List.map encI told_263_))]) ⟨_, rfl⟩ ?_ (fun _ => rfl) (fun _ => rfl); exact (xv_VP (xv_VV (t := (t__law_next draws_259_)) (t2 := fun b265_ => (modI (fst b265_) ((List.length left_261_ : Nat) : Int))) (cv := fun q267_ => (P.val (encI (snd q267_)))) (st2 := fun q267_ => [some (O.ow [(encI (fst (snd (fst q267_)))), (encI (fst (snd (snd (fst q267_))))), (encB (snd (snd (snd (fst q267_)))))]), some (O.fz (encI many_226_)), some (O.ow (List.map encI left_261_)), some (O.ow (List.map encI told_263_))]) (xv_VP (xv_VP (xv_VP (xv_PV' (a := [(P.var 0)]) (e2 := [some (O.ow [(encI (fst draws_259_)), (encI (fst (snd draws_259_))), (encB (snd (snd draws_259_)))]), some (O.fz (encI many_226_)), some (O.ow (List.map encI left_261_)), some (O.ow (List.map encI told_263_))]) rfl (xo_call (tk__law_next draws_259_) rfl rfl rfl (fun _ => rfl))) (fun b265_ => rfl)) (fun b265_ => rfl)) (fun b265_ => rfl)) (fun b265_ => (xv_PV' (a := (P.val (encI ((List.length left_261_ : Nat) : Int)))) (e2 := [some (O.ow [(encI (fst (snd b265_))), (encI (fst (snd (snd b265_)))), (encB (snd (snd (snd b265_))))]), some (O.fz (encI many_226_)), some (O.ow (List.map encI left_261_)), some (O.ow (List.map encI told_263_))]) ((bnd_eq (a := [(P.var 2)]) (e := [some (O.ow [(encI (fst (snd b265_))), (encI (fst (snd (snd b265_)))), (encB (snd (snd (snd b265_))))]), some (O.fz (encI many_226_)), some (O.ow (List.map encI left_261_)), some (O.ow (List.map encI told_263_))]) rfl).trans (oe_len rfl)) xo_mod))) (fun q267_ => rfl))) (fun q269_ => rfl))) ?_
    intro q271_
    refine sv_let (v := (snd q271_)) (E := fun (y273_ : (List Int)) => [some (O.ow [(encI (fst (snd (fst (fst (fst q271_)))))), (encI (fst (snd (snd (fst (fst (fst q271_))))))), (encB (snd (snd (snd (fst (fst (fst q271_)))))))]), some (O.fz (encI many_226_)), some (O.ow (List.map encI (snd (snd (fst q271_))))), some (O.ow (List.map encI y273_))]) ?_
    intro told_272_
    refine sv_let (v := (snd (fst (fst (fst q271_))))) (E := fun (y275_ : (Int × Int × Bool)) => [some (O.ow [(encI (fst y275_)), (encI (fst (snd y275_))), (encB (snd (snd y275_)))]), some (O.fz (encI many_226_)), some (O.ow (List.map encI (snd (snd (fst q271_))))), some (O.ow (List.map encI told_272_))]) ?_
    intro draws_274_
    refine sv_let (v := (snd (snd (fst q271_)))) (E := fun (y277_ : (List Int)) => [some (O.ow [(encI (fst draws_274_)), (encI (fst (snd draws_274_))), (encB (snd (snd draws_274_)))]), some (O.fz (encI many_226_)), some (O.ow (List.map encI y277_)), some (O.ow (List.map encI told_272_))]) ?_
    intro left_276_
    exact sv_end ⟨.inl rfl, rfl⟩
  rintro s257_ _ ⟨rfl⟩
  refine sv_let (v := (fst s257_)) (E := fun (y279_ : (Int × Int × Bool)) => [some (O.ow [(encI (fst y279_)), (encI (fst (snd y279_))), (encB (snd (snd y279_)))]), some (O.fz (encI many_226_)), some (O.ow (List.map encI (fst (snd s257_)))), some (O.ow (List.map encI (snd (snd s257_))))]) ?_
  intro draws_278_
  refine sv_let (v := (fst (snd s257_))) (E := fun (y281_ : (List Int)) => [some (O.ow [(encI (fst draws_278_)), (encI (fst (snd draws_278_))), (encB (snd (snd draws_278_)))]), some (O.fz (encI many_226_)), some (O.ow (List.map encI y281_)), some (O.ow (List.map encI (snd (snd s257_))))]) ?_
  intro left_280_
  refine sv_let (v := (snd (snd s257_))) (E := fun (y283_ : (List Int)) => [some (O.ow [(encI (fst draws_278_)), (encI (fst (snd draws_278_))), (encB (snd (snd draws_278_)))]), some (O.fz (encI many_226_)), some (O.ow (List.map encI left_280_)), some (O.ow (List.map encI y283_))]) ?_
  intro told_282_
  exact sv_exit (ct := .rt (O.ow (List.map encI told_282_))) (e := [some (O.ow [(encI (fst draws_278_)), (encI (fst (snd draws_278_))), (encB (snd (snd draws_278_)))]), some (O.fz (encI many_226_)), some (O.ow (List.map encI left_280_)), none]) rfl (fun h => nomatch h) ⟨.inl rfl, rfl⟩
def t__law_lead (some_284_ : (List (List Int))) (one_285_ : Int) (other_286_ : Int) : Option Int := (cmpO (fun a287_ => ((atFirst one_285_ a287_).bind fun b288_ => (atFirst other_286_ a287_).map fun b289_ => (b288_, b289_)).map fun q290_ => (decide ((((fst q290_) : Nat) : Int) < (((snd q290_) : Nat) : Int)))) (fun a287_ => some a287_) some_284_).bind fun b291_ => (some ((List.length b291_ : Nat) : Int)).bind fun (ahead_292_ : Int) => (mulI (2 : Int) ahead_292_).map fun b294_ => (b294_ - ((List.length some_284_ : Nat) : Int))
theorem tk__law_lead (some_284_ : (List (List Int))) (one_285_ : Int) (other_286_ : Int) : ∀ bb, t__law_lead some_284_ one_285_ other_286_ = some bb → m__law_lead [(O.fz ((encL (encL encI)) some_284_)), (O.fz (encI one_285_)), (O.fz (encI other_286_))] = some ((fun (bb : Int) => (O.fz (encI bb))) bb, (fun (bb : Int) => [(O.fz ((encL (encL encI)) some_284_)), (O.fz (encI one_285_)), (O.fz (encI other_286_))]) bb) := by
  unfold t__law_lead m__law_lead
  refine def_T (ro := (fun (bb : Int) => (O.fz (encI bb)))) (ios := (fun (bb : Int) => [(O.fz ((encL (encL encI)) some_284_)), (O.fz (encI one_285_)), (O.fz (encI other_286_))])) rfl ?_
  show SV _ [some (O.fz ((encL (encL encI)) some_284_)), some (O.fz (encI one_285_)), some (O.fz (encI other_286_)), none, none] _ _
  refine sv_last ?_
  refine sv_assoc ?_
  refine sv_V (st := fun b291_ => [some (O.fz ((encL (encL encI)) some_284_)), some (O.fz (encI one_285_)), some (O.fz (encI other_286_)), some (O.fz (encI ((List.length b291_ : Nat) : Int))), none]) (xv_VP (xv_VP (xv_VP (xv_VP (xv_PV' (a := (List.map (encL encI) some_284_)) (e2 := [some (O.fz ((encL (encL encI)) some_284_)), some (O.fz (encI one_285_)), some (O.fz (encI other_286_)), none, none]) rfl (lc_O (en := (encL encI)) (en' := (encL encI)) (E1 := (fun a287_ => [some (O.fz ((encL (encL encI)) some_284_)), some (O.fz (encI one_285_)), some (O.fz (encI other_286_)), none, some (O.fz ((encL encI) a287_))])) rfl (fun _ => rfl) (fun a287_ => xv_map (xv_VP (xv_VV (t := (atFirst one_285_ a287_)) (t2 := fun b288_ => (atFirst other_286_ a287_)) (cv := fun q290_ => (P.val (encB (decide ((((fst q290_) : Nat) : Int) < (((snd q290_) : Nat) : Int)))))) (st2 := fun q290_ => [some (O.fz ((encL (encL encI)) some_284_)), some (O.fz (encI one_285_)), some (O.fz (encI other_286_)), none, some (O.fz ((encL encI) a287_))]) (xv_idx (p := (P.val ((encL encI) a287_))) (q := P.val PyData.none) rfl rfl (xv_PV' (a := (P.val (encI one_285_))) (e2 := [some (O.fz ((encL (encL encI)) some_284_)), some (O.fz (encI one_285_)), some (O.fz (encI other_286_)), none, some (O.fz ((encL encI) a287_))]) rfl (xo_idx rfl))) (fun b288_ => (xv_VP (xv_idx (p := (P.val ((encL encI) a287_))) (q := P.val PyData.none) rfl rfl (xv_PV' (a := (P.val (encI other_286_))) (e2 := [some (O.fz ((encL (encL encI)) some_284_)), some (O.fz (encI one_285_)), some (O.fz (encI other_286_)), none, some (O.fz ((encL encI) a287_))]) rfl (xo_idx rfl))) (fun b289_ => rfl)))) (fun q290_ => rfl))) (fun a287_ => xv_some rfl) (fun _ => rfl))) (fun b291_ => rfl)) (fun b291_ => rfl)) (fun b291_ => (oe_len rfl))) (fun b291_ => rfl)) ?_
  intro b291_
  refine sv_let (v := ((List.length b291_ : Nat) : Int)) (E := fun (y293_ : Int) => [some (O.fz ((encL (encL encI)) some_284_)), some (O.fz (encI one_285_)), some (O.fz (encI other_286_)), some (O.fz (encI y293_)), none]) ?_
  intro ahead_292_
  exact sv_exitV (ct := fun b294_ => (Ctl.rt (O.fz (encI (b294_ - ((List.length some_284_ : Nat) : Int)))))) (st := fun b294_ => [some (O.fz ((encL (encL encI)) some_284_)), some (O.fz (encI one_285_)), some (O.fz (encI other_286_)), some (O.fz (encI ahead_292_)), none]) (xv_VP (xv_VP (xv_PV' (a := (P.val (encI (2 : Int)))) (e2 := [some (O.fz ((encL (encL encI)) some_284_)), some (O.fz (encI one_285_)), some (O.fz (encI other_286_)), some (O.fz (encI ahead_292_)), none]) rfl (xv_PV' (a := (P.val (encI ahead_292_))) (e2 := [some (O.fz ((encL (encL encI)) some_284_)), some (O.fz (encI one_285_)), some (O.fz (encI other_286_)), some (O.fz (encI ahead_292_)), none]) rfl xo_mul)) (fun b294_ => ((bnd_eq (a := (P.val (encI ((List.length some_284_ : Nat) : Int)))) (e := [some (O.fz ((encL (encL encI)) some_284_)), some (O.fz (encI one_285_)), some (O.fz (encI other_286_)), some (O.fz (encI ahead_292_)), none]) ((bnd_eq (a := [(P.val ((encL (encL encI)) some_284_))]) (e := [some (O.fz ((encL (encL encI)) some_284_)), some (O.fz (encI one_285_)), some (O.fz (encI other_286_)), some (O.fz (encI ahead_292_)), none]) rfl).trans (oe_len rfl))).trans rfl))) (fun b294_ => rfl)) (fun _ h => nomatch h) (fun _ => ⟨.inl rfl, rfl⟩)
def t__law_by_ballots (many_295_ : Int) (some_296_ : (List (List Int))) : Option (List (List Int)) := (some []).bind fun (told_297_ : (List (List Int))) => (rng1 many_295_).bind fun b299_ => (forN (fun (a300_ : Int) (s329_ : (List (List Int))) => ((rng1 many_295_).bind fun b333_ => (cmpO (fun _ => some true) (fun a334_ => (if (decide (a300_ = a334_)) = true then (some (0 : Int)) else ((t__law_lead some_296_ a300_ a334_).map fun b335_ => b335_)).map fun b336_ => b336_) b333_).map fun b337_ => (b333_, b337_)).bind fun q338_ => (some (snd q338_)).bind fun (leads_339_ : (List Int)) => ((cmpT (fun a341_ => ((if (decide (a341_ < (0 : Int))) = true then (1 : Int) else 0) - (if (decide ((0 : Int) < a341_)) = true then (1 : Int) else 0))) leads_339_).bind fun b342_ => (appG s329_ b342_).map fun b343_ => (b342_, b343_)).bind fun q344_ => (some (snd q344_)).bind fun (told_345_ : (List (List Int))) => some told_345_) b299_ told_297_).bind fun (told_347_ : (List (List Int))) => some told_347_
theorem tk__law_by_ballots (many_295_ : Int) (some_296_ : (List (List Int))) : ∀ bb, t__law_by_ballots many_295_ some_296_ = some bb → m__law_by_ballots [(O.fz (encI many_295_)), (O.fz ((encL (encL encI)) some_296_))] = some ((fun (bb : (List (List Int))) => (O.ow (List.map (encL encI) bb))) bb, (fun (bb : (List (List Int))) => [(O.fz (encI many_295_)), (O.fz ((encL (encL encI)) some_296_))]) bb) := by
  unfold t__law_by_ballots m__law_by_ballots
  refine def_T (ro := (fun (bb : (List (List Int))) => (O.ow (List.map (encL encI) bb)))) (ios := (fun (bb : (List (List Int))) => [(O.fz (encI many_295_)), (O.fz ((encL (encL encI)) some_296_))])) rfl ?_
  show SV _ [some (O.fz (encI many_295_)), some (O.fz ((encL (encL encI)) some_296_)), none, none, none, none, none] _ _
  refine sv_last ?_
  refine sv_assoc ?_
  refine sv_nx (e := [some (O.fz (encI many_295_)), some (O.fz ((encL (encL encI)) some_296_)), some (O.ow (List.map (encL encI) [])), none, none, none, none]) rfl ?_
  refine sv_let (v := []) (E := fun (y298_ : (List (List Int))) => [some (O.fz (encI many_295_)), some (O.fz ((encL (encL encI)) some_296_)), some (O.ow (List.map (encL encI) y298_)), none, none, none, none]) ?_
  intro told_297_
  refine sv_assoc ?_
  refine sv_forNV (en := encI) (st := fun b299_ => [some (O.fz (encI many_295_)), some (O.fz ((encL (encL encI)) some_296_)), some (O.ow (List.map (encL encI) told_297_)), none, none, none, none]) (Q := fun b299_ => fun (s329_ : (List (List Int))) e332_ => ∃ u330_, ∃ u331_, e332_ = [some (O.fz (encI many_295_)), some (O.fz ((encL (encL encI)) some_296_)), some (O.ow (List.map (encL encI) s329_)), u330_, u331_, none, none]) (xv_PV' (a := [(P.val (encI many_295_))]) (e2 := [some (O.fz (encI many_295_)), some (O.fz ((encL (encL encI)) some_296_)), some (O.ow (List.map (encL encI) told_297_)), none, none, none, none]) rfl xo_rng1) (fun b299_ => ⟨_, _, rfl⟩) ?_ ?_
  · intro b299_
    rintro a300_ s329_ _ ⟨u330_, u331_, rfl⟩
    refine ⟨[some (O.fz (encI many_295_)), some (O.fz ((encL (encL encI)) some_296_)), some (O.ow (List.map (encL encI) s329_)), some (O.fz (encI a300_)), u331_, none, none], rfl, ?_⟩
    refine sv_last ?_
    refine sv_assoc ?_
    refine sv_V (st := fun q338_ => [some (O.fz (encI many_295_)), some (O.fz ((encL (encL encI)) some_296_)), some (O.ow (List.map (encL encI) s329_)), some (O.fz (encI a300_)), some (O.fz ((encL encI) (snd q338_))), none, none]) (xv_VP (xv_VP (xv_VV (t := (rng1 many_295_)) (t2 := fun b333_ => (cmpO (fun _ => some true) (fun a334_ => (if (decide (a300_ = a334_)) = true then (some (0 : Int)) else ((t__law_lead some_296_ a300_ a334_).map fun b335_ => b335_)).map fun b336_ => b336_) b333_)) (cv := fun q338_ => (List.map encI (snd q338_))) (st2 := fun q338_ => [some (O.fz (encI many_295_)), some (O.fz ((encL (encL encI)) some_296_)), some (O.ow (List.map (encL encI) s329_)), some (O.fz (encI a300_)), u331_, none, none]) (xv_PV' (a := [(P.val (encI many_295_))]) (e2 := [some (O.fz (encI many_295_)), some (O.fz ((encL (encL encI)) some_296_)), some (O.ow (List.map (encL encI) s329_)), some (O.fz (encI a300_)), u331_, none, none]) rfl xo_rng1) (fun b333_ => (lc_O (en := encI) (en' := encI) (E1 := (fun a334_ => [some (O.fz (encI many_295_)), some (O.fz ((encL (encL encI)) some_296_)), some (O.ow (List.map (encL encI) s329_)), some (O.fz (encI a300_)), u331_, some (O.fz (encI a334_)), none])) rfl (fun _ => rfl) (fun _ => xv_some rfl) (fun a334_ => xv_map (xv_ifP ((bnd_eq (a := (P.val (encB (decide (a300_ = a334_))))) (e := [some (O.fz (encI many_295_)), some (O.fz ((encL (encL encI)) some_296_)), some (O.ow (List.map (encL encI) s329_)), some (O.fz (encI a300_)), u331_, some (O.fz (encI a334_)), none]) ((bnd_eq (a := (P.val (encI a300_))) (e := [some (O.fz (encI many_295_)), some (O.fz ((encL (encL encI)) some_296_)), some (O.ow (List.map (encL encI) s329_)), some (O.fz (encI a300_)), u331_, some (O.fz (encI a334_)), none]) rfl).trans ((bnd_eq (a := (P.val (encI a334_))) (e := [some (O.fz (encI many_295_)), some (O.fz ((encL (encL encI)) some_296_)), some (O.ow (List.map (encL encI) s329_)), some (O.fz (encI a300_)), u331_, some (O.fz (encI a334_)), none]) rfl).trans (oe_eq (a := a300_) (b := a334_) eo_I rfl rfl)))).trans rfl) (xv_some rfl) (xv_map (xv_VP (xv_PV' (a := [(P.val ((encL (encL encI)) some_296_)), (P.val (encI a300_)), (P.val (encI a334_))]) (e2 := [some (O.fz (encI many_295_)), some (O.fz ((encL (encL encI)) some_296_)), some (O.ow (List.map (encL encI) s329_)), some (O.fz (encI a300_)), u331_, some (O.fz (encI a334_)), none]) rfl (xo_call (tk__law_lead some_296_ a300_ a334_) rfl rfl rfl (fun _ => rfl))) (fun b335_ => rfl))))) (fun _ => rfl)))) (fun q338_ => rfl)) (fun q338_ => rfl)) ?_
    intro q338_
    refine sv_let (v := (snd q338_)) (E := fun (y340_ : (List Int)) => [some (O.fz (encI many_295_)), some (O.fz ((encL (encL encI)) some_296_)), some (O.ow (List.map (encL encI) s329_)), some (O.fz (encI a300_)), some (O.fz ((encL encI) y340_)), none, none]) ?_
    intro leads_339_
    refine sv_V (st := fun q344_ => [some (O.fz (encI many_295_)), some (O.fz ((encL (encL encI)) some_296_)), some (O.ow (List.map (encL encI) (snd q344_))), some (O.fz (encI a300_)), some (O.fz ((encL encI) leads_339_)), none, none]) (xv_app (t := (cmpT (fun a341_ => ((if (decide (a341_ < (0 : Int))) = true then (1 : Int) else 0) - (if (decide ((0 : Int) < a341_)) = true then (1 : Int) else 0))) leads_339_)) (en := (encL encI)) (xs := fun b342_ => s329_) (x := fun b342_ => b342_) (p := fun b342_ => (P.val ((encL encI) b342_))) ⟨_, rfl⟩ (xv_VP (xv_VP (xv_PV' (a := (List.map encI leads_339_)) (e2 := [some (O.fz (encI many_295_)), some (O.fz ((encL (encL encI)) some_296_)), some (O.ow (List.map (encL encI) s329_)), some (O.fz (encI a300_)), some (O.fz ((encL encI) leads_339_)), none, none]) rfl (lc_T (en := encI) (en' := encI) (E1 := (fun a341_ => [some (O.fz (encI many_295_)), some (O.fz ((encL (encL encI)) some_296_)), some (O.ow (List.map (encL encI) s329_)), some (O.fz (encI a300_)), some (O.fz ((encL encI) leads_339_)), none, some (O.fz (encI a341_))])) rfl (fun _ => rfl) (fun a341_ => rfl) (fun _ => rfl))) (fun b342_ => rfl)) (fun b342_ => rfl)) (fun _ => rfl) (fun _ => rfl) (fun _ => rfl)) ?_
    intro q344_
    refine sv_let (v := (snd q344_)) (E := fun (y346_ : (List (List Int))) => [some (O.fz (encI many_295_)), some (O.fz ((encL (encL encI)) some_296_)), some (O.ow (List.map (encL encI) y346_)), some (O.fz (encI a300_)), some (O.fz ((encL encI) leads_339_)), none, none]) ?_
    intro told_345_
    exact sv_end ⟨.inl rfl, _, _, rfl⟩
  intro b299_
  rintro told_347_ _ ⟨u330_, u331_, rfl⟩
  exact sv_exit (ct := .rt (O.ow (List.map (encL encI) told_347_))) (e := [some (O.fz (encI many_295_)), some (O.fz ((encL (encL encI)) some_296_)), none, u330_, u331_, none, none]) rfl (fun h => nomatch h) ⟨.inl rfl, rfl⟩
def t__law_right (draws_348_ : (Int × Int × Bool)) : Option (Bool × (Int × Int × Bool)) := (t__law_next draws_348_).bind fun b349_ => (some (Int.fmod (fst b349_) (13 : Int))).bind fun (many_350_ : Int) => (some (snd b349_)).bind fun (draws_352_ : (Int × Int × Bool)) => ((((t__law_next draws_352_).bind fun b354_ => (((t__law_next (snd b354_)).bind fun b355_ => (atI [(7 : Int), (30 : Int)] (Int.fmod (fst b355_) (2 : Int))).map fun b356_ => (b355_, b356_)).bind fun q357_ => (modI (fst b354_) (snd q357_)).map fun b358_ => (q357_, b358_)).map fun q359_ => (b354_, q359_)).bind fun q360_ => (rng1 (snd (snd q360_))).map fun b361_ => (q360_, b361_)).bind fun q362_ => (cmpG (fun a363_ s365_ => (some (true, s365_))) (fun a363_ s365_ => ((t__law_ballot s365_ many_350_).map fun b366_ => ((fst b366_), (snd b366_)))) (snd q362_) (snd (fst (fst (snd (fst q362_)))))).map fun b367_ => (q362_, b367_)).bind fun q368_ => (some (fst (snd q368_))).bind fun (some_369_ : (List (List Int))) => (some (snd (snd q368_))).bind fun (draws_371_ : (Int × Int × Bool)) => (((t__law_next draws_371_).bind fun b373_ => (cmpT (fun a374_ => a374_) (cutG some_369_ none (some (Int.fmod (fst b373_) (4 : Int))))).map fun b375_ => (b373_, b375_)).bind fun q376_ => (catG some_369_ (snd q376_)).map fun b377_ => (q376_, b377_)).bind fun q378_ => (some (snd q378_)).bind fun (some_379_ : (List (List Int))) => (some (snd (fst (fst q378_)))).bind fun (draws_381_ : (Int × Int × Bool)) => (reprG ((encL (encL encI)) some_379_)).bind fun kept_384_ => (t__law_by_ballots many_350_ some_379_).bind fun due_386_ => ((t_rule_of_ballots many_350_ some_379_).bind fun b387_ => (t_rule_of_ballots many_350_ some_379_).map fun b388_ => (b387_, b388_)).bind fun q389_ => (some (fst q389_)).bind fun (told_390_ : (List (List Int))) => (some (snd q389_)).bind fun (named_392_ : (List (List Int))) => ((((reprG (PyData.list [encL (encL encI) told_390_, encL (encL encI) named_392_])).bind fun b394_ => ((reprG ((encL (encL (encL encI))) [due_386_, due_386_])).bind fun b395_ => (eqS b394_ b395_).map fun b396_ => (b395_, b396_)).map fun q397_ => (b394_, q397_)).map fun q398_ => ((!(snd (snd q398_))), ())).bind fun b407_ => if (fst b407_) = true then some (true, (snd b407_)) else (fun s402_ => (((reprG ((encL (encL encI)) some_379_)).bind fun b403_ => (eqS b403_ kept_384_).map fun b404_ => (b403_, b404_)).map fun q405_ => ((!(snd q405_)), ()))) (snd b407_)).bind fun b406_ => if (fst b406_) = true then (some (false, draws_381_)) else ((t_tail many_350_ some_379_ due_386_ told_390_ named_392_).map fun b408_ => (b408_, draws_381_))
theorem tk__law_right (draws_348_ : (Int × Int × Bool)) : ∀ bb, t__law_right draws_348_ = some bb → m__law_right [(O.ow [(encI (fst draws_348_)), (encI (fst (snd draws_348_))), (encB (snd (snd draws_348_)))])] = some ((fun (bb : (Bool × (Int × Int × Bool))) => (O.fz (encB (fst bb)))) bb, (fun (bb : (Bool × (Int × Int × Bool))) => [(O.ow [(encI (fst (snd bb))), (encI (fst (snd (snd bb)))), (encB (snd (snd (snd bb))))])]) bb) := by
  unfold t__law_right m__law_right
  refine def_T (ro := (fun (bb : (Bool × (Int × Int × Bool))) => (O.fz (encB (fst bb))))) (ios := (fun (bb : (Bool × (Int × Int × Bool))) => [(O.ow [(encI (fst (snd bb))), (encI (fst (snd (snd bb)))), (encB (snd (snd (snd bb))))])])) rfl ?_
  show SV _ [some (O.ow [(encI (fst draws_348_)), (encI (fst (snd draws_348_))), (encB (snd (snd draws_348_)))]), none, none, none, none, none, none, none, none, none, none, none, none, none] _ _
  refine sv_last ?_
  refine sv_assoc ?_
  refine sv_V (st := fun b349_ => [some (O.ow [(encI (fst (snd b349_))), (encI (fst (snd (snd b349_)))), (encB (snd (snd (snd b349_))))]), some (O.fz (encI (Int.fmod (fst b349_) (13 : Int)))), none, none, none, none, none, none, none, none, none, none, none, none]) (xv_VP (xv_VP (xv_VP (xv_VP (xv_VP (xv_PV' (a := [(P.var 0)]) (e2 := [some (O.ow [(encI (fst draws_348_)), (encI (fst (snd draws_348_))), (encB (snd (snd draws_348_)))]), none, none, none, none, none, none, none, none, none, none, none, none, none]) rfl (xo_call (tk__law_next draws_348_) rfl rfl rfl (fun _ => rfl))) (fun b349_ => rfl)) (fun b349_ => rfl)) (fun b349_ => rfl)) (fun b349_ => rfl)) (fun b349_ => rfl)) ?_
  intro b349_
  refine sv_let (v := (Int.fmod (fst b349_) (13 : Int))) (E := fun (y351_ : Int) => [some (O.ow [(encI (fst (snd b349_))), (encI (fst (snd (snd b349_)))), (encB (snd (snd (snd b349_))))]), some (O.fz (encI y351_)), none, none, none, none, none, none, none, none, none, none, none, none]) ?_
  intro many_350_
  refine sv_let (v := (snd b349_)) (E := fun (y353_ : (Int × Int × Bool)) => [some (O.ow [(encI (fst y353_)), (encI (fst (snd y353_))), (encB (snd (snd y353_)))]), some (O.fz (encI many_350_)), none, none, none, none, none, none, none, none, none, none, none, none]) ?_
  intro draws_352_
  refine sv_assoc ?_
  refine sv_V (st := fun q368_ => [some (O.ow [(encI (fst (snd (snd q368_)))), (encI (fst (snd (snd (snd q368_))))), (encB (snd (snd (snd (snd q368_)))))]), some (O.fz (encI many_350_)), some (O.fz ((encL (encL encI)) (fst (snd q368_)))), none, none, none, none, none, none, none, none, none, none, none]) (xv_VP (xv_VP (xv_VV (t := (((t__law_next draws_352_).bind fun b354_ => (((t__law_next (snd b354_)).bind fun b355_ => (atI [(7 : Int), (30 : Int)] (Int.fmod (fst b355_) (2 : Int))).map fun b356_ => (b355_, b356_)).bind fun q357_ => (modI (fst b354_) (snd q357_)).map fun b358_ => (q357_, b358_)).map fun q359_ => (b354_, q359_)).bind fun q360_ => (rng1 (snd (snd q360_))).map fun b361_ => (q360_, b361_))) (t2 := fun q362_ => (cmpG (fun a363_ s365_ => (some (true, s365_))) (fun a363_ s365_ => ((t__law_ballot s365_ many_350_).map fun b366_ => ((fst b366_), (snd b366_)))) (snd q362_) (snd (fst (fst (snd (fst q362_))))))) (cv := fun q368_ => (List.map (encL encI) (fst (snd q368_)))) (st2 := fun q368_ => [some (O.ow [(encI (fst (snd (snd q368_)))), (encI (fst (snd (snd (snd q368_))))), (encB (snd (snd (snd (snd q368_)))))]), some (O.fz (encI many_350_)), none, none, none, none, none, none, none, none, none, none, none, none]) (xv_VV (t := ((t__law_next draws_352_).bind fun b354_ => (((t__law_next (snd b354_)).bind fun b355_ => (atI [(7 : Int), (30 : Int)] (Int.fmod (fst b355_) (2 : Int))).map fun b356_ => (b355_, b356_)).bind fun q357_ => (modI (fst b354_) (snd q357_)).map fun b358_ => (q357_, b358_)).map fun q359_ => (b354_, q359_))) (t2 := fun q360_ => (rng1 (snd (snd q360_)))) (cv := fun q362_ => (List.map encI (snd q362_))) (st2 := fun q362_ => [some (O.ow [(encI (fst (snd (fst (fst (snd (fst q362_))))))), (encI (fst (snd (snd (fst (fst (snd (fst q362_)))))))), (encB (snd (snd (snd (fst (fst (snd (fst q362_))))))))]), some (O.fz (encI many_350_)), none, none, none, none, none, none, none, none, none, none, none, none]) (xv_VP (xv_VV (t := (t__law_next draws_352_)) (t2 := fun b354_ => (((t__law_next (snd b354_)).bind fun b355_ => (atI [(7 : Int), (30 : Int)] (Int.fmod (fst b355_) (2 : Int))).map fun b356_ => (b355_, b356_)).bind fun q357_ => (modI (fst b354_) (snd q357_)).map fun b358_ => (q357_, b358_))) (cv := fun q360_ => (P.val (encI (snd (snd q360_))))) (st2 := fun q360_ => [some (O.ow [(encI (fst (snd (fst (fst (snd q360_)))))), (encI (fst (snd (snd (fst (fst (snd q360_))))))), (encB (snd (snd (snd (fst (fst (snd q360_)))))))]), some (O.fz (encI many_350_)), none, none, none, none, none, none, none, none, none, none, none, none]) (xv_VP (xv_VP (xv_VP (xv_PV' (a := [(P.var 0)]) (e2 := [some (O.ow [(encI (fst draws_352_)), (encI (fst (snd draws_352_))), (encB (snd (snd draws_352_)))]), some (O.fz (encI many_350_)), none, none, none, none, none, none, none, none, none, none, none, none]) rfl (xo_call (tk__law_next draws_352_) rfl rfl rfl (fun _ => rfl))) (fun b354_ => rfl)) (fun b354_ => rfl)) (fun b354_ => rfl)) (fun b354_ => (xv_VV (t := ((t__law_next (snd b354_)).bind fun b355_ => (atI [(7 : Int), (30 : Int)] (Int.fmod (fst b355_) (2 : Int))).map fun b356_ => (b355_, b356_))) (t2 := fun q357_ => (modI (fst b354_) (snd q357_))) (cv := fun q359_ => (P.val (encI (snd q359_)))) (st2 := fun q359_ => [some (O.ow [(encI (fst (snd (fst (fst q359_))))), (encI (fst (snd (snd (fst (fst q359_)))))), (encB (snd (snd (snd (fst (fst q359_))))))]), some (O.fz (encI many_350_)), none, none, none, none, none, none, none, none, none, none, none, none]) (xv_PV' (a := (P.val ((encL encI) [(7 : Int), (30 : Int)]))) (e2 := [some (O.ow [(encI (fst (snd b354_))), (encI (fst (snd (snd b354_)))), (encB (snd (snd (snd b354_))))]), some (O.fz (encI many_350_)), none, none, none, none, none, none, none, none, none, none, none, none]) rfl (xv_VV (t := (t__law_next (snd b354_))) (t2 := fun b355_ => (atI [(7 : Int), (30 : Int)] (Int.fmod (fst b355_) (2 : Int)))) (cv := fun q357_ => (P.val (encI (snd q357_)))) (st2 := fun q357_ => [some (O.ow [(encI (fst (snd (fst q357_)))), (encI (fst (snd (snd (fst q357_))))), (encB (snd (snd (snd (fst q357_)))))]), some (O.fz (encI many_350_)), none, none, none, none, none, none, none, none, none, none, none, none]) (xv_VP (xv_VP (xv_VP (xv_VP (xv_PV' (a := [(P.var 0)]) (e2 := [some (O.ow [(encI (fst (snd b354_))), (encI (fst (snd (snd b354_)))), (encB (snd (snd (snd b354_))))]), some (O.fz (encI many_350_)), none, none, none, none, none, none, none, none, none, none, none, none]) rfl (xo_call (tk__law_next (snd b354_)) rfl rfl rfl (fun _ => rfl))) (fun b355_ => rfl)) (fun b355_ => rfl)) (fun b355_ => rfl)) (fun b355_ => rfl)) (fun b355_ => (xo_ix rfl)))) (fun q357_ => xo_mod)))) (fun q360_ => rfl)) (fun q360_ => xo_rng1)) (fun q362_ => (lc_G (en := encI) (en' := (encL encI)) (E := (fun s365_ => [some (O.ow [(encI (fst s365_)), (encI (fst (snd s365_))), (encB (snd (snd s365_)))]), some (O.fz (encI many_350_)), none, none, none, none, none, none, none, none, none, none, none, none])) (E1 := (fun a363_ s365_ => [some (O.ow [(encI (fst s365_)), (encI (fst (snd s365_))), (encB (snd (snd s365_)))]), some (O.fz (encI many_350_)), none, none, none, none, none, none, none, none, none, some (O.fz (encI a363_)), none, none])) (cond := fun a363_ s365_ => (some (true, s365_))) (elt := fun a363_ s365_ => ((t__law_ballot s365_ many_350_).map fun b366_ => ((fst b366_), (snd b366_)))) rfl (fun _ _ => rfl) (fun a363_ s365_ => (xv_some rfl)) (fun a363_ s365_ => (xv_map (t := (t__law_ballot s365_ many_350_)) (f := fun b366_ => ((fst b366_), (snd b366_))) (xv_VP (xv_PV' (a := [(P.var 0), (P.val (encI many_350_))]) (e2 := [some (O.ow [(encI (fst s365_)), (encI (fst (snd s365_))), (encB (snd (snd s365_)))]), some (O.fz (encI many_350_)), none, none, none, none, none, none, none, none, none, some (O.fz (encI a363_)), none, none]) rfl (xo_call (tk__law_ballot s365_ many_350_) rfl rfl rfl (fun _ => rfl))) (fun b366_ => rfl)))) (fun _ _ => rfl)))) (fun q368_ => rfl)) (fun q368_ => rfl)) ?_
  intro q368_
  refine sv_let (v := (fst (snd q368_))) (E := fun (y370_ : (List (List Int))) => [some (O.ow [(encI (fst (snd (snd q368_)))), (encI (fst (snd (snd (snd q368_))))), (encB (snd (snd (snd (snd q368_)))))]), some (O.fz (encI many_350_)), some (O.fz ((encL (encL encI)) y370_)), none, none, none, none, none, none, none, none, none, none, none]) ?_
  intro some_369_
  refine sv_let (v := (snd (snd q368_))) (E := fun (y372_ : (Int × Int × Bool)) => [some (O.ow [(encI (fst y372_)), (encI (fst (snd y372_))), (encB (snd (snd y372_)))]), some (O.fz (encI many_350_)), some (O.fz ((encL (encL encI)) some_369_)), none, none, none, none, none, none, none, none, none, none, none]) ?_
  intro draws_371_
  refine sv_assoc ?_
  refine sv_V (st := fun q378_ => [some (O.ow [(encI (fst (snd (fst (fst q378_))))), (encI (fst (snd (snd (fst (fst q378_)))))), (encB (snd (snd (snd (fst (fst q378_))))))]), some (O.fz (encI many_350_)), some (O.fz ((encL (encL encI)) (snd q378_))), none, none, none, none, none, none, none, none, none, none, none]) (xv_VP (xv_VP (xv_PV' (a := (P.val ((encL (encL encI)) some_369_))) (e2 := [some (O.ow [(encI (fst draws_371_)), (encI (fst (snd draws_371_))), (encB (snd (snd draws_371_)))]), some (O.fz (encI many_350_)), some (O.fz ((encL (encL encI)) some_369_)), none, none, none, none, none, none, none, none, none, none, none]) rfl (xv_VV (t := ((t__law_next draws_371_).bind fun b373_ => (cmpT (fun a374_ => a374_) (cutG some_369_ none (some (Int.fmod (fst b373_) (4 : Int))))).map fun b375_ => (b373_, b375_))) (t2 := fun q376_ => (catG some_369_ (snd q376_))) (cv := fun q378_ => (List.map (encL encI) (snd q378_))) (st2 := fun q378_ => [some (O.ow [(encI (fst (snd (fst (fst q378_))))), (encI (fst (snd (snd (fst (fst q378_)))))), (encB (snd (snd (snd (fst (fst q378_))))))]), some (O.fz (encI many_350_)), some (O.fz ((encL (encL encI)) some_369_)), none, none, none, none, none, none, none, none, none, none, none]) (xv_VP (xv_VV (t := (t__law_next draws_371_)) (t2 := fun b373_ => (cmpT (fun a374_ => a374_) (cutG some_369_ none (some (Int.fmod (fst b373_) (4 : Int)))))) (cv := fun q376_ => (List.map (encL encI) (snd q376_))) (st2 := fun q376_ => [some (O.ow [(encI (fst (snd (fst q376_)))), (encI (fst (snd (snd (fst q376_))))), (encB (snd (snd (snd (fst q376_)))))]), some (O.fz (encI many_350_)), some (O.fz ((encL (encL encI)) some_369_)), none, none, none, none, none, none, none, none, none, none, none]) (xv_VP (xv_VP (xv_PV' (a := (P.val ((encL (encL encI)) some_369_))) (e2 := [some (O.ow [(encI (fst draws_371_)), (encI (fst (snd draws_371_))), (encB (snd (snd draws_371_)))]), some (O.fz (encI many_350_)), some (O.fz ((encL (encL encI)) some_369_)), none, none, none, none, none, none, none, none, none, none, none]) rfl (xv_PV' (a := none) (e2 := [some (O.ow [(encI (fst draws_371_)), (encI (fst (snd draws_371_))), (encB (snd (snd draws_371_)))]), some (O.fz (encI many_350_)), some (O.fz ((encL (encL encI)) some_369_)), none, none, none, none, none, none, none, none, none, none, none]) rfl (xv_VP (xv_VP (xv_VP (xv_VP (xv_VP (xv_VP (xv_PV' (a := [(P.var 0)]) (e2 := [some (O.ow [(encI (fst draws_371_)), (encI (fst (snd draws_371_))), (encB (snd (snd draws_371_)))]), some (O.fz (encI many_350_)), some (O.fz ((encL (encL encI)) some_369_)), none, none, none, none, none, none, none, none, none, none, none]) rfl (xo_call (tk__law_next draws_371_) rfl rfl rfl (fun _ => rfl))) (fun b373_ => rfl)) (fun b373_ => rfl)) (fun b373_ => rfl)) (fun b373_ => rfl)) (fun b373_ => rfl)) (fun b373_ => (oe_cut rfl))))) (fun b373_ => rfl)) (fun b373_ => rfl)) (fun b373_ => (lc_T (en := (encL encI)) (en' := (encL encI)) (E1 := (fun a374_ => [some (O.ow [(encI (fst (snd b373_))), (encI (fst (snd (snd b373_)))), (encB (snd (snd (snd b373_))))]), some (O.fz (encI many_350_)), some (O.fz ((encL (encL encI)) some_369_)), none, none, none, none, none, none, none, none, none, some (O.fz ((encL encI) a374_)), none])) rfl (fun _ => rfl) (fun a374_ => rfl) (fun _ => rfl)))) (fun q376_ => rfl)) (fun q376_ => (xo_cat rfl rfl)))) (fun q378_ => rfl)) (fun q378_ => rfl)) ?_
  intro q378_
  refine sv_let (v := (snd q378_)) (E := fun (y380_ : (List (List Int))) => [some (O.ow [(encI (fst (snd (fst (fst q378_))))), (encI (fst (snd (snd (fst (fst q378_)))))), (encB (snd (snd (snd (fst (fst q378_))))))]), some (O.fz (encI many_350_)), some (O.fz ((encL (encL encI)) y380_)), none, none, none, none, none, none, none, none, none, none, none]) ?_
  intro some_379_
  refine sv_let (v := (snd (fst (fst q378_)))) (E := fun (y382_ : (Int × Int × Bool)) => [some (O.ow [(encI (fst y382_)), (encI (fst (snd y382_))), (encB (snd (snd y382_)))]), some (O.fz (encI many_350_)), some (O.fz ((encL (encL encI)) some_379_)), none, none, none, none, none, none, none, none, none, none, none]) ?_
  intro draws_381_
  refine sv_assoc ?_
  refine sv_V (st := fun b383_ => [some (O.ow [(encI (fst draws_381_)), (encI (fst (snd draws_381_))), (encB (snd (snd draws_381_)))]), some (O.fz (encI many_350_)), some (O.fz ((encL (encL encI)) some_379_)), some (O.fz (encS b383_)), none, none, none, none, none, none, none, none, none, none]) (xv_VP (xv_PV' (a := [(P.val ((encL (encL encI)) some_379_))]) (e2 := [some (O.ow [(encI (fst draws_381_)), (encI (fst (snd draws_381_))), (encB (snd (snd draws_381_)))]), some (O.fz (encI many_350_)), some (O.fz ((encL (encL encI)) some_379_)), none, none, none, none, none, none, none, none, none, none, none]) rfl (xo_repr rfl)) (fun b383_ => rfl)) ?_
  intro kept_384_
  refine sv_assoc ?_
  refine sv_V (st := fun b385_ => [some (O.ow [(encI (fst draws_381_)), (encI (fst (snd draws_381_))), (encB (snd (snd draws_381_)))]), some (O.fz (encI many_350_)), some (O.fz ((encL (encL encI)) some_379_)), some (O.fz (encS kept_384_)), some (O.fz ((encL (encL encI)) b385_)), none, none, none, none, none, none, none, none, none]) (xv_VP (xv_VP (xv_PV' (a := [(P.val (encI many_350_)), (P.val ((encL (encL encI)) some_379_))]) (e2 := [some (O.ow [(encI (fst draws_381_)), (encI (fst (snd draws_381_))), (encB (snd (snd draws_381_)))]), some (O.fz (encI many_350_)), some (O.fz ((encL (encL encI)) some_379_)), some (O.fz (encS kept_384_)), none, none, none, none, none, none, none, none, none, none]) rfl (xo_call (tk__law_by_ballots many_350_ some_379_) rfl rfl rfl (fun _ => rfl))) (fun b385_ => rfl)) (fun b385_ => rfl)) ?_
  intro due_386_
  refine sv_assoc ?_
  refine sv_V (st := fun q389_ => [some (O.ow [(encI (fst draws_381_)), (encI (fst (snd draws_381_))), (encB (snd (snd draws_381_)))]), some (O.fz (encI many_350_)), some (O.fz ((encL (encL encI)) some_379_)), some (O.fz (encS kept_384_)), some (O.fz ((encL (encL encI)) due_386_)), none, none, none, some (O.ow2 (List.map (fun r => List.map encI r) (fst q389_))), some (O.ow2 (List.map (fun r => List.map encI r) (snd q389_))), none, none, none, none]) (xv_VV (t := (t_rule_of_ballots many_350_ some_379_)) (t2 := fun b387_ => (t_rule_of_ballots many_350_ some_379_)) (cv := fun q389_ => Ctl.nx) (st2 := fun q389_ => [some (O.ow [(encI (fst draws_381_)), (encI (fst (snd draws_381_))), (encB (snd (snd draws_381_)))]), some (O.fz (encI many_350_)), some (O.fz ((encL (encL encI)) some_379_)), some (O.fz (encS kept_384_)), some (O.fz ((encL (encL encI)) due_386_)), none, none, none, some (O.ow2 (List.map (fun r => List.map encI r) (fst q389_))), some (O.ow2 (List.map (fun r => List.map encI r) (snd q389_))), none, none, none, none]) (xv_PV' (a := [(P.val (encI many_350_)), (P.val ((encL (encL encI)) some_379_))]) (e2 := [some (O.ow [(encI (fst draws_381_)), (encI (fst (snd draws_381_))), (encB (snd (snd draws_381_)))]), some (O.fz (encI many_350_)), some (O.fz ((encL (encL encI)) some_379_)), some (O.fz (encS kept_384_)), some (O.fz ((encL (encL encI)) due_386_)), none, none, none, none, none, none, none, none, none]) rfl (xo_call (tk_rule_of_ballots many_350_ some_379_) rfl rfl rfl (fun _ => rfl))) (fun b387_ => (xv_VP (xv_PV' (a := []) (e2 := [some (O.ow [(encI (fst draws_381_)), (encI (fst (snd draws_381_))), (encB (snd (snd draws_381_)))]), some (O.fz (encI many_350_)), some (O.fz ((encL (encL encI)) some_379_)), some (O.fz (encS kept_384_)), some (O.fz ((encL (encL encI)) due_386_)), none, none, none, none, none, none, none, none, none]) rfl (xv_PV' (a := [(P.val ((encL (encL encI)) some_379_)), (P.val (encI many_350_))]) (e2 := [some (O.ow [(encI (fst draws_381_)), (encI (fst (snd draws_381_))), (encB (snd (snd draws_381_)))]), some (O.fz (encI many_350_)), some (O.fz ((encL (encL encI)) some_379_)), some (O.fz (encS kept_384_)), some (O.fz ((encL (encL encI)) due_386_)), none, none, none, none, none, none, none, none, none]) rfl (xo_call (tk_rule_of_ballots many_350_ some_379_) rfl rfl rfl (fun _ => rfl)))) (fun b388_ => rfl)))) ?_
  intro q389_
  refine sv_let (v := (fst q389_)) (E := fun (y391_ : (List (List Int))) => [some (O.ow [(encI (fst draws_381_)), (encI (fst (snd draws_381_))), (encB (snd (snd draws_381_)))]), some (O.fz (encI many_350_)), some (O.fz ((encL (encL encI)) some_379_)), some (O.fz (encS kept_384_)), some (O.fz ((encL (encL encI)) due_386_)), none, none, none, some (O.ow2 (List.map (fun r => List.map encI r) y391_)), some (O.ow2 (List.map (fun r => List.map encI r) (snd q389_))), none, none, none, none]) ?_
  intro told_390_
  refine sv_let (v := (snd q389_)) (E := fun (y393_ : (List (List Int))) => [some (O.ow [(encI (fst draws_381_)), (encI (fst (snd draws_381_))), (encB (snd (snd draws_381_)))]), some (O.fz (encI many_350_)), some (O.fz ((encL (encL encI)) some_379_)), some (O.fz (encS kept_384_)), some (O.fz ((encL (encL encI)) due_386_)), none, none, none, some (O.ow2 (List.map (fun r => List.map encI r) told_390_)), some (O.ow2 (List.map (fun r => List.map encI r) y393_)), none, none, none, none]) ?_
  intro named_392_
  refine sv_assoc ?_
  refine sv_ifV (st := fun b406_ => [some (O.ow [(encI (fst draws_381_)), (encI (fst (snd draws_381_))), (encB (snd (snd draws_381_)))]), some (O.fz (encI many_350_)), some (O.fz ((encL (encL encI)) some_379_)), some (O.fz (encS kept_384_)), some (O.fz ((encL (encL encI)) due_386_)), none, none, none, some (O.ow2 (List.map (fun r => List.map encI r) told_390_)), some (O.ow2 (List.map (fun r => List.map encI r) named_392_)), none, none, none, none]) (xv_orV (E := (fun s402_ => [some (O.ow [(encI (fst draws_381_)), (encI (fst (snd draws_381_))), (encB (snd (snd draws_381_)))]), some (O.fz (encI many_350_)), some (O.fz ((encL (encL encI)) some_379_)), some (O.fz (encS kept_384_)), some (O.fz ((encL (encL encI)) due_386_)), none, none, none, some (O.ow2 (List.map (fun r => List.map encI r) told_390_)), some (O.ow2 (List.map (fun r => List.map encI r) named_392_)), none, none, none, none])) (t2 := (fun s402_ => (((reprG ((encL (encL encI)) some_379_)).bind fun b403_ => (eqS b403_ kept_384_).map fun b404_ => (b403_, b404_)).map fun q405_ => ((!(snd q405_)), ())))) (xv_map (t := ((reprG (PyData.list [encL (encL encI) told_390_, encL (encL encI) named_392_])).bind fun b394_ => ((reprG ((encL (encL (encL encI))) [due_386_, due_386_])).bind fun b395_ => (eqS b394_ b395_).map fun b396_ => (b395_, b396_)).map fun q397_ => (b394_, q397_))) (f := fun q398_ => ((!(snd (snd q398_))), ())) (xv_VP (xv_VV (t := (reprG (PyData.list [encL (encL encI) told_390_, encL (encL encI) named_392_]))) (t2 := fun b394_ => ((reprG ((encL (encL (encL encI))) [due_386_, due_386_])).bind fun b395_ => (eqS b394_ b395_).map fun b396_ => (b395_, b396_))) (cv := fun q398_ => (P.val (encB (!(snd (snd q398_)))))) (st2 := fun q398_ => [some (O.ow [(encI (fst draws_381_)), (encI (fst (snd draws_381_))), (encB (snd (snd draws_381_)))]), some (O.fz (encI many_350_)), some (O.fz ((encL (encL encI)) some_379_)), some (O.fz (encS kept_384_)), some (O.fz ((encL (encL encI)) due_386_)), none, none, none, some (O.ow2 (List.map (fun r => List.map encI r) told_390_)), some (O.ow2 (List.map (fun r => List.map encI r) named_392_)), none, none, none, none]) (xo_reprV (vws_two rfl rfl) (by decide)) (fun b394_ => (xv_VV (t := (reprG ((encL (encL (encL encI))) [due_386_, due_386_]))) (t2 := fun b395_ => (eqS b394_ b395_)) (cv := fun q397_ => (P.val (encB (!(snd q397_))))) (st2 := fun q397_ => [some (O.ow [(encI (fst draws_381_)), (encI (fst (snd draws_381_))), (encB (snd (snd draws_381_)))]), some (O.fz (encI many_350_)), some (O.fz ((encL (encL encI)) some_379_)), some (O.fz (encS kept_384_)), some (O.fz ((encL (encL encI)) due_386_)), none, none, none, some (O.ow2 (List.map (fun r => List.map encI r) told_390_)), some (O.ow2 (List.map (fun r => List.map encI r) named_392_)), none, none, none, none]) (xv_PV' (a := [(P.val ((encL (encL (encL encI))) [due_386_, due_386_]))]) (e2 := [some (O.ow [(encI (fst draws_381_)), (encI (fst (snd draws_381_))), (encB (snd (snd draws_381_)))]), some (O.fz (encI many_350_)), some (O.fz ((encL (encL encI)) some_379_)), some (O.fz (encS kept_384_)), some (O.fz ((encL (encL encI)) due_386_)), none, none, none, some (O.ow2 (List.map (fun r => List.map encI r) told_390_)), some (O.ow2 (List.map (fun r => List.map encI r) named_392_)), none, none, none, none]) rfl (xo_repr rfl)) (fun b395_ => (xo_eqS rfl rfl))))) (fun q398_ => rfl))) (fun s402_ => (xv_map (t := ((reprG ((encL (encL encI)) some_379_)).bind fun b403_ => (eqS b403_ kept_384_).map fun b404_ => (b403_, b404_))) (f := fun q405_ => ((!(snd q405_)), ())) (xv_VP (xv_VV (t := (reprG ((encL (encL encI)) some_379_))) (t2 := fun b403_ => (eqS b403_ kept_384_)) (cv := fun q405_ => (P.val (encB (!(snd q405_))))) (st2 := fun q405_ => [some (O.ow [(encI (fst draws_381_)), (encI (fst (snd draws_381_))), (encB (snd (snd draws_381_)))]), some (O.fz (encI many_350_)), some (O.fz ((encL (encL encI)) some_379_)), some (O.fz (encS kept_384_)), some (O.fz ((encL (encL encI)) due_386_)), none, none, none, some (O.ow2 (List.map (fun r => List.map encI r) told_390_)), some (O.ow2 (List.map (fun r => List.map encI r) named_392_)), none, none, none, none]) (xv_PV' (a := [(P.val ((encL (encL encI)) some_379_))]) (e2 := [some (O.ow [(encI (fst draws_381_)), (encI (fst (snd draws_381_))), (encB (snd (snd draws_381_)))]), some (O.fz (encI many_350_)), some (O.fz ((encL (encL encI)) some_379_)), some (O.fz (encS kept_384_)), some (O.fz ((encL (encL encI)) due_386_)), none, none, none, some (O.ow2 (List.map (fun r => List.map encI r) told_390_)), some (O.ow2 (List.map (fun r => List.map encI r) named_392_)), none, none, none, none]) rfl (xo_repr rfl)) (fun b403_ => (xv_PV' (a := (P.val (encS kept_384_))) (e2 := [some (O.ow [(encI (fst draws_381_)), (encI (fst (snd draws_381_))), (encB (snd (snd draws_381_)))]), some (O.fz (encI many_350_)), some (O.fz ((encL (encL encI)) some_379_)), some (O.fz (encS kept_384_)), some (O.fz ((encL (encL encI)) due_386_)), none, none, none, some (O.ow2 (List.map (fun r => List.map encI r) told_390_)), some (O.ow2 (List.map (fun r => List.map encI r) named_392_)), none, none, none, none]) rfl (xo_eqS rfl rfl)))) (fun q405_ => rfl))))) ?_ ?_
  · intro b406_
    exact sv_exit (ct := (Ctl.rt (O.fz (encB false)))) (e := [some (O.ow [(encI (fst draws_381_)), (encI (fst (snd draws_381_))), (encB (snd (snd draws_381_)))]), some (O.fz (encI many_350_)), some (O.fz ((encL (encL encI)) some_379_)), some (O.fz (encS kept_384_)), some (O.fz ((encL (encL encI)) due_386_)), none, none, none, some (O.ow2 (List.map (fun r => List.map encI r) told_390_)), some (O.ow2 (List.map (fun r => List.map encI r) named_392_)), none, none, none, none]) rfl (fun h => nomatch h) ⟨.inl rfl, rfl⟩
  · intro b406_
    refine sv_nx (e := [some (O.ow [(encI (fst draws_381_)), (encI (fst (snd draws_381_))), (encB (snd (snd draws_381_)))]), some (O.fz (encI many_350_)), some (O.fz ((encL (encL encI)) some_379_)), some (O.fz (encS kept_384_)), some (O.fz ((encL (encL encI)) due_386_)), none, none, none, some (O.ow2 (List.map (fun r => List.map encI r) told_390_)), some (O.ow2 (List.map (fun r => List.map encI r) named_392_)), none, none, none, none]) rfl ?_
    exact sv_hand (fun c k e => k = Ctl.rt (O.fz (encB c)) ∧ e[0]? = some (some (O.ow [(encI (fst draws_381_)), (encI (fst (snd draws_381_))), (encB (snd (snd draws_381_)))]))) xv_tail (fun _ _ _ h => And.elim (fun h1 h2 => ⟨.inl h1, fin0 h2⟩) h)
def t_law (script_409_ : (List Int)) : Option Bool := ((catG (cutG script_409_ none (some (6 : Int))) [(0 : Int)]).bind fun b410_ => (cmpO (fun _ => some true) (fun a411_ => (t__law_draws a411_).map fun b412_ => b412_) b410_).map fun b413_ => (b410_, b413_)).bind fun q415_ => (forR (ρ := Bool) (fun (a416_ : (Int × Int × Bool)) (s427_ : Unit) => (t__law_right a416_).bind fun b430_ => if (!(fst b430_)) = true then ((some (snd b430_)).bind fun (draws_431_ : (Int × Int × Bool)) => some (Rs.rt false)) else ((some (snd b430_)).bind fun (draws_433_ : (Int × Int × Bool)) => some (Rs.nx ()))) (snd q415_) ()).bind fun r => r.on (fun r => some r) (fun (s427_ : Unit) => some true)
theorem tk_law {K : PySem.W.Frag} {ca : Nat → Addr} (script_409_ : (List Int)) : ∀ bb, t_law script_409_ = some bb → m_law K ca [(O.sc K script_409_)] = some ((fun (bb : Bool) => (O.fz (encB bb))) bb, (fun (bb : Bool) => [(O.sc K script_409_)]) bb) := by
  unfold t_law m_law
  refine def_T (ro := (fun (bb : Bool) => (O.fz (encB bb)))) (ios := (fun (bb : Bool) => [(O.sc K script_409_)])) rfl ?_
  show SV _ [some (O.sc K script_409_), none, none] _ _
  refine sv_last ?_
  refine sv_assoc ?_
  refine sv_forMRV (enr := fun (w435_ : (Int × Int × Bool)) => [(encI (fst w435_)), (encI (fst (snd w435_))), (encB (snd (snd w435_)))]) (st := fun q415_ => [some (O.sc K script_409_), none, none]) (Q := fun q415_ => fun (s427_ : Unit) e429_ => ∃ u428_, e429_ = [some (O.sc K script_409_), u428_, none]) (PR := fun _ r c e => (c = .rt ((((fun (bb : Bool) => (O.fz (encB bb)))) r)) ∨ (c = .nx ∧ (((fun (bb : Bool) => (O.fz (encB bb)))) r) = .fz .none)) ∧ mDef.finL [] [(O.sc K script_409_)] e = some (((fun (bb : Bool) => [(O.sc K script_409_)])) r)) (xv_VV (t := (catG (cutG script_409_ none (some (6 : Int))) [(0 : Int)])) (t2 := fun b410_ => (cmpO (fun _ => some true) (fun a411_ => (t__law_draws a411_).map fun b412_ => b412_) b410_)) (cv := fun q415_ => (O.ow2 (List.map (fun (w414_ : (Int × Int × Bool)) => [(encI (fst w414_)), (encI (fst (snd w414_))), (encB (snd (snd w414_)))]) (snd q415_)))) (st2 := fun q415_ => [some (O.sc K script_409_), none, none]) (xv_VP (xv_VP (xv_PV' (a := (P.val ((encL encI) (cutG script_409_ none (some (6 : Int)))))) (e2 := [some (O.sc K script_409_), none, none]) ((bnd_eq (a := (List.map encI (cutG script_409_ none (some (6 : Int))))) (e := [some (O.sc K script_409_), none, none]) (xo_slS rfl rfl rfl)).trans rfl) (xv_PV' (a := (P.val ((encL encI) [(0 : Int)]))) (e2 := [some (O.sc K script_409_), none, none]) rfl (xo_cat rfl rfl))) (fun b410_ => rfl)) (fun b410_ => rfl)) (fun b410_ => (lc_2g (en := encI) (enr := (fun (w414_ : (Int × Int × Bool)) => [(encI (fst w414_)), (encI (fst (snd w414_))), (encB (snd (snd w414_)))])) (E1 := (fun a411_ => [some (O.sc K script_409_), none, some (O.fz (encI a411_))])) rfl (fun _ => rfl) (fun a411_ => xv_map (xv_PV' (a := [(P.val (encI a411_))]) (e2 := [some (O.sc K script_409_), none, some (O.fz (encI a411_))]) rfl (xo_call (tk__law_draws a411_) rfl rfl rfl (fun _ => rfl)))) (fun _ => rfl)))) (fun q415_ => ⟨_, rfl⟩) ?_ (fun _ r c e b h hp hb => by cases hb; exact hp) ?_
  · intro q415_
    rintro a416_ s427_ _ ⟨u428_, rfl⟩
    show SV _ [some (O.sc K script_409_), some (O.ow [(encI (fst a416_)), (encI (fst (snd a416_))), (encB (snd (snd a416_)))]), none] _ _
    refine sv_last ?_
    refine sv_ifV (st := fun b430_ => [some (O.sc K script_409_), some (O.ow [(encI (fst (snd b430_))), (encI (fst (snd (snd b430_)))), (encB (snd (snd (snd b430_))))]), none]) (xv_not (xv_VP (xv_VP (xv_PV' (a := [(P.var 1)]) (e2 := [some (O.sc K script_409_), some (O.ow [(encI (fst a416_)), (encI (fst (snd a416_))), (encB (snd (snd a416_)))]), none]) rfl (xo_call (tk__law_right a416_) rfl rfl rfl (fun _ => rfl))) (fun b430_ => rfl)) (fun b430_ => rfl))) ?_ ?_
    · intro b430_
      refine sv_let (v := (snd b430_)) (E := fun (y432_ : (Int × Int × Bool)) => [some (O.sc K script_409_), some (O.ow [(encI (fst y432_)), (encI (fst (snd y432_))), (encB (snd (snd y432_)))]), none]) ?_
      intro draws_431_
      exact sv_exit (ct := (Ctl.rt (O.fz (encB false)))) (e := [some (O.sc K script_409_), some (O.ow [(encI (fst draws_431_)), (encI (fst (snd draws_431_))), (encB (snd (snd draws_431_)))]), none]) rfl (fun h => nomatch h) ⟨⟨_, rfl⟩, ⟨.inl rfl, rfl⟩⟩
    · intro b430_
      refine sv_let (v := (snd b430_)) (E := fun (y434_ : (Int × Int × Bool)) => [some (O.sc K script_409_), some (O.ow [(encI (fst y434_)), (encI (fst (snd y434_))), (encB (snd (snd y434_)))]), none]) ?_
      intro draws_433_
      refine sv_nx (e := [some (O.sc K script_409_), some (O.ow [(encI (fst draws_433_)), (encI (fst (snd draws_433_))), (encB (snd (snd draws_433_)))]), none]) rfl ?_
      exact sv_end ⟨.inl rfl, _, rfl⟩
  intro q415_
  rintro s427_ _ ⟨u428_, rfl⟩
  exact sv_exit (ct := (Ctl.rt (O.fz (encB true)))) (e := [some (O.sc K script_409_), u428_, none]) rfl (fun h => nomatch h) ⟨.inl rfl, rfl⟩
end
end My
namespace My
open PySem PySem.Spec PyProof.Rows L2 Tr
open Prod (fst snd)
variable [TC]
/-! ### asking -/
/-! ### the place of an item, from the end -/
theorem getD_get {xs : List Int} {p : Nat} (h : p < xs.length) : xs[p]? = some (xs.getD p 0) := by
  rw [List.getD_eq_getElem?_getD, List.getElem?_eq_getElem h]
  rfl
end My
namespace My
open PySem PySem.Spec PyProof.Rows L2 Tr
open Prod (fst snd)
variable [TC]
/-! ### the place of an item, by halves -/
section
variable {b : Int → Int → Bool} {x : Int} {xs : List Int} {f lo hi : Nat}
end
/-! ### item by item -/
def insAt (xs : List Int) (p : Nat) (x : Int) : List Int := xs.take p ++ [x] ++ xs.drop p
end My
namespace My
open PySem PySem.Spec PyProof.Rows L2 Tr
open Prod (fst snd)
variable [TC]
/-! ### merging -/
section
variable {b : Int → Int → Bool} {x y : Int} {xs ys : List Int}
end
end My
namespace My
open PySem PySem.Spec PyProof.Rows L2 Tr
open Prod (fst snd)
variable [TC]
/-! ### parting -/
/-! ### choosing -/
end My
namespace My
open PySem PySem.Spec PyProof.Rows L2 Tr
open Prod (fst snd)
variable [TC]
/-! ### bubbling -/
end My
namespace My
open PySem PySem.Spec PyProof.Rows L2 Tr
open Prod (fst snd)
variable [TC]
/-! ### heaping -/
section
variable {b : Int → Int → Bool} {h : List Int} {p c f : Nat}
end
end My
namespace My
open PySem PySem.Spec PyProof.Rows L2 Tr
open Prod (fst snd)
variable [TC]
end My
namespace My
open PySem PySem.Spec PyProof.Rows L2 Tr
open Prod (fst snd)
variable [TC]
/-! ### the checks, the dict of sorts -/
structure Rl (r : List (List Int)) (n : Nat) : Prop extends Sq r n where
  val : ∀ row ∈ r, ∀ a ∈ row, -1 ≤ a ∧ a ≤ 1
  skew : ∀ x y, InR n x → InR n y → ansN r x y = -ansN r y x
structure Rw (row : List Int) (n : Nat) : Prop where
  len : row.length = n
  nd : row.Nodup
  inr : ∀ y ∈ row, InR n y
theorem forN_unit {α : Type} {body : α → Unit → Option Unit} : ∀ (xs : List α), (∀ x ∈ xs, body x () = some ()) → forN body xs () = some ()
  | [], _ => rfl
  | x :: xs, h => (forN_cons (h x (List.mem_cons_self ..))).trans (forN_unit xs fun y hy => h y (List.mem_cons_of_mem _ hy))
theorem enL_mem {α : Type} {xs : List α} {p : Int × α} (h : p ∈ enL xs) : ∃ k : Nat, p.1 = (k : Int) ∧ xs[k]? = some p.2 := by
  unfold enL at h
  obtain ⟨i, hi, e⟩ := List.mem_mapIdx.mp h
  exact ⟨i, by rw [← e], by rw [← e]; exact List.getElem?_eq_getElem hi⟩
theorem all_true {α : Type} {xs : List α} : (List.all (xs.map fun _ => true) id) = true := by
  rw [List.all_eq_true]
  intro x hx
  obtain ⟨_, _, rfl⟩ := List.mem_map.mp hx
  rfl
theorem cmpO_true {α : Type} {xs : List α} {elt : α → Option Bool} (hl : xs.length ≤ 1000000) (h : ∀ x ∈ xs, elt x = some true) : cmpO (fun _ => some true) elt xs = some (xs.map fun _ => true) := by
  have go : ∀ xs : List α, (∀ x ∈ xs, elt x = some true) → cmpOGo (fun _ => some true) elt xs = some (xs.map fun _ => true) := by
    intro xs
    induction xs with
    | nil => intro _; rfl
    | cons x xs ih =>
      intro h
      unfold cmpOGo
      simp only [Option.bind_some, if_true, h x (List.mem_cons_self ..), ih fun y hy => h y (List.mem_cons_of_mem _ hy), Option.map_some]
      rfl
  unfold cmpO
  rw [if_pos (le_line hl), go xs h]
theorem is_item_ok {n : Nat} {a : Int} (h : InR n a) : t_is_item (n : Int) a = some true := by
  unfold t_is_item t_is_whole
  simp only [Option.map_some, Option.bind_some, Bool.not_false, Bool.and_true, if_true]
  rw [decide_eq_true h.1, decide_eq_true h.2]
  rfl
end My
namespace My
open PySem PySem.Spec PyProof.Rows L2 Tr
open Prod (fst snd)
variable [TC]
end My
namespace My
open PySem PySem.Spec PyProof.Rows L2 Tr
open Prod (fst snd)
variable [TC]
/-! ### the law's own sorts -/
end My
namespace My
open PySem PySem.Spec PyProof.Rows L2 Tr
open Prod (fst snd)
variable [TC]
end My
namespace My
open PySem PySem.Spec PyProof.Rows L2 Tr
open Prod (fst snd)
variable [TC]
end My
namespace My
open PySem PySem.Spec PyProof.Rows L2 Tr
open Prod (fst snd)
variable [TC]
/-! ### the draws -/
abbrev Dr : Type := Int × Int × Bool
structure DrOk (c : Int) (d : Dr) : Prop where
  b0 : 0 ≤ d.1
  k0 : 0 ≤ d.2.1
  kc : d.2.1 ≤ c
theorem DrOk.mono {c c' : Int} {d : Dr} (h : DrOk c d) (l : c ≤ c') : DrOk c' d := ⟨h.b0, h.k0, Int.le_trans h.kc l⟩
theorem fmod_in (a : Int) {m : Int} (h : 0 < m) : 0 ≤ a.fmod m ∧ a.fmod m < m := ⟨Int.fmod_nonneg_of_pos a h, Int.fmod_lt_of_pos a h⟩
theorem modI_of {i j : Int} (h : j ≠ 0) : modI i j = some (i.fmod j) := if_neg h
theorem log63 {i : Int} (h1 : -9223372036854775808 < i) (h2 : i < 9223372036854775808) : i.natAbs.log2 < 1000 := by
  by_cases e : i.natAbs = 0
  · rw [e]; decide
  · refine Nat.lt_trans ((Nat.log2_lt e (k := 63)).mpr ?_) (by decide)
    show i.natAbs < 9223372036854775808
    omega
theorem mulI_of {i j : Int} (h1 : -9223372036854775808 < i) (h2 : i < 9223372036854775808) (h3 : -9223372036854775808 < j) (h4 : j < 9223372036854775808) : mulI i j = some (i * j) := by
  have a := log63 h1 h2
  have b := log63 h3 h4
  exact if_pos (by omega)
theorem p1 : powI (10 : Int) (60 : Int) = some ((10 ^ 60 : Nat) : Int) := by decide +kernel
theorem p2 : powI ((10 ^ 60 : Nat) : Int) (60 : Int) = some ((10 ^ 3600 : Nat) : Int) := by decide +kernel
theorem p3 : powI ((10 ^ 3600 : Nat) : Int) (4 : Int) = some ((10 ^ 14400 : Nat) : Int) := by decide +kernel
theorem p4 : powI (10 : Int) (18 : Int) = some (1000000000000000000 : Int) := by decide +kernel
theorem p5 : powI (10 : Int) (6 : Int) = some (1000000 : Int) := by decide +kernel
theorem draws_of {B cell : Int} (hB : 0 < B) (h1 : powI ((10 ^ 3600 : Nat) : Int) (4 : Int) = some B) : ∃ d, t__law_draws cell = some d ∧ DrOk 0 d := by
  unfold t__law_draws
  rw [p1, Option.bind_some, p2, Option.map_some, Option.bind_some, h1, Option.map_some, Option.bind_some, modI_of (show B ≠ 0 by omega), Option.map_some, Option.bind_some, p4, Option.map_some, Option.map_some]
  exact ⟨_, rfl, ⟨(fmod_in cell hB).1, Int.le_refl _, Int.le_refl _⟩⟩
theorem draws_ok {cell : Int} : ∃ d, t__law_draws cell = some d ∧ DrOk 0 d := draws_of (B := ((10 ^ 14400 : Nat) : Int)) (by
  have : 0 < 10 ^ 14400 := Nat.pow_pos (by decide)
  exact Int.natCast_pos.mpr this) p3
theorem next_ok {c : Int} {d : Dr} (h : DrOk c d) (hc : c ≤ 100000) : ∃ v d', t__law_next d = some (v, d') ∧ 0 ≤ v ∧ DrOk (c + 1) d' := by
  obtain ⟨x, k, s⟩ := d
  have hx : 0 ≤ x := h.b0
  have hk : 0 ≤ k := h.k0
  have hk2 : k ≤ c := h.kc
  unfold t__law_next
  rw [Option.bind_some, Option.bind_some]
  cases s with
  | true =>
    rw [if_pos rfl, p5, Option.bind_some, modI_of (by decide), Option.map_some, Option.bind_some, Option.bind_some, Option.bind_some]
    have hf : fdivI x 1000000 = some (x.fdiv 1000000) := if_pos ⟨by decide, by decide⟩
    rw [hf, Option.map_some, Option.bind_some, Option.bind_some]
    exact ⟨_, _, rfl, (fmod_in x (by decide)).1, ⟨Int.fdiv_nonneg hx (by decide), by show 0 ≤ k + 1; omega, by show k + 1 ≤ c + 1; omega⟩⟩
  | false =>
    rw [if_neg Bool.false_ne_true]
    have hkk : 0 ≤ (k + 1) * (k + 1) := Int.mul_nonneg (by omega) (by omega)
    have hkl : (k + 1) * (k + 1) ≤ 100001 * 100001 := Int.mul_le_mul (by omega) (by omega) (by omega) (by omega)
    have m1 : mulI (k + 1) (k + 1) = some ((k + 1) * (k + 1)) := mulI_of (by omega) (by omega) (by omega) (by omega)
    have m2 : mulI ((k + 1) * (k + 1)) 7919 = some ((k + 1) * (k + 1) * 7919) := mulI_of (by omega) (by omega) (by omega) (by omega)
    have f1 := fmod_in x (show (0 : Int) < 1000003 by decide)
    have m3 : mulI (((Int.fmod x (1000003 : Int)) + ((k + 1) * (k + 1) * 7919)) + (k + 1)) (48271 : Int) = some ((((Int.fmod x (1000003 : Int)) + ((k + 1) * (k + 1) * 7919)) + (k + 1)) * 48271) := mulI_of (by omega) (by omega) (by omega) (by omega)
    have f2 := fmod_in ((((Int.fmod x (1000003 : Int)) + ((k + 1) * (k + 1) * 7919)) + (k + 1)) * 48271) (show (0 : Int) < 2147483629 by decide)
    simp only [Option.bind_some, m1, m2, Option.map_some, m3]
    generalize Int.fmod ((((Int.fmod x (1000003 : Int)) + ((k + 1) * (k + 1) * 7919)) + (k + 1)) * 48271) 2147483629 = u at f2 ⊢
    have m4 : mulI u u = some (u * u) := mulI_of (by omega) (by omega) (by omega) (by omega)
    have f3 := fmod_in (u * u) (show (0 : Int) < 2147483587 by decide)
    simp only [m4, Option.bind_some]
    generalize Int.fmod (u * u) 2147483587 = w at f3 ⊢
    have m5 : mulI w (w + 2) = some (w * (w + 2)) := mulI_of (by omega) (by omega) (by omega) (by omega)
    simp only [m5, Option.map_some]
    exact ⟨_, _, rfl, Int.fdiv_nonneg (fmod_in _ (by decide)).1 (by decide), ⟨hx, by show 0 ≤ k + 1; omega, by show k + 1 ≤ c + 1; omega⟩⟩
/-! ### the drawn row -/
end My
namespace My
open PySem PySem.Spec PyProof.Rows L2 Tr
open Prod (fst snd)
variable [TC]
/-! ### the drawn rule -/
theorem cmpO_map {α β : Type} {xs : List α} {elt : α → Option β} {f : α → β} (hl : xs.length ≤ 1000000) (h : ∀ x ∈ xs, elt x = some (f x)) : cmpO (fun _ => some true) elt xs = some (xs.map f) := by
  have go : ∀ xs : List α, (∀ x ∈ xs, elt x = some (f x)) → cmpOGo (fun _ => some true) elt xs = some (xs.map f) := by
    intro xs
    induction xs with
    | nil => intro _; rfl
    | cons x xs ih =>
      intro h
      unfold cmpOGo
      simp only [Option.bind_some, if_true, h x (List.mem_cons_self ..), ih fun y hy => h y (List.mem_cons_of_mem _ hy), Option.map_some]
      rfl
  unfold cmpO
  rw [if_pos (le_line hl), go xs h]
/-- a table told so far -/
structure Tb (t : List (List Int)) (n : Nat) : Prop extends Sq t n where
  val : ∀ x y, InR n x → InR n y → -1 ≤ ansN t x y ∧ ansN t x y ≤ 1
  skew : ∀ x y, InR n x → InR n y → ansN t x y = -ansN t y x
theorem set2_ok {t : List (List Int)} {n : Nat} {i k x : Int} (h : Sq t n) (hi : InR n i) (hk : InR n k) : ∃ t', set2G t i k x = some t' ∧ Sq t' n ∧ ∀ u v, InR n u → InR n v → ansN t' u v = if u = i ∧ v = k then x else ansN t u v := by
  have hlen := h.len
  have i1 : i = ((i.toNat : Nat) : Int) := (Int.toNat_of_nonneg hi.1).symm
  have k1 : k = ((k.toNat : Nat) : Int) := (Int.toNat_of_nonneg hk.1).symm
  have i2 : i.toNat < t.length := by have := hi.2; omega
  have hrow : (t[i.toNat]).length = n := h.row _ (List.getElem_mem _)
  have k2 : k.toNat < (t[i.toNat]).length := by have := hk.2; omega
  have e : set2G t i k x = some (t.set i.toNat ((t[i.toNat]).set k.toNat x)) := by
    have ii : ixN t.length i = some i.toNat := by
      conv => lhs; rw [i1]
      exact ixN_nat i2
    have kk : ixN (t[i.toNat]).length k = some k.toNat := by
      conv => lhs; rw [k1]
      exact ixN_nat k2
    unfold set2G
    rw [ii, Option.bind_some, List.getElem?_eq_getElem i2, Option.bind_some, kk]
    rfl
  refine ⟨_, e, ⟨by rw [List.length_set, hlen], fun row hr => ?_⟩, fun u v hu hv => ?_⟩
  · rcases List.mem_or_eq_of_mem_set hr with m | m
    · exact h.row _ m
    · rw [m, List.length_set, hrow]
  · have u1 : u = ((u.toNat : Nat) : Int) := (Int.toNat_of_nonneg hu.1).symm
    have v1 : v = ((v.toNat : Nat) : Int) := (Int.toNat_of_nonneg hv.1).symm
    have u2 : u.toNat < t.length := by have := hu.2; omega
    unfold ansN
    rw [List.getD_eq_getElem?_getD, List.getD_eq_getElem?_getD, List.getD_eq_getElem?_getD, List.getD_eq_getElem?_getD, List.getElem?_set]
    by_cases e1 : i.toNat = u.toNat
    · rw [if_pos e1, if_pos (by omega), Option.getD_some, List.getElem?_set]
      by_cases e2 : k.toNat = v.toNat
      · rw [if_pos e2, if_pos (by omega), Option.getD_some, if_pos ⟨by omega, by omega⟩]
      · rw [if_neg e2, if_neg (fun q => e2 (by rw [q.2])), ← e1, List.getElem?_eq_getElem i2, Option.getD_some]
    · rw [if_neg e1, if_neg (fun q => e1 (by rw [q.1]))]
end My
namespace My
open PySem PySem.Spec PyProof.Rows L2 Tr
open Prod (fst snd)
variable [TC]
theorem rep0 {n : Nat} (hn : n ≤ 14) : ∃ Z : List Int, repG [(0 : Int)] (n : Int) = some Z ∧ Z.length = n ∧ ∀ a ∈ Z, a = 0 := by
  refine ⟨_, by unfold repG; rw [if_pos ⟨by omega, by omega, by rw [Int.toNat_natCast]; exact le_line (by rw [List.length_singleton]; omega)⟩], ?_, ?_⟩
  · rw [Int.toNat_natCast]
    induction n with
    | zero => rfl
    | succ n ih => rw [List.replicate_succ, List.flatten_cons, List.length_append, ih (by omega), List.length_singleton]; omega
  · intro a ha
    rw [List.mem_flatten] at ha
    obtain ⟨l, hl, ha⟩ := ha
    rw [List.eq_of_mem_replicate hl] at ha
    exact List.mem_singleton.mp ha
theorem tb0 {n : Nat} {Z : List Int} (h1 : Z.length = n) (h2 : ∀ a ∈ Z, a = 0) : Tb ((rangeL 0 n).map fun _ => Z) n := by
  have sq : Sq ((rangeL 0 n).map fun _ => Z) n := ⟨by rw [List.length_map, rangeL_len], fun row hr => by
    obtain ⟨_, _, rfl⟩ := List.mem_map.mp hr
    exact h1⟩
  have z : ∀ x y, InR n x → InR n y → ansN ((rangeL 0 n).map fun _ => Z) x y = 0 := by
    intro x y hx hy
    unfold ansN
    have hx1 := hx.1
    have hx2 := hx.2
    have hy1 := hy.1
    have hy2 := hy.2
    have l : x.toNat < ((rangeL 0 n).map fun _ => Z).length := by rw [List.length_map, rangeL_len]; omega
    have g1 : ((rangeL 0 n).map fun _ => Z).getD x.toNat [] = Z := by
      rw [List.getD_eq_getElem?_getD, List.getElem?_eq_getElem l, Option.getD_some, List.getElem_map]
    rw [g1, List.getD_eq_getElem?_getD, List.getElem?_eq_getElem (show y.toNat < Z.length by omega), Option.getD_some]
    exact h2 _ (List.getElem_mem _)
  exact ⟨sq, fun x y hx hy => by rw [z x y hx hy]; decide, fun x y hx hy => by rw [z x y hx hy, z y x hy hx]; rfl⟩
end My
namespace My
open PySem PySem.Spec PyProof.Rows L2 Tr
open Prod (fst snd)
variable [TC]
/-! ### the texts -/
theorem textFrom_le {m : Nat} : ∀ (ts : List Str) (k : Nat) (acc : Str), (∀ t ∈ ts, t.length ≤ m) → (textFrom k acc ts).length ≤ acc.length + ts.length * (m + 2)
  | [], _, acc, _ => by show acc.length ≤ acc.length + 0 * (m + 2); omega
  | t :: r, k, acc, h => by
    have ih := textFrom_le r (k + 1) (acc ++ (if k > 0 then ", " else "" : String) ++ t) fun u hu => h u (by simp [hu])
    have e : (acc ++ (if k > 0 then ", " else "" : String) ++ t).length = acc.length + (if k > 0 then 2 else 0) + t.length := by
      rw [strLen_append, strLen_append]
      split <;> rfl
    have ht := h t (by simp)
    have hs : (if k > 0 then 2 else 0 : Nat) ≤ 2 := by split <;> omega
    rw [e] at ih
    show (textFrom (k + 1) _ r).length ≤ acc.length + (r.length + 1) * (m + 2)
    rw [Nat.add_mul]
    omega
theorem listText_le {m : Nat} {ts : List Str} (h : ∀ t ∈ ts, t.length ≤ m) : (listText ts).length ≤ 2 + ts.length * (m + 2) := by
  have := textFrom_le ts 0 "[" h
  unfold listText
  rw [strLen_append]
  have e1 : ("[" : Str).length = 1 := rfl
  have e2 : ("]" : Str).length = 1 := rfl
  omega
theorem reprDs_map : ∀ ds : List PyData, reprDs ds = ds.map reprD
  | [] => rfl
  | d :: ds => by show reprD d :: reprDs ds = _; rw [reprDs_map ds]; rfl
theorem reprOks_all : ∀ {ds : List PyData}, (∀ d ∈ ds, reprOk d = true) → reprOks ds = true
  | [], _ => rfl
  | d :: ds, h => by
    show (reprOk d && reprOks ds) = true
    rw [h d (by simp), reprOks_all fun e he => h e (by simp [he])]
    rfl
theorem deepDs_le {m : Nat} : ∀ {ds : List PyData}, (∀ d ∈ ds, deepD d ≤ m) → deepDs ds ≤ m
  | [], _ => Nat.zero_le _
  | d :: ds, h => by
    show max (deepD d) (deepDs ds) ≤ m
    exact Nat.max_le.mpr ⟨h d (by simp), deepDs_le fun e he => h e (by simp [he])⟩
theorem strOk_app {a b : Str} (ha : PyData.strOk a = true) (hb : PyData.strOk b = true) : PyData.strOk (a ++ b) = true := by
  unfold PyData.strOk at *
  show (a.cps ++ b.cps).all _ = true
  rw [Array.all_append, ha, hb]
  rfl
theorem textFrom_ok : ∀ (ts : List Str) (k : Nat) (acc : Str), PyData.strOk acc = true → (∀ t ∈ ts, PyData.strOk t = true) → PyData.strOk (textFrom k acc ts) = true
  | [], _, _, h, _ => h
  | t :: r, k, acc, h, ht => textFrom_ok r (k + 1) _ (strOk_app (strOk_app h (by split <;> decide +kernel)) (ht t (by simp))) fun u hu => ht u (by simp [hu])
theorem listText_ok {ts : List Str} (h : ∀ t ∈ ts, PyData.strOk t = true) : PyData.strOk (listText ts) = true := strOk_app (textFrom_ok ts 0 _ (by decide +kernel) h) (by decide +kernel)
def Rep (k L : Nat) (d : PyData) : Prop := reprOk d = true ∧ deepD d ≤ k ∧ (reprD d).length ≤ L ∧ PyData.strOk (reprD d) = true
theorem rep_tab : ((List.range 101).all fun k => PyData.strOk (reprD (.int ((k : Int) - 1))) && decide ((reprD (.int ((k : Int) - 1))).length ≤ 2) && reprOk (.int ((k : Int) - 1))) = true := by decide +kernel
theorem rep_int {i : Int} (h0 : -1 ≤ i) (h1 : i < 100) : Rep 0 2 (.int i) := by
  have := List.all_eq_true.mp rep_tab (i + 1).toNat (List.mem_range.mpr (by omega))
  have e : (((i + 1).toNat : Nat) : Int) - 1 = i := by omega
  rw [e] at this
  simp only [Bool.and_eq_true, decide_eq_true_eq] at this
  exact ⟨this.2, Nat.le_refl _, this.1.2, this.1.1⟩
theorem rep_list {k L : Nat} {ds : List PyData} (h : ∀ d ∈ ds, Rep k L d) : Rep (k + 1) (2 + ds.length * (L + 2)) (.list ds) := by
  refine ⟨reprOks_all fun d hd => (h d hd).1, Nat.succ_le_succ (deepDs_le fun d hd => (h d hd).2.1), ?_, ?_⟩
  · show (listText (reprDs _)).length ≤ _
    rw [reprDs_map]
    have := listText_le (m := L) (ts := ds.map reprD) fun t ht => by
      obtain ⟨d, hd, rfl⟩ := List.mem_map.mp ht
      exact (h d hd).2.2.1
    rw [List.length_map] at this
    exact this
  · show PyData.strOk (listText (reprDs _)) = true
    rw [reprDs_map]
    exact listText_ok fun t ht => by
      obtain ⟨d, hd, rfl⟩ := List.mem_map.mp ht
      exact (h d hd).2.2.2
theorem rep_G {k L : Nat} {d : PyData} (h : Rep k L d) (ht : isTup d = false) (hk : k ≤ 60) (hL : L ≤ 1000000) : reprG d = some (reprD d) := if_pos ⟨ht, h.1, Nat.le_trans h.2.1 hk, le_line (Nat.le_trans h.2.2.1 hL)⟩
theorem eqS_self {s : Str} (h : PyData.strOk s = true) : eqS s s = some true := by
  have q : SeqAt.shaped (.str s) = true := by
    unfold SeqAt.shaped PyData.canLay0 PyData.depth
    rw [h]
    rfl
  unfold eqS
  rw [if_pos ⟨q, q⟩]
  simp
end My
namespace My
open PySem PySem.Spec PyProof.Rows L2 Tr
open Prod (fst snd)
variable [TC]
/-! ### who stands ahead of whom -/
def Ah (l : List Int) (x y : Int) : Prop := List.Sublist [x, y] l
theorem Ah.mono {l l' : List Int} {x y : Int} (h : Ah l x y) (s : List.Sublist l l') : Ah l' x y := List.Sublist.trans h s
theorem ah_nil {x y : Int} : ¬Ah [] x y := fun h => nomatch h
theorem ah_cons {z : Int} {l : List Int} {x y : Int} : Ah (z :: l) x y ↔ (x = z ∧ y ∈ l) ∨ Ah l x y := by
  constructor
  · intro h
    cases h with
    | cons _ h => exact .inr h
    | cons_cons _ h => exact .inl ⟨rfl, List.singleton_sublist.mp h⟩
  · rintro (⟨rfl, h⟩ | h)
    · exact List.Sublist.cons_cons _ (List.singleton_sublist.mpr h)
    · exact List.Sublist.cons _ h
theorem Ah.cons {z : Int} {l : List Int} {x y : Int} (h : Ah l x y) : Ah (z :: l) x y := ah_cons.mpr (.inr h)
theorem ah_head {z : Int} {l : List Int} {y : Int} (h : y ∈ l) : Ah (z :: l) z y := ah_cons.mpr (.inl ⟨rfl, h⟩)
theorem Ah.mem {l : List Int} {x y : Int} (h : Ah l x y) : x ∈ l ∧ y ∈ l :=
  ⟨List.Sublist.subset h (List.mem_cons_self ..), List.Sublist.subset h (List.mem_cons_of_mem _ (List.mem_cons_self ..))⟩
theorem Ah.ne {l : List Int} {x y : Int} (nd : l.Nodup) (h : Ah l x y) : x ≠ y := by
  have := List.Sublist.nodup h nd
  rw [List.nodup_cons] at this
  exact fun e => this.1 (by rw [e]; exact List.mem_cons_self ..)
theorem Ah.asymm : ∀ {l : List Int} {x y : Int}, l.Nodup → Ah l x y → ¬Ah l y x
  | [], x, y, _, h => absurd h ah_nil
  | z :: l, x, y, nd, h => by
    rw [List.nodup_cons] at nd
    intro g
    rcases ah_cons.mp h with ⟨rfl, h1⟩ | h1
    · rcases ah_cons.mp g with ⟨rfl, g1⟩ | g1
      · exact nd.1 h1
      · exact nd.1 g1.mem.2
    · rcases ah_cons.mp g with ⟨rfl, g1⟩ | g1
      · exact nd.1 h1.mem.2
      · exact h1.asymm nd.2 g1
theorem ah_total : ∀ {l : List Int} {x y : Int}, x ∈ l → y ∈ l → x ≠ y → Ah l x y ∨ Ah l y x
  | z :: l, x, y, hx, hy, ne => by
    rcases List.mem_cons.mp hx with e | hx
    · rcases List.mem_cons.mp hy with e' | hy
      · exact absurd (e.trans e'.symm) ne
      · exact .inl (by rw [e]; exact ah_head hy)
    · rcases List.mem_cons.mp hy with e' | hy
      · exact .inr (by rw [e']; exact ah_head hx)
      · exact (ah_total hx hy ne).imp Ah.cons Ah.cons
theorem ah_app {A B : List Int} {x y : Int} (hx : x ∈ A) (hy : y ∈ B) : Ah (A ++ B) x y :=
  List.Sublist.append (List.singleton_sublist.mpr hx) (List.singleton_sublist.mpr hy)
/-- an asked pair stands as it was answered -/
def RtP (b : Int → Int → Bool) (res : List Int) (p : Int × Int) : Prop := (b p.1 p.2 = true → Ah res p.1 p.2) ∧ (b p.1 p.2 = false → Ah res p.2 p.1)
def OrP (b : Int → Int → Bool) (row : List Int) (p : Int × Int) : Prop := Ah row p.2 p.1 ∨ b p.2 p.1 = true
def Ask (l : Log) (x y : Int) : Prop := (x, y) ∈ l ∨ (y, x) ∈ l
theorem RtP.mono {b : Int → Int → Bool} {l l' : List Int} {p : Int × Int} (h : RtP b l p) (s : List.Sublist l l') : RtP b l' p := ⟨fun e => (h.1 e).mono s, fun e => (h.2 e).mono s⟩
theorem Ask.mono {l l' : Log} {x y : Int} (h : Ask l x y) (s : ∀ p ∈ l, p ∈ l') : Ask l' x y := h.imp (s _) (s _)
theorem Ask.symm {l : Log} {x y : Int} (h : Ask l x y) : Ask l y x := Or.symm h
def adj (R : Int → Int → Prop) : List Int → Prop
  | [] => True
  | x :: l => (∀ y, l.head? = some y → R x y) ∧ adj R l
theorem adj.imp {R R' : Int → Int → Prop} (s : ∀ x y, R x y → R' x y) : ∀ {l : List Int}, adj R l → adj R' l
  | [], _ => trivial
  | _ :: l, h => ⟨fun y e => s _ _ (h.1 y e), adj.imp s h.2⟩
structure Faith (b : Int → Int → Bool) (row : List Int) (S : List Int × Log) : Prop where
  perm : S.1.Perm row
  rt : ∀ p ∈ S.2, RtP b S.1 p
  ord : ∀ p ∈ S.2, OrP b row p
  nb : adj (Ask S.2) S.1
/-! ### item by item -/
structure Plc (b : Int → Int → Bool) (x : Int) (acc : List Int) (s : Nat × Log) : Prop where
  le : s.1 ≤ acc.length
  q : ∀ p ∈ s.2, p.1 = x ∧ ((b x p.2 = true ∧ ∃ i, s.1 ≤ i ∧ i < acc.length ∧ p.2 = acc.getD i 0) ∨ (b x p.2 = false ∧ ∃ i, i < s.1 ∧ p.2 = acc.getD i 0))
  lo : 0 < s.1 → (x, acc.getD (s.1 - 1) 0) ∈ s.2
  hi : s.1 < acc.length → (x, acc.getD s.1 0) ∈ s.2
theorem mem_take {xs : List Int} {i p : Nat} (h : i < p) (h2 : i < xs.length) : xs.getD i 0 ∈ xs.take p := by
  have : (xs.take p)[i]? = some (xs.getD i 0) := by rw [List.getElem?_take_of_lt h]; exact getD_get h2
  exact List.mem_of_getElem? this
theorem mem_drop {xs : List Int} {i p : Nat} (h : p ≤ i) (h2 : i < xs.length) : xs.getD i 0 ∈ xs.drop p := by
  have : (xs.drop p)[i - p]? = some (xs.getD i 0) := by rw [List.getElem?_drop, show p + (i - p) = i by omega]; exact getD_get h2
  exact List.mem_of_getElem? this
theorem insAt_ahl {xs : List Int} {p i : Nat} {x : Int} (h : i < p) (h2 : i < xs.length) : Ah (insAt xs p x) (xs.getD i 0) x :=
  (ah_app (mem_take h h2) (List.mem_singleton.mpr rfl)).mono (List.sublist_append_left ..)
theorem insAt_ahr {xs : List Int} {p i : Nat} {x : Int} (h : p ≤ i) (h2 : i < xs.length) : Ah (insAt xs p x) x (xs.getD i 0) :=
  ah_app (List.mem_append_right _ (List.mem_singleton.mpr rfl)) (mem_drop h h2)
theorem Plc.rt {b : Int → Int → Bool} {x : Int} {acc : List Int} {s : Nat × Log} (h : Plc b x acc s) : ∀ p ∈ s.2, RtP b (insAt acc s.1 x) p := fun p hp => by
  obtain ⟨e, h1⟩ := h.q p hp
  have le := h.le
  rcases h1 with ⟨t, i, i1, i2, i3⟩ | ⟨t, i, i1, i3⟩
  · refine ⟨fun _ => ?_, fun f => ?_⟩
    · rw [e, i3]; exact insAt_ahr i1 i2
    · rw [e, t] at f; cases f
  · refine ⟨fun f => ?_, fun _ => ?_⟩
    · rw [e, t] at f; cases f
    · rw [e, i3]; exact insAt_ahl i1 (by omega)
/-! ### merging -/
/-! ### parting -/
end My
namespace My
open PySem PySem.Spec PyProof.Rows L2 Tr
open Prod (fst snd)
variable [TC]
/-! ### choosing -/
section
variable {b : Int → Int → Bool}
/-! ### bubbling, pass by pass -/
end
/-! ### what is asked decides -/
def Agr (b b' : Int → Int → Bool) (l : Log) : Prop := ∀ p ∈ l, b p.1 p.2 = b' p.1 p.2
section
variable {b b' : Int → Int → Bool}
theorem Agr.l {l m : Log} (h : Agr b b' (l ++ m)) : Agr b b' l := fun p hp => h p (List.mem_append_left _ hp)
theorem Agr.r {l m : Log} (h : Agr b b' (l ++ m)) : Agr b b' m := fun p hp => h p (List.mem_append_right _ hp)
theorem Agr.hd {x y : Int} {l : Log} (h : Agr b b' ((x, y) :: l)) : b x y = b' x y := h _ (List.mem_cons_self ..)
theorem Agr.tl {q : Int × Int} {l : Log} (h : Agr b b' (q :: l)) : Agr b b' l := fun p hp => h p (List.mem_cons_of_mem _ hp)
end
end My
namespace My
open PySem PySem.Spec PyProof.Rows L2 Tr
open Prod (fst snd)
variable [TC]
/-! ### the six faithful sorts by name -/
section
variable {b : Int → Int → Bool} {row : List Int}
end
/-! ### a rule's relation -/
theorem forR_nx {α σ ρ : Type} {body : α → σ → Option (Rs ρ σ)} {a : α} {as : List α} {s s' : σ} (h : body a s = some (.nx s')) : forR body (a :: as) s = forR body as s' := by
  show (body a s).bind _ = _
  rw [h]
  rfl
theorem forR_unit {α ρ : Type} {body : α → Unit → Option (Rs ρ Unit)} : ∀ (xs : List α), (∀ x ∈ xs, body x () = some (.nx ())) → forR body xs () = some (.nx ())
  | [], _ => rfl
  | x :: xs, h => (forR_nx (h x (List.mem_cons_self ..))).trans (forR_unit xs fun y hy => h y (List.mem_cons_of_mem _ hy))
end My
namespace My
open PySem PySem.Spec PyProof.Rows L2 Tr
open Prod (fst snd)
variable [TC]
/-! ### ties decided by the input -/
structure Dc (r : List (List Int)) (n : Nat) (W : Int → Int → Prop) (t : List (List Int)) : Prop extends Tb t n where
  tie1 : ∀ u v, InR n u → InR n v → ansN r u v = 0 → W u v → ansN t u v = -1
  tie2 : ∀ u v, InR n u → InR n v → ansN r u v = 0 → W v u → ansN t u v = 1
  non : ∀ u v, InR n u → InR n v → ansN r u v ≠ 0 → ansN t u v = ansN r u v
theorem Dc.imp {r : List (List Int)} {n : Nat} {W W' : Int → Int → Prop} {t : List (List Int)} (h : Dc r n W t) (s : ∀ u v, W' u v → W u v) : Dc r n W' t :=
  ⟨h.toTb, fun u v hu hv e w => h.tie1 u v hu hv e (s _ _ w), fun u v hu hv e w => h.tie2 u v hu hv e (s _ _ w), h.non⟩
theorem Rw.perm {row row' : List Int} {n : Nat} (h : Rw row n) (p : row'.Perm row) : Rw row' n := ⟨by rw [p.length_eq, h.len], p.nodup_iff.mpr h.nd, fun y hy => h.inr y (p.mem_iff.mp hy)⟩
theorem Faith.mem {b : Int → Int → Bool} {row : List Int} {S : List Int × Log} (F : Faith b row S) {p : Int × Int} (hp : p ∈ S.2) : p.1 ∈ row ∧ p.2 ∈ row := by
  have m : p.1 ∈ S.1 ∧ p.2 ∈ S.1 := by
    cases e : b p.1 p.2 with
    | true => exact ((F.rt p hp).1 e).mem
    | false => exact ((F.rt p hp).2 e).mem.symm
  exact ⟨F.perm.mem_iff.mp m.1, F.perm.mem_iff.mp m.2⟩
theorem nd_len : ∀ (l m : List Int), l.Nodup → (∀ x ∈ l, x ∈ m) → l.length ≤ m.length
  | [], m, _, _ => Nat.zero_le _
  | a :: l, m, nd, h => by
    have n := List.nodup_cons.mp nd
    have ma := h a (List.mem_cons_self ..)
    have ih := nd_len l (m.erase a) n.2 fun x hx => (List.mem_erase_of_ne (fun e => n.1 (by rw [← e]; exact hx))).mpr (h x (List.mem_cons_of_mem _ hx))
    rw [List.length_erase_of_mem ma] at ih
    have := List.length_pos_of_mem ma
    rw [List.length_cons]
    omega
theorem Rw.all {row : List Int} {n : Nat} (h : Rw row n) {y : Int} (hy : InR n y) : y ∈ row := by
  refine Classical.byContradiction fun ne => ?_
  have := nd_len (y :: row) (rangeL 0 n) (List.nodup_cons.mpr ⟨ne, h.nd⟩) fun x hx => by
    rcases List.mem_cons.mp hx with e | hx
    · rw [e]; exact rangeL_mem.mpr ⟨hy.1, by have := hy.2; omega⟩
    · have := h.inr x hx; exact rangeL_mem.mpr ⟨this.1, by have := this.2; omega⟩
  rw [List.length_cons, rangeL_len, h.len] at this
  omega
end My
namespace My
open PySem PySem.Spec PyProof.Rows L2 Tr
open Prod (fst snd)
variable [TC]
/-! ### pairs of a ballot -/
def ahB : List Int → Int → Int → Bool
  | [], _, _ => false
  | z :: l, u, v => (decide (u = z) && decide (v ∈ l)) || ahB l u v
theorem ahB_iff : ∀ {l : List Int} {u v : Int}, ahB l u v = true ↔ Ah l u v
  | [], u, v => ⟨fun h => (nomatch h), fun h => absurd h ah_nil⟩
  | z :: l, u, v => by
    rw [ah_cons, ← ahB_iff (l := l)]
    show ((decide (u = z) && decide (v ∈ l)) || ahB l u v) = true ↔ _
    rw [Bool.or_eq_true, Bool.and_eq_true, decide_eq_true_iff, decide_eq_true_iff]
theorem ah_mid {u v : Int} {B : List Int} : ∀ {A : List Int}, (A ++ u :: B).Nodup → (Ah (A ++ u :: B) u v ↔ v ∈ B)
  | [], nd => by
    rw [List.nil_append] at nd ⊢
    have hu := (List.nodup_cons.mp nd).1
    rw [ah_cons]
    exact ⟨fun h => h.elim (fun h => h.2) (fun h => absurd h.mem.1 hu), fun h => .inl ⟨rfl, h⟩⟩
  | z :: A, nd => by
    rw [List.cons_append] at nd ⊢
    have hz := (List.nodup_cons.mp nd).1
    rw [ah_cons, ah_mid (List.nodup_cons.mp nd).2]
    exact ⟨fun h => h.elim (fun h => absurd (by rw [← h.1]; simp) hz) id, .inr⟩
theorem first_ok : ∀ {b : List Int} {u v : Int}, b.Nodup → u ∈ b → v ∈ b → u ≠ v → ∃ i j, atFirst u b = some i ∧ atFirst v b = some j ∧ (i < j ↔ Ah b u v)
  | [], u, v, _, hu, _, _ => nomatch hu
  | z :: l, u, v, nd, hu, hv, ne => by
    obtain ⟨hz, nl⟩ := List.nodup_cons.mp nd
    have at_in : ∀ {x : Int}, x ∈ l → ∃ i, atFirst x l = some i := fun {x} hx => by
      clear nd hu hv hz nl
      induction l with
      | nil => exact nomatch hx
      | cons y l ih =>
        show ∃ i, (if y = x then some 0 else (atFirst x l).map (· + 1)) = some i
        by_cases e : y = x
        · exact ⟨0, if_pos e⟩
        · obtain ⟨i, hi⟩ := ih ((List.mem_cons.mp hx).resolve_left fun h => e h.symm)
          exact ⟨i + 1, by rw [if_neg e, hi]; rfl⟩
    by_cases eu : u = z
    · subst eu
      have hv' : v ∈ l := (List.mem_cons.mp hv).resolve_left fun h => ne h.symm
      obtain ⟨j, hj⟩ := at_in hv'
      refine ⟨0, j + 1, if_pos rfl, ?_, ?_⟩
      · show (if u = v then some 0 else (atFirst v l).map (· + 1)) = _
        rw [if_neg ne, hj]
        rfl
      · exact ⟨fun _ => ah_head hv', fun _ => Nat.succ_pos _⟩
    · have hu' : u ∈ l := (List.mem_cons.mp hu).resolve_left eu
      by_cases ev : v = z
      · subst ev
        obtain ⟨i, hi⟩ := at_in hu'
        refine ⟨i + 1, 0, ?_, if_pos rfl, ?_⟩
        · show (if v = u then some 0 else (atFirst u l).map (· + 1)) = _
          rw [if_neg fun h => ne h.symm, hi]
          rfl
        · refine ⟨fun h => absurd h (Nat.not_lt_zero _), fun h => ?_⟩
          rcases ah_cons.mp h with h | h
          · exact absurd h.1 ne
          · exact absurd h.mem.2 hz
      · have hv' : v ∈ l := (List.mem_cons.mp hv).resolve_left ev
        obtain ⟨i, j, hi, hj, e⟩ := first_ok nl hu' hv' ne
        refine ⟨i + 1, j + 1, ?_, ?_, ?_⟩
        · show (if z = u then some 0 else (atFirst u l).map (· + 1)) = _
          rw [if_neg fun h => eu h.symm, hi]
          rfl
        · show (if z = v then some 0 else (atFirst v l).map (· + 1)) = _
          rw [if_neg fun h => ev h.symm, hj]
          rfl
        · rw [ah_cons, ← e]
          exact ⟨fun h => .inr (by omega), fun h => h.elim (fun h => absurd h.1 eu) fun h => by omega⟩
def cnt (ss : List (List Int)) (u v : Int) : Nat := ss.countP fun b => ahB b u v
theorem cnt_cons {b : List Int} {ss : List (List Int)} {u v : Int} : cnt (b :: ss) u v = cnt ss u v + (if ahB b u v = true then 1 else 0) := List.countP_cons
theorem cnt_sum {n : Nat} {x y : Int} (hx : InR n x) (hy : InR n y) (ne : x ≠ y) : ∀ {ss : List (List Int)}, (∀ b ∈ ss, Rw b n) → cnt ss x y + cnt ss y x = ss.length
  | [], _ => rfl
  | b :: ss, h => by
    have hb := h b (List.mem_cons_self ..)
    have ih := cnt_sum hx hy ne fun c hc => h c (List.mem_cons_of_mem _ hc)
    rw [cnt_cons, cnt_cons, List.length_cons]
    rcases ah_total (hb.all hx) (hb.all hy) ne with a | a
    · rw [if_pos (ahB_iff.mpr a), if_neg fun z => (Ah.asymm hb.nd a) (ahB_iff.mp z)]
      omega
    · rw [if_pos (ahB_iff.mpr a), if_neg fun z => (Ah.asymm hb.nd a) (ahB_iff.mp z)]
      omega
/-! ### the table of votes -/
theorem ix2_ok {r : List (List Int)} {n : Nat} {x y : Int} (h : Sq r n) (hx : InR n x) (hy : InR n y) : ix2G r x y = some (ansN r x y) := by
  have hlen := h.len
  have x1 : x = ((x.toNat : Nat) : Int) := (Int.toNat_of_nonneg hx.1).symm
  have y1 : y = ((y.toNat : Nat) : Int) := (Int.toNat_of_nonneg hy.1).symm
  have x2 : x.toNat < r.length := by have := hx.2; omega
  have hrow : (r[x.toNat]).length = n := h.row _ (List.getElem_mem _)
  have y2 : y.toNat < (r[x.toNat]).length := by have := hy.2; omega
  unfold ix2G ansN
  have e1 : atI r x = some r[x.toNat] := by
    have := atI_nat x2
    rw [← x1] at this
    exact this
  have e2 : atI r[x.toNat] y = some (r[x.toNat][y.toNat]) := by
    have := atI_nat y2
    rw [← y1] at this
    exact this
  have e3 : r.getD x.toNat [] = r[x.toNat] := by rw [List.getD_eq_getElem?_getD, List.getElem?_eq_getElem x2]; rfl
  rw [e1, Option.bind_some, e2, e3, List.getD_eq_getElem?_getD, List.getElem?_eq_getElem y2]
  rfl
abbrev bump (one : Int) : Int → List (List Int) → Option (List (List Int)) := fun a s => ((ix2G s one a).bind fun z => set2G s one a (z + 1)).bind fun w => some w
theorem inner_ok {n : Nat} {one : Int} (h1 : InR n one) : ∀ (L : List Int) (t : List (List Int)), Sq t n → L.Nodup → (∀ o ∈ L, InR n o) → ∃ t', forN (bump one) L t = some t' ∧ Sq t' n ∧ ∀ u v, InR n u → InR n v → ansN t' u v = ansN t u v + (if u = one ∧ v ∈ L then 1 else 0)
  | [], t, h, _, _ => ⟨t, rfl, h, fun u v _ _ => by rw [if_neg fun z => nomatch z.2]; omega⟩
  | o :: L, t, h, nd, hi => by
    obtain ⟨ho, nl⟩ := List.nodup_cons.mp nd
    have io := hi o (List.mem_cons_self ..)
    obtain ⟨t1, e1, s1, a1⟩ := set2_ok (x := ansN t one o + 1) h h1 io
    obtain ⟨t2, e2, s2, a2⟩ := inner_ok h1 L t1 s1 nl fun x hx => hi x (List.mem_cons_of_mem _ hx)
    refine ⟨t2, (forN_cons (s' := t1) ?_).trans e2, s2, fun u v hu hv => ?_⟩
    · show ((ix2G t one o).bind _).bind _ = _
      rw [ix2_ok h h1 io, Option.bind_some, e1, Option.bind_some]
    · rw [a2 u v hu hv, a1 u v hu hv]
      by_cases c : u = one
      · by_cases d : v = o
        · rw [if_pos ⟨c, d⟩, if_neg fun z => ho (d ▸ z.2), if_pos ⟨c, by rw [d]; exact List.mem_cons_self ..⟩, c, d]
          omega
        · rw [if_neg fun z => d z.2]
          by_cases e : v ∈ L
          · rw [if_pos ⟨c, e⟩, if_pos ⟨c, List.mem_cons_of_mem _ e⟩]
          · rw [if_neg fun z => e z.2, if_neg fun z => e ((List.mem_cons.mp z.2).resolve_left d)]
      · rw [if_neg fun z => c z.1, if_neg fun z => c z.1, if_neg fun z => c z.1]
abbrev oneB (b : List Int) : Int × Int → List (List Int) → Option (List (List Int)) := fun a s => (forN (bump (snd a)) (cutG b (some ((fst a) + (1 : Int))) none) s).bind fun w => some w
theorem ballot_votes {n : Nat} {b : List Int} (hb : Rw b n) {t : List (List Int)} (h : Sq t n) : ∃ t', forN (oneB b) (enL b) t = some t' ∧ Sq t' n ∧ ∀ u v, InR n u → InR n v → ansN t' u v = ansN t u v + (if ahB b u v = true then 1 else 0) := by
  obtain ⟨t', e, s', a'⟩ := forN_inv (body := oneB b) (fun j s => Sq s n ∧ ∀ u v, InR n u → InR n v → ansN s u v = ansN t u v + (if ahB b u v = true ∧ u ∈ b.take j then 1 else 0)) (enL b) 0 t ⟨h, fun u v _ _ => by rw [if_neg fun z => by have := z.2; rw [List.take_zero] at this; exact nomatch this]; omega⟩ (fun j p s hp hj hI => by
    rw [Nat.zero_add] at hI ⊢
    obtain ⟨hs, ha⟩ := hI
    have hj' : b[j]? = some p.2 ∧ p.1 = (j : Int) := by
      unfold enL at hj
      rw [List.getElem?_mapIdx] at hj
      cases g : b[j]? with
      | none => rw [g] at hj; exact nomatch hj
      | some x => rw [g] at hj; cases hj; exact ⟨rfl, rfl⟩
    obtain ⟨hb1, hp1⟩ := hj'
    obtain ⟨jl, je⟩ := List.getElem?_eq_some_iff.mp hb1
    have one := hb.inr _ (List.mem_of_getElem? hb1)
    have dec : b = b.take j ++ p.2 :: b.drop (j + 1) := by
      rw [← je, ← List.drop_eq_getElem_cons jl, List.take_append_drop]
    have nd := hb.nd
    have nt : p.2 ∉ b.take j := by
      intro z
      rw [dec] at nd
      exact (List.nodup_append.mp nd).2.2 _ z _ (List.mem_cons_self ..) rfl
    have cut : cutG b (some (p.1 + (1 : Int))) none = b.drop (j + 1) := by rw [hp1]; exact cut_from (k := j + 1)
    obtain ⟨t1, e1, s1, a1⟩ := inner_ok one (b.drop (j + 1)) s hs (nd.sublist (List.drop_sublist _ _)) (fun o ho => hb.inr _ (List.mem_of_mem_drop ho))
    refine ⟨t1, ?_, s1, fun u v hu hv => ?_⟩
    · show (forN (bump p.2) (cutG b (some (p.1 + (1 : Int))) none) s).bind _ = _
      rw [cut, e1]
      rfl
    · have tk : b.take (j + 1) = b.take j ++ [p.2] := by rw [List.take_succ, hb1]; rfl
      rw [a1 u v hu hv, ha u v hu hv, tk]
      by_cases c : u = p.2
      · have m : ahB b u v = true ↔ v ∈ b.drop (j + 1) := by
          rw [ahB_iff, c]
          have q := ah_mid (u := p.2) (v := v) (B := b.drop (j + 1)) (A := b.take j) (by rw [← dec]; exact hb.nd)
          rw [← dec] at q
          exact q
        rw [if_neg fun z => nt (c ▸ z.2)]
        by_cases d : v ∈ b.drop (j + 1)
        · rw [if_pos ⟨c, d⟩, if_pos ⟨m.mpr d, by rw [c]; simp⟩]
          omega
        · rw [if_neg fun z => d z.2, if_neg fun z => d (m.mp z.1)]
          omega
      · rw [if_neg (fun z => c z.1 : ¬(u = p.2 ∧ v ∈ b.drop (j + 1)))]
        by_cases d : ahB b u v = true ∧ u ∈ b.take j
        · rw [if_pos d, if_pos ⟨d.1, List.mem_append_left _ d.2⟩]
          omega
        · rw [if_neg d, if_neg fun z => d ⟨z.1, (List.mem_append.mp z.2).resolve_right fun y => c (List.mem_singleton.mp y)⟩]
          omega)
  refine ⟨t', e, s', fun u v hu hv => ?_⟩
  rw [a' u v hu hv, Nat.zero_add]
  have ln : (enL b).length = b.length := by unfold enL; exact List.length_mapIdx
  rw [ln, List.take_length]
  by_cases d : ahB b u v = true
  · rw [if_pos ⟨d, (ahB_iff.mp d).mem.1⟩, if_pos d]
  · rw [if_neg d, if_neg fun z => d z.1]
theorem votes_ok {n : Nat} : ∀ (ss t : List (List Int)), Sq t n → (∀ b ∈ ss, Rw b n) → ∃ t', forN (fun (a : List Int) (s : List (List Int)) => (forN (oneB a) (enL a) s).bind fun w => some w) ss t = some t' ∧ Sq t' n ∧ ∀ u v, InR n u → InR n v → ansN t' u v = ansN t u v + (cnt ss u v : Nat)
  | [], t, h, _ => ⟨t, rfl, h, fun u v _ _ => by show _ = _ + ((0 : Nat) : Int); omega⟩
  | b :: ss, t, h, hb => by
    obtain ⟨t1, e1, s1, a1⟩ := ballot_votes (hb b (List.mem_cons_self ..)) h
    obtain ⟨t2, e2, s2, a2⟩ := votes_ok ss t1 s1 fun c hc => hb c (List.mem_cons_of_mem _ hc)
    refine ⟨t2, (forN_cons (s' := t1) (by rw [e1]; rfl)).trans e2, s2, fun u v hu hv => ?_⟩
    rw [a2 u v hu hv, a1 u v hu hv, cnt_cons]
    by_cases d : ahB b u v = true
    · rw [if_pos d, if_pos d]; omega
    · rw [if_neg d, if_neg d]; omega
end My
namespace My
open PySem PySem.Spec PyProof.Rows L2 Tr
open Prod (fst snd)
variable [TC]
theorem cmpOGo_fm {α β : Type} {cond : α → Option Bool} {elt : α → Option β} {c : α → Bool} {g : α → β} : ∀ (xs : List α), (∀ a ∈ xs, cond a = some (c a) ∧ elt a = some (g a)) → cmpOGo cond elt xs = some ((xs.filter c).map g)
  | [], _ => rfl
  | a :: as, h => by
    have h1 := h a (List.mem_cons_self ..)
    have ih := cmpOGo_fm as fun x hx => h x (List.mem_cons_of_mem _ hx)
    unfold cmpOGo
    rw [h1.1, Option.bind_some]
    cases hc : c a with
    | true =>
      rw [if_pos rfl, h1.2, Option.bind_some, ih, List.filter_cons_of_pos hc]
      rfl
    | false => rw [if_neg Bool.false_ne_true, ih, List.filter_cons_of_neg (by rw [hc]; exact Bool.false_ne_true)]
theorem cmpO_fm {α β : Type} {cond : α → Option Bool} {elt : α → Option β} {c : α → Bool} {g : α → β} {xs : List α} (hl : xs.length ≤ 1000000) (h : ∀ a ∈ xs, cond a = some (c a) ∧ elt a = some (g a)) : cmpO cond elt xs = some ((xs.filter c).map g) := by
  unfold cmpO
  rw [if_pos (le_line hl), cmpOGo_fm xs h]

theorem setN_nodup {ns : List Int} (h : ns.Nodup) : setN ns = ns.length := by
  have go : ∀ i, i ≤ ns.length → PyProof.Rows.firstMet (fun i => ns.getD i 0) i = ns.take i := by
    intro i
    induction i with
    | zero => intro _; rw [PyProof.Rows.firstMet_zero, List.take_zero]
    | succ i ih =>
      intro hi
      have g : ns[i]? = some (ns[i]'(by omega)) := List.getElem?_eq_getElem (by omega)
      have e : ns.getD i 0 = ns[i]'(by omega) := by rw [List.getD_eq_getElem?_getD, g]; rfl
      have dec : ns = ns.take i ++ (ns[i]'(by omega)) :: ns.drop (i + 1) := by rw [← List.drop_eq_getElem_cons (by omega), List.take_append_drop]
      have nt : (ns[i]'(by omega)) ∉ ns.take i := by
        intro z
        have nd := h
        rw [dec] at nd
        exact (List.nodup_append.mp nd).2.2 _ z _ (List.mem_cons_self ..) rfl
      rw [PyProof.Rows.firstMet_succ, ih (by omega), e]
      unfold step_dedup
      have na : ¬((ns.take i).any (· == (ns[i]'(by omega))) = true) := by
        intro z
        obtain ⟨x, hx, ex⟩ := List.any_eq_true.mp z
        exact nt (by rw [← eq_of_beq ex]; exact hx)
      rw [if_neg na, List.take_succ, g]
      rfl
  unfold setN
  rw [go ns.length (Nat.le_refl _), List.take_length]
theorem rowD_ok {b : List Int} {n : Nat} (h : Rw b n) : isRowD n (encL encI b) = true ∧ (n ≤ 12 → smallL (encL encI b)) := by
  constructor
  · show (decide ((b.map encI).length = n) && ((b.map encI).all (isItem n) && decide (setN ((b.map encI).map intOf) = n))) = true
    have e : (b.map encI).map intOf = b := by
      rw [List.map_map]
      exact (List.map_congr_left (g := id) fun x _ => rfl).trans (List.map_id b)
    have a : (b.map encI).all (isItem n) = true := by
      rw [List.all_map, List.all_eq_true]
      intro x hx
      have := h.inr x hx
      show (decide (0 ≤ x) && decide (x < (n : Int))) = true
      rw [decide_eq_true this.1, decide_eq_true this.2]
      rfl
    rw [e, setN_nodup h.nd, h.len, List.length_map, h.len, a, decide_eq_true rfl]
    rfl
  · intro hn ds e
    have e2 : b.map encI = ds := PyData.list.inj e
    rw [← e2, List.length_map, h.len]
    omega
theorem is_row_ok {b : List Int} {n : Nat} (h : Rw b n) (hn : n ≤ 12) : t_is_row (n : Int) b = some true := by
  have c := cmpO_true (xs := b) (elt := fun (a10_ : Int) => (t_is_item (n : Int) a10_).map fun b11_ => b11_) (by rw [h.len]; omega) (fun x hx => by rw [is_item_ok (h.inr x hx)]; rfl)
  have s : lenSetI b = some (n : Int) := by
    unfold lenSetI
    rw [if_pos (by rw [h.len]; omega), setN_nodup h.nd, h.len]
  unfold t_is_row
  have d : decide (((List.length b : Nat) : Int) = (n : Int)) = true := decide_eq_true (by rw [h.len])
  simp only [d, c, s, all_true, Option.map_some, Option.bind_some, Bool.not_true, Bool.or_false, Bool.false_eq_true, if_false, if_true, decide_true]
theorem check_ballots_ok {ss : List (List Int)} {n : Nat} (h : ∀ b ∈ ss, Rw b n) (hn : n ≤ 12) : t_check_ballots (n : Int) ss = some () := by
  unfold t_check_ballots
  rw [if_neg (show ¬((!true) = true) from Bool.false_ne_true), forN_unit (enL ss) (fun p hp => ?_)]
  · rfl
  · obtain ⟨k, e1, e2⟩ := enL_mem hp
    rw [is_row_ok (h _ (List.mem_of_getElem? e2)) hn]
    rfl
theorem check_size_ok {n : Nat} (hn : n ≤ 12) : t_check_size (n : Int) = some () := by
  unfold t_check_size t_is_whole
  have a : decide ((n : Int) < 0) = false := decide_eq_false (by omega)
  have b : decide ((12 : Int) < (n : Int)) = false := decide_eq_false (by omega)
  simp only [a, b, Option.map_some, Option.bind_some, Bool.not_false, Bool.and_true, Bool.not_true, Bool.false_eq_true, if_false, Bool.or_false]
theorem square_ok {n : Nat} (hn : n ≤ 12) : ∃ t, t_square_of_zeros (n : Int) = some t ∧ Sq t n ∧ ∀ u v, InR n u → InR n v → ansN t u v = 0 := by
  obtain ⟨Z, z1, z2, z3⟩ := rep0 (n := n) (by omega)
  have zz := cmpO_map (xs := rangeL 0 n) (elt := fun (a35_ : Int) => (repG [(0 : Int)] (n : Int)).map fun b36_ => b36_) (f := fun _ => Z) (by rw [rangeL_len]; omega) (fun x _ => by simp only [z1, Option.map_some])
  refine ⟨(rangeL 0 n).map fun _ => Z, ?_, (tb0 z2 z3).toSq, fun u v hu hv => ?_⟩
  · unfold t_square_of_zeros
    rw [rng1_of (show n < 2 ^ 62 by omega), Option.bind_some, zz]
    rfl
  · unfold ansN
    have g : ((rangeL 0 n).map fun _ => Z).getD u.toNat [] = Z := by
      rw [List.getD_eq_getElem?_getD, List.getElem?_map, List.getElem?_eq_getElem (by rw [rangeL_len]; have := hu.1; have := hu.2; omega)]
      rfl
    rw [g, List.getD_eq_getElem?_getD, List.getElem?_eq_getElem (by rw [z2]; have := hv.1; have := hv.2; omega)]
    exact z3 _ (List.getElem_mem _)
def ansW (ss : List (List Int)) (x y : Int) : Int := if cnt ss y x < cnt ss x y then -1 else if cnt ss x y < cnt ss y x then 1 else 0
def ruleW (n : Nat) (ss : List (List Int)) : List (List Int) := (rangeL 0 n).map fun x => (rangeL 0 n).map fun y => ansW ss x y
theorem rgN_of {n : Nat} (h : n ≤ 1000) : rgN (0 : Int) (n : Int) = some (rangeL 0 n) := by
  unfold rgN
  rw [if_pos ⟨by decide, by decide, by omega, by omega⟩, show ((n : Int) - 0).toNat = n by omega]
theorem rng_inr {n : Nat} {x : Int} (h : x ∈ rangeL 0 n) : InR n x := ⟨(rangeL_mem.mp h).1, by have := (rangeL_mem.mp h).2; omega⟩
theorem rule_ok {ss : List (List Int)} {n : Nat} (h : ∀ b ∈ ss, Rw b n) (hn : n ≤ 12) : t_rule_of_ballots (n : Int) ss = some (ruleW n ss) := by
  unfold t_rule_of_ballots
  obtain ⟨t0, q1, q2, q3⟩ := square_ok hn
  obtain ⟨t, v1, v2, v3⟩ := votes_ok ss t0 q2 h
  rw [check_size_ok hn, Option.bind_some, check_ballots_ok h hn, Option.bind_some, q1, Option.bind_some]
  show ((forN (fun (a : List Int) (s : List (List Int)) => (forN (oneB a) (enL a) s).bind fun w => some w) ss t0).bind _) = _
  rw [v1, Option.bind_some, rgN_of (by omega), Option.bind_some]
  have cell : ∀ x y, InR n x → InR n y → (((ix2G t y x).bind fun b180_ => (ix2G t x y).map fun b181_ => (b180_, b181_)).bind fun q182_ => (t_answer_of_numbers (fst q182_) (snd q182_) (0 : Int)).map fun b183_ => (q182_, b183_)).map (fun q184_ => (snd q184_)) = some (ansW ss x y) := fun x y hx hy => by
    rw [ix2_ok v2 hy hx, Option.bind_some, ix2_ok v2 hx hy, Option.map_some, Option.bind_some]
    rw [v3 x y hx hy, v3 y x hy hx, q3 x y hx hy, q3 y x hy hx]
    unfold t_answer_of_numbers ansW
    show Option.map _ (Option.map _ (if decide ((0 : Int) + (cnt ss y x : Nat) + 0 < 0 + (cnt ss x y : Nat)) = true then _ else if decide ((0 : Int) + (cnt ss x y : Nat) + 0 < 0 + (cnt ss y x : Nat)) = true then _ else _)) = _
    by_cases c : cnt ss y x < cnt ss x y
    · rw [if_pos (decide_eq_true (by omega)), if_pos c]; rfl
    · rw [if_neg (by rw [decide_eq_true_iff]; omega), if_neg c]
      by_cases d : cnt ss x y < cnt ss y x
      · rw [if_pos (decide_eq_true (by omega)), if_pos d]; rfl
      · rw [if_neg (by rw [decide_eq_true_iff]; omega), if_neg d]; rfl
  have rows := cmpO_map (xs := rangeL 0 n) (elt := fun (a177_ : Int) => ((some (rangeL 0 n)).bind fun b178_ => (cmpO (fun _ => some true) (fun a179_ => (((ix2G t a179_ a177_).bind fun b180_ => (ix2G t a177_ a179_).map fun b181_ => (b180_, b181_)).bind fun q182_ => (t_answer_of_numbers (fst q182_) (snd q182_) (0 : Int)).map fun b183_ => (q182_, b183_)).map fun q184_ => (snd q184_)) b178_).map fun b185_ => (b178_, b185_)).map fun q186_ => (snd q186_)) (f := fun x => (rangeL 0 n).map fun y => ansW ss x y) (by rw [rangeL_len]; omega) (fun x hx => by
    rw [Option.bind_some, cmpO_map (xs := rangeL 0 n) (f := fun y => ansW ss x y) (by rw [rangeL_len]; omega) (fun y hy => cell x y (rng_inr hx) (rng_inr hy))]
    rfl)
  rw [rows]
  rfl
theorem lead_ok {ss : List (List Int)} {n : Nat} (h : ∀ b ∈ ss, Rw b n) (hl : ss.length ≤ 40) {x y : Int} (hx : InR n x) (hy : InR n y) (ne : x ≠ y) : t__law_lead ss x y = some (2 * ((cnt ss x y : Nat) : Int) - ((ss.length : Nat) : Int)) := by
  unfold t__law_lead
  have fm := cmpO_fm (cond := fun (a287_ : List Int) => ((atFirst x a287_).bind fun b288_ => (atFirst y a287_).map fun b289_ => (b288_, b289_)).map fun q290_ => (decide ((((fst q290_) : Nat) : Int) < (((snd q290_) : Nat) : Int)))) (elt := fun a287_ => some a287_) (c := fun b => ahB b x y) (g := id) (xs := ss) (by omega) (fun b hb => by
    refine ⟨?_, rfl⟩
    have w := h b hb
    obtain ⟨i, j, e1, e2, e⟩ := first_ok w.nd (w.all hx) (w.all hy) ne
    rw [e1, Option.bind_some, e2, Option.map_some, Option.map_some]
    refine congrArg some ?_
    show decide (((i : Nat) : Int) < ((j : Nat) : Int)) = ahB b x y
    cases g : ahB b x y with
    | true => exact decide_eq_true (by have := e.mpr (ahB_iff.mp g); omega)
    | false =>
      refine decide_eq_false fun z => ?_
      have := ahB_iff.mpr (e.mp (by omega))
      rw [g] at this
      exact Bool.false_ne_true this)
  rw [fm, List.map_id, Option.bind_some, Option.bind_some]
  have c : ((ss.filter fun b => ahB b x y).length : Nat) = cnt ss x y := List.countP_eq_length_filter.symm
  have le : cnt ss x y ≤ ss.length := List.countP_le_length
  rw [c, mulI_of (by decide) (by decide) (by omega) (by omega)]
  rfl
theorem forN_grow {body : Int → List (List Int) → Option (List (List Int))} {g : Int → List Int} : ∀ (xs : List Int) (acc : List (List Int)), (∀ x ∈ xs, ∀ s : List (List Int), s.length ≤ 1000 → body x s = some (s ++ [g x])) → acc.length + xs.length ≤ 1000 → forN body xs acc = some (acc ++ xs.map g)
  | [], acc, _, _ => by rw [List.map_nil, List.append_nil]; rfl
  | x :: xs, acc, h, hl => by
    rw [List.length_cons] at hl
    rw [forN_cons (h x (List.mem_cons_self ..) acc (by omega)), forN_grow xs _ (fun y hy => h y (List.mem_cons_of_mem _ hy)) (by rw [List.length_append, List.length_singleton]; omega), List.append_assoc]
    rfl
theorem by_ballots_ok {ss : List (List Int)} {n : Nat} (h : ∀ b ∈ ss, Rw b n) (hl : ss.length ≤ 40) (hn : n ≤ 12) : t__law_by_ballots (n : Int) ss = some (ruleW n ss) := by
  unfold t__law_by_ballots
  rw [Option.bind_some, rng1_of (show n < 2 ^ 62 by omega), Option.bind_some, forN_grow (g := fun x => (rangeL 0 n).map fun y => ansW ss x y) (rangeL 0 n) [] (fun x hx s hs => ?_) (by rw [rangeL_len]; show 0 + n ≤ 1000; omega)]
  · rfl
  have hx := rng_inr hx
  rw [Option.bind_some, cmpO_map (xs := rangeL 0 n) (f := fun y => if x = y then (0 : Int) else 2 * ((cnt ss x y : Nat) : Int) - ((ss.length : Nat) : Int)) (by rw [rangeL_len]; omega) (fun y hy => by
    by_cases c : x = y
    · rw [if_pos (decide_eq_true c), if_pos c]; rfl
    · rw [if_neg (by rw [decide_eq_true_iff]; exact c), if_neg c, lead_ok h hl hx (rng_inr hy) c]; rfl)]
  rw [Option.map_some, Option.bind_some, Option.bind_some]
  have e : cmpT (fun (a341_ : Int) => ((if (decide (a341_ < (0 : Int))) = true then (1 : Int) else 0) - (if (decide ((0 : Int) < a341_)) = true then (1 : Int) else 0))) ((rangeL 0 n).map fun y => if x = y then (0 : Int) else 2 * ((cnt ss x y : Nat) : Int) - ((ss.length : Nat) : Int)) = some ((rangeL 0 n).map fun y => ansW ss x y) := by
    unfold cmpT
    rw [if_pos (le_line (by rw [List.length_map, rangeL_len]; omega)), List.map_map]
    refine congrArg some (List.map_congr_left fun y hy => ?_)
    show ((if (decide ((if x = y then (0 : Int) else 2 * ((cnt ss x y : Nat) : Int) - ((ss.length : Nat) : Int)) < (0 : Int))) = true then (1 : Int) else 0) - (if (decide ((0 : Int) < (if x = y then (0 : Int) else 2 * ((cnt ss x y : Nat) : Int) - ((ss.length : Nat) : Int)))) = true then (1 : Int) else 0)) = ansW ss x y
    unfold ansW
    by_cases c : x = y
    · subst c
      rw [if_pos rfl, if_neg (Nat.lt_irrefl _), if_neg (Nat.lt_irrefl _)]
      rfl
    · have sm := cnt_sum hx (rng_inr hy) c h
      rw [if_neg c]
      by_cases p : cnt ss y x < cnt ss x y
      · rw [if_pos p, if_neg (by rw [decide_eq_true_iff]; omega), if_pos (decide_eq_true (by omega))]
        rfl
      · rw [if_neg p, if_neg (c := decide ((0 : Int) < 2 * ((cnt ss x y : Nat) : Int) - ((ss.length : Nat) : Int)) = true) (by rw [decide_eq_true_iff]; omega)]
        by_cases q : cnt ss x y < cnt ss y x
        · rw [if_pos q, if_pos (decide_eq_true (by omega))]
          rfl
        · rw [if_neg q, if_neg (by rw [decide_eq_true_iff]; omega)]
          rfl
  rw [e, Option.bind_some, appG_of (lt_line (by omega))]
  rfl
end My
namespace My
open PySem PySem.Spec PyProof.Rows L2 Tr
open Prod (fst snd)
variable [TC] [TabC]
theorem rng_nd {n : Nat} : (rangeL 0 n).Nodup := by
  unfold rangeL
  exact List.pairwise_map.mpr (List.nodup_range.imp fun hne e => hne (by omega))
theorem whN_bind {σ β : Type} {cond : σ → Option (Bool × σ)} {body : σ → Option σ} {F : σ → Option β} {P : β → Prop} (I : σ → Prop) (μ : σ → Nat) (R : σ → Prop)
    (h : ∀ s, I s → (∃ s', cond s = some (false, s') ∧ R s') ∨ ∃ s1 s2, cond s = some (true, s1) ∧ body s1 = some s2 ∧ I s2 ∧ μ s2 < μ s) {n : Nat} {s : σ} (hi : I s) (hn : μ s < n) (hF : ∀ o, R o → ∃ b, F o = some b ∧ P b) : ∃ b, (whN cond body n s).bind F = some b ∧ P b := by
  obtain ⟨o, k1, k2⟩ := whN_run I μ (fun _ o => R o) (fun s hs => by
    rcases h s hs with q | ⟨s1, s2, a, b, c, e⟩
    · exact .inl q
    · exact .inr ⟨s1, s2, a, b, c, e, fun _ z => z⟩) n s hi hn
  obtain ⟨b, h1, h2⟩ := hF o k2
  exact ⟨b, by rw [k1, Option.bind_some, h1], h2⟩
theorem popI_nat {α : Type} {xs : List α} {k : Nat} (h : k < xs.length) (hl : xs.length ≤ 100) : popI xs (k : Int) = some (xs[k], xs.eraseIdx k) := by
  unfold popI
  rw [if_pos ⟨by omega, by omega⟩]
  have e : seqIndex? (k : Int) xs.length = some k := by
    unfold seqIndex?
    rw [if_neg (show ¬((k : Int) < 0) by omega)]
    show (if (decide (0 ≤ (k : Int)) && decide ((k : Int) < (xs.length : Int))) = true then some (k : Int).toNat else none) = some k
    rw [decide_eq_true (show 0 ≤ (k : Int) by omega), decide_eq_true (show (k : Int) < (xs.length : Int) by omega), Int.toNat_natCast]
    rfl
  rw [e, Option.bind_some, List.getElem?_eq_getElem h]
  rfl
theorem erase_perm {α : Type} {xs : List α} {k : Nat} (h : k < xs.length) : (xs[k] :: xs.eraseIdx k).Perm xs := by
  rw [List.eraseIdx_eq_take_drop_succ]
  refine List.Perm.trans (List.perm_middle (l₁ := xs.take k) (a := xs[k])).symm ?_
  rw [← List.drop_eq_getElem_cons h, List.take_append_drop]
theorem popl_run {β : Type} {F : Dr × List Int × List Int → Option β} {P : β → Prop} {c : Int} {d : Dr} {n : Nat} (h : DrOk c d) (hc : c ≤ 80000) (hc0 : 0 ≤ c) (hn : n ≤ 14) (hF : ∀ d' T, Rw T n → DrOk (c + 20) d' → ∃ b, F (d', [], T) = some b ∧ P b) : ∃ b, (whN (fun (s3900_ : ((Int × Int × Bool) × (List Int) × (List Int))) => some ((!(decide ((fst (snd s3900_)) = []))), ((fst s3900_), (fst (snd s3900_)), (snd (snd s3900_))))) (fun (s3900_ : ((Int × Int × Bool) × (List Int) × (List Int))) => (some (fst s3900_)).bind fun (draws_3902_ : (Int × Int × Bool)) => (some (fst (snd s3900_))).bind fun (left_3904_ : (List Int)) => (some (snd (snd s3900_))).bind fun (told_3906_ : (List Int)) => ((((t__law_next draws_3902_).bind fun b3908_ => (modI (fst b3908_) ((List.length left_3904_ : Nat) : Int)).map fun b3909_ => (b3908_, b3909_)).bind fun q3910_ => (popI left_3904_ (snd q3910_)).map fun b3911_ => (q3910_, b3911_)).bind fun q3912_ => (appG told_3906_ (fst (snd q3912_))).map fun b3913_ => (q3912_, b3913_)).bind fun q3914_ => (some (snd q3914_)).bind fun (told_3915_ : (List Int)) => (some (snd (fst (fst (fst q3914_))))).bind fun (draws_3917_ : (Int × Int × Bool)) => (some (snd (snd (fst q3914_)))).bind fun (left_3919_ : (List Int)) => some (draws_3917_, left_3919_, told_3915_)) 1000 (d, rangeL 0 n, [])).bind F = some b ∧ P b := by
  have il : (rangeL 0 n).length = n := rangeL_len
  refine whN_bind (fun s => (s.2.2 ++ s.2.1).Perm (rangeL 0 n) ∧ DrOk (c + s.2.2.length) s.1) (fun s => s.2.1.length) (fun s => s.2.1 = [] ∧ s.2.2.Perm (rangeL 0 n) ∧ DrOk (c + s.2.2.length) s.1) (fun s hs => ?_) ⟨List.Perm.refl _, h.mono (by show c ≤ c + ((0 : Nat) : Int); omega)⟩ (by show (rangeL 0 n).length < 1000; omega) (fun s hs => ?_)
  · obtain ⟨d1, L, T⟩ := s
    obtain ⟨p, D⟩ := hs
    have p : (T ++ L).Perm (rangeL 0 n) := p
    have D : DrOk (c + T.length) d1 := D
    have len := p.length_eq
    rw [List.length_append, il] at len
    cases hL : L with
    | nil => exact .inl ⟨(d1, [], T), rfl, rfl, by rw [hL, List.append_nil] at p; exact p, D⟩
    | cons x xs =>
      have pos : 0 < L.length := by rw [hL]; exact Nat.succ_pos _
      obtain ⟨v, d2, e1, v0, D2⟩ := next_ok D (by omega)
      have fm := fmod_in v (show (0 : Int) < (L.length : Int) by omega)
      obtain ⟨a, ha⟩ : ∃ a : Nat, v.fmod (L.length : Int) = (a : Int) := ⟨(v.fmod (L.length : Int)).toNat, (Int.toNat_of_nonneg fm.1).symm⟩
      have al : a < L.length := by omega
      have mo : modI v (L.length : Int) = some (a : Int) := by rw [modI_of (by omega), ha]
      have pp := popI_nat al (by omega)
      have ap : appG T (L[a]) = some (T ++ [L[a]]) := appG_of (lt_line (by omega))
      refine .inr ⟨(d1, L, T), (d2, L.eraseIdx a, T ++ [L[a]]), by rw [hL]; rfl, ?_, ⟨?_, ?_⟩, ?_⟩
      · rw [Option.bind_some, Option.bind_some, Option.bind_some]
        show Option.bind (Option.bind (Option.bind (Option.bind (t__law_next d1) _) _) _) _ = _
        rw [e1, Option.bind_some]
        show Option.bind (Option.bind (Option.bind (Option.map _ (modI v (L.length : Int))) _) _) _ = _
        rw [mo, Option.map_some, Option.bind_some]
        show Option.bind (Option.bind (Option.map _ (popI L (a : Int))) _) _ = _
        rw [pp, Option.map_some, Option.bind_some]
        show Option.bind (Option.map _ (appG T (L[a]))) _ = _
        rw [ap]
        rfl
      · show ((T ++ [L[a]]) ++ L.eraseIdx a).Perm (rangeL 0 n)
        rw [List.append_assoc]
        exact ((erase_perm al).append_left T).trans p
      · show DrOk (c + ((T ++ [L[a]]).length : Nat)) d2
        rw [List.length_append, List.length_singleton]
        exact D2.mono (by omega)
      · show (L.eraseIdx a).length < (x :: xs).length
        rw [← hL, List.length_eraseIdx_of_lt al]
        omega
  · obtain ⟨d1, L, T⟩ := s
    obtain ⟨e, p, D⟩ := hs
    have e : L = [] := e
    subst e
    have p : T.Perm (rangeL 0 n) := p
    have tl : T.length = n := by rw [p.length_eq, il]
    have D : DrOk (c + T.length) d1 := D
    exact hF d1 T ⟨tl, p.nodup_iff.mpr rng_nd, fun y hy => rng_inr (p.mem_iff.mp hy)⟩ (D.mono (by omega))
theorem Rep.mono {k k' L L' : Nat} {d : PyData} (h : Rep k L d) (hk : k ≤ k') (hL : L ≤ L') : Rep k' L' d := ⟨h.1, Nat.le_trans h.2.1 hk, Nat.le_trans h.2.2.1 hL, h.2.2.2⟩
theorem rep_row {xs : List Int} (h : ∀ y ∈ xs, -1 ≤ y ∧ y < 100) (hl : xs.length ≤ 14) : Rep 1 100 (encL encI xs) := by
  have := rep_list (k := 0) (L := 2) (ds := xs.map encI) fun d hd => by
    obtain ⟨y, hy, rfl⟩ := List.mem_map.mp hd
    exact rep_int (h y hy).1 (h y hy).2
  refine Rep.mono this (Nat.le_refl _) ?_
  rw [List.length_map]
  omega
theorem rep_two {a b : PyData} (ha : Rep 2 20000 a) (hb : Rep 2 20000 b) : Rep 3 50000 (.list [a, b]) := by
  refine Rep.mono (rep_list (k := 2) (L := 20000) (ds := [a, b]) fun d hd => ?_) (Nat.le_refl _) (by show 2 + 2 * (20000 + 2) ≤ 50000; decide)
  rcases List.mem_cons.mp hd with e | e
  · rw [e]; exact ha
  · rw [List.mem_singleton.mp e]; exact hb
theorem cmpO_ex {α β : Type} {elt : α → Option β} {P : β → Prop} : ∀ (xs : List α), xs.length ≤ 1000000 → (∀ x ∈ xs, ∃ y, elt x = some y ∧ P y) → ∃ ys, cmpO (fun _ => some true) elt xs = some ys ∧ ∀ y ∈ ys, P y := by
  have go : ∀ (xs : List α), (∀ x ∈ xs, ∃ y, elt x = some y ∧ P y) → ∃ ys, cmpOGo (fun _ => some true) elt xs = some ys ∧ ∀ y ∈ ys, P y := by
    intro xs
    induction xs with
    | nil => intro _; exact ⟨[], rfl, fun y hy => nomatch hy⟩
    | cons x xs ih =>
      intro h
      obtain ⟨y, e1, p⟩ := h x (List.mem_cons_self ..)
      obtain ⟨ys, e2, q⟩ := ih fun z hz => h z (List.mem_cons_of_mem _ hz)
      refine ⟨y :: ys, ?_, fun z hz => ?_⟩
      · unfold cmpOGo
        rw [Option.bind_some, if_pos rfl, e1, Option.bind_some, e2]
        rfl
      · rcases List.mem_cons.mp hz with e | e
        · rw [e]; exact p
        · exact q z e
  intro xs hl h
  obtain ⟨ys, e, q⟩ := go xs h
  refine ⟨ys, ?_, q⟩
  unfold cmpO
  rw [if_pos (le_line hl), e]
theorem ballot_ok {c : Int} {d : Dr} {n : Nat} (h : DrOk c d) (hc : c ≤ 80000) (hc0 : 0 ≤ c) (hn : n ≤ 12) : ∃ b, t__law_ballot d (n : Int) = some b ∧ Rw b.1 n ∧ DrOk (c + 20) b.2 := by
  unfold t__law_ballot
  rw [rngV_of (show n ≤ 2 ^ 24 by omega), Option.bind_some, Option.bind_some]
  show ∃ b, Option.bind (whN _ _ 1000 (d, rangeL 0 n, [])) _ = some b ∧ _
  refine popl_run h hc hc0 (by omega) fun d' T w D => ⟨(T, d'), rfl, w, D⟩
theorem cmpG_ballots {n : Nat} (hn : n ≤ 12) : ∀ (xs : List Int) (c : Int) (d : Dr), DrOk c d → 0 ≤ c → c + 20 * xs.length ≤ 80000 → xs.length ≤ 1000 → ∃ ws d', cmpG (fun (a363_ : Int) (s365_ : Dr) => (some (true, s365_))) (fun (a363_ : Int) (s365_ : Dr) => ((t__law_ballot s365_ (n : Int)).map fun b366_ => ((fst b366_), (snd b366_)))) xs d = some (ws, d') ∧ ws.length = xs.length ∧ (∀ w ∈ ws, Rw w n) ∧ DrOk (c + 20 * xs.length) d' := by
  have go : ∀ (xs : List Int) (c : Int) (d : Dr), DrOk c d → 0 ≤ c → c + 20 * xs.length ≤ 80000 → ∃ ws d', cmpGo (fun (a363_ : Int) (s365_ : Dr) => (some (true, s365_))) (fun (a363_ : Int) (s365_ : Dr) => ((t__law_ballot s365_ (n : Int)).map fun b366_ => ((fst b366_), (snd b366_)))) xs d = some (ws, d') ∧ ws.length = xs.length ∧ (∀ w ∈ ws, Rw w n) ∧ DrOk (c + 20 * xs.length) d' := by
    intro xs
    induction xs with
    | nil => intro c d hd _ _; exact ⟨[], d, rfl, rfl, (fun w hw => nomatch hw), hd.mono (by show c ≤ c + 20 * ((0 : Nat) : Int); omega)⟩
    | cons x xs ih =>
      intro c d hd h0 hc
      rw [List.length_cons] at hc ⊢
      obtain ⟨⟨b, d1⟩, e1, w1, hd1⟩ := ballot_ok (n := n) hd (by omega) h0 hn
      have w1 : Rw b n := w1
      have hd1 : DrOk (c + 20) d1 := hd1
      obtain ⟨ws, d2, e2, l, hw, hd2⟩ := ih (c + 20) d1 hd1 (by omega) (by omega)
      refine ⟨b :: ws, d2, ?_, by rw [List.length_cons, l], fun w hm => ?_, hd2.mono (by omega)⟩
      · unfold cmpGo
        rw [Option.bind_some, if_pos rfl, e1, Option.map_some, Option.bind_some]
        show Option.map _ (cmpGo _ _ xs d1) = _
        rw [e2]
        rfl
      · rcases List.mem_cons.mp hm with e | e
        · rw [e]; exact w1
        · exact hw w e
  intro xs c d hd h0 hc hl
  obtain ⟨ws, d', e, r⟩ := go xs c d hd h0 hc
  refine ⟨ws, d', ?_, r⟩
  unfold cmpG
  rw [if_pos (le_line (by omega)), e]
theorem two30 {i : Int} (h0 : 0 ≤ i) (h1 : i < 2) : ∃ a, atI [(7 : Int), (30 : Int)] i = some a ∧ 0 < a ∧ a ≤ 30 := by
  have : i = 0 ∨ i = 1 := by omega
  rcases this with rfl | rfl
  · exact ⟨7, rfl, by decide, by decide⟩
  · exact ⟨30, rfl, by decide, by decide⟩
theorem rep_some {ss : List (List Int)} {n : Nat} (h : ∀ b ∈ ss, Rw b n) (hn : n ≤ 12) (hl : ss.length ≤ 40) : Rep 2 20000 (encL (encL encI) ss) := by
  have := rep_list (k := 1) (L := 100) (ds := ss.map (encL encI)) fun d hd => by
    obtain ⟨b, hb, rfl⟩ := List.mem_map.mp hd
    exact rep_row (fun y hy => by have := (h b hb).inr y hy; exact ⟨by have := this.1; omega, by have := this.2; omega⟩) (by rw [(h b hb).len]; omega)
  refine Rep.mono this (Nat.le_refl _) ?_
  rw [List.length_map]
  omega
theorem ansW_in (ss : List (List Int)) (x y : Int) : -1 ≤ ansW ss x y ∧ ansW ss x y < 100 := by
  unfold ansW
  split
  · decide
  · split <;> decide
theorem ruleW_len {n : Nat} {ss : List (List Int)} : (ruleW n ss).length = n := by unfold ruleW; rw [List.length_map, rangeL_len]
theorem ruleW_row {n : Nat} {ss : List (List Int)} {row : List Int} (h : row ∈ ruleW n ss) : row.length = n := by
  unfold ruleW at h
  obtain ⟨x, _, rfl⟩ := List.mem_map.mp h
  rw [List.length_map, rangeL_len]
theorem rep_W {n : Nat} {ss : List (List Int)} (hn : n ≤ 12) : Rep 2 20000 (encL (encL encI) (ruleW n ss)) := by
  have := rep_list (k := 1) (L := 100) (ds := (ruleW n ss).map (encL encI)) fun d hd => by
    obtain ⟨row, hr, rfl⟩ := List.mem_map.mp hd
    refine rep_row (fun y hy => ?_) (by rw [ruleW_row hr]; omega)
    unfold ruleW at hr
    obtain ⟨x, _, rfl⟩ := List.mem_map.mp hr
    obtain ⟨z, _, rfl⟩ := List.mem_map.mp hy
    exact ansW_in ss x z
  refine Rep.mono this (Nat.le_refl _) ?_
  rw [List.length_map, ruleW_len]
  omega
theorem law_right_ok {d : Dr} (h : DrOk 0 d) : ∃ d', t__law_right d = some (true, d') := by
  obtain ⟨v, d1, e1, v0, hd1⟩ := next_ok h (by omega)
  have f := fmod_in v (show (0 : Int) < 13 by decide)
  obtain ⟨n, hn⟩ : ∃ n : Nat, v.fmod 13 = (n : Int) := ⟨_, (Int.toNat_of_nonneg f.1).symm⟩
  rw [hn] at f
  have n12 : n ≤ 12 := by omega
  obtain ⟨v2, d2, e2, v20, hd2⟩ := next_ok hd1 (by omega)
  obtain ⟨v3, d3, e3, v30, hd3⟩ := next_ok hd2 (by omega)
  have f3 := fmod_in v3 (show (0 : Int) < 2 by decide)
  obtain ⟨a, a1, a2, a3⟩ := two30 f3.1 f3.2
  have fa := fmod_in v2 a2
  obtain ⟨m, hm⟩ : ∃ m : Nat, v2.fmod a = (m : Int) := ⟨_, (Int.toNat_of_nonneg fa.1).symm⟩
  have m30 : m < 30 := by omega
  have mo : modI v2 a = some (m : Int) := by rw [modI_of (by omega), hm]
  obtain ⟨s0, d4, e4, l4, w4, hd4⟩ := cmpG_ballots n12 (rangeL 0 m) _ d3 hd3 (by omega) (by rw [rangeL_len]; omega) (by rw [rangeL_len]; omega)
  rw [rangeL_len] at l4 hd4
  obtain ⟨v5, d5, e5, v50, hd5⟩ := next_ok hd4 (by omega)
  have f5 := fmod_in v5 (show (0 : Int) < 4 by decide)
  obtain ⟨k, hk⟩ : ∃ k : Nat, v5.fmod 4 = (k : Int) := ⟨_, (Int.toNat_of_nonneg f5.1).symm⟩
  rw [hk] at f5
  have ct : cmpT (fun (a374_ : List Int) => a374_) (cutG s0 none (some (k : Int))) = some (s0.take k) := by
    unfold cmpT
    rw [cut_to, if_pos (le_line (by rw [List.length_take]; omega)), List.map_id']
  have cc : catG s0 (s0.take k) = some (s0 ++ s0.take k) := catG_of (le_line (by rw [List.length_take]; omega))
  have sl : (s0 ++ s0.take k).length ≤ 40 := by rw [List.length_append, List.length_take]; omega
  have sw : ∀ b ∈ s0 ++ s0.take k, Rw b n := fun b hb => (List.mem_append.mp hb).elim (w4 b) fun z => w4 b (List.mem_of_mem_take z)
  refine ⟨d5, ?_⟩
  unfold t__law_right
  rw [e1, Option.bind_some]
  show (some (Int.fmod v (13 : Int))).bind _ = _
  rw [hn, Option.bind_some, Option.bind_some, e2, Option.bind_some]
  show Option.bind (Option.bind (Option.bind (Option.map _ (Option.bind (Option.bind (t__law_next d2) _) _)) _) _) _ = _
  rw [e3, Option.bind_some]
  show Option.bind (Option.bind (Option.bind (Option.map _ (Option.bind (Option.map _ (atI [(7 : Int), (30 : Int)] (Int.fmod v3 (2 : Int)))) _)) _) _) _ = _
  rw [a1, Option.map_some, Option.bind_some]
  show Option.bind (Option.bind (Option.bind (Option.map _ (Option.map _ (modI v2 a))) _) _) _ = _
  rw [mo, Option.map_some, Option.map_some, Option.bind_some]
  show Option.bind (Option.bind (Option.map _ (rng1 (m : Int))) _) _ = _
  rw [rng1_of (show m < 2 ^ 62 by omega), Option.map_some, Option.bind_some]
  show Option.bind (Option.map _ (cmpG _ _ (rangeL 0 m) d3)) _ = _
  rw [e4, Option.map_some, Option.bind_some]
  show Option.bind (some s0) _ = _
  rw [Option.bind_some]
  show Option.bind (some d4) _ = _
  rw [Option.bind_some, e5, Option.bind_some]
  show Option.bind (Option.bind (Option.map _ (cmpT (fun (a374_ : List Int) => a374_) (cutG s0 none (some (v5.fmod 4))))) _) _ = _
  rw [hk, ct, Option.map_some, Option.bind_some]
  show Option.bind (Option.map _ (catG s0 (s0.take k))) _ = _
  rw [cc, Option.map_some, Option.bind_some]
  show Option.bind (some (s0 ++ s0.take k)) _ = _
  rw [Option.bind_some]
  show Option.bind (some d5) _ = _
  rw [Option.bind_some]
  generalize s0 ++ s0.take k = ss at sl sw ⊢
  have R1 := rep_some sw n12 sl
  have R2 := rep_two (rep_W (ss := ss) n12) (rep_W (ss := ss) n12)
  have G1 := rep_G R1 rfl (by decide) (by decide)
  have G2 := rep_G R2 rfl (by decide) (by decide)
  have Q1 := eqS_self R1.2.2.2
  have Q2 := eqS_self R2.2.2.2
  have ro := rule_ok sw n12
  rw [G1, Option.bind_some, by_ballots_ok sw sl n12, Option.bind_some, ro, Option.bind_some, Option.map_some, Option.bind_some]
  show Option.bind (some (ruleW n ss)) _ = _
  rw [Option.bind_some]
  show Option.bind (some (ruleW n ss)) _ = _
  rw [Option.bind_some]
  rw [G2, Option.bind_some]
  show Option.bind (Option.bind (Option.map _ (Option.map _ (Option.bind (reprG (.list [encL (encL encI) (ruleW n ss), encL (encL encI) (ruleW n ss)])) _))) _) _ = _
  rw [G2, Option.bind_some, Q2, Option.map_some, Option.map_some, Option.map_some, Option.bind_some]
  rw [if_neg (show ¬((!true) = true) from Bool.false_ne_true)]
  show Option.bind (Option.map _ (Option.bind (some (reprD (encL (encL encI) ss))) _)) _ = _
  rw [Option.bind_some, Q1, Option.map_some, Option.map_some, Option.bind_some]
  rw [if_neg (show ¬((!true) = true) from Bool.false_ne_true)]
  have T : TailOk n ss (ruleW n ss) (ruleW n ss) (ruleW n ss) := ⟨n12, rfl, by rw [ruleW_len]; omega, ruleW_len, fun row hr => by rw [ruleW_row hr]; exact n12, tk_rule_of_ballots (n : Int) ss _ ro, sl, fun b hb => ⟨(rowD_ok (sw b hb)).1, (rowD_ok (sw b hb)).2 n12⟩⟩
  rw [tail_of T]
  rfl
theorem t_law_ok (ns : List Int) (hl : ns.length ≤ 63) : t_law ns = some true := by
  unfold t_law
  have c1 : cutG ns none (some (6 : Int)) = ns.take 6 := cut_to (k := 6)
  have c2 : catG (ns.take 6) [(0 : Int)] = some (ns.take 6 ++ [0]) := catG_of (le_line (by rw [List.length_take, List.length_singleton]; omega))
  obtain ⟨ds, g1, g2⟩ := cmpO_ex (elt := fun (a411_ : Int) => (t__law_draws a411_).map fun b412_ => b412_) (P := DrOk 0) (ns.take 6 ++ [0]) (by rw [List.length_append, List.length_take, List.length_singleton]; omega) (fun cell _ => by
    obtain ⟨d, e, hd⟩ := draws_ok (cell := cell)
    exact ⟨d, by rw [e]; rfl, hd⟩)
  rw [c1, c2, Option.bind_some, g1, Option.map_some, Option.bind_some]
  show Option.bind (forR _ ds ()) _ = _
  rw [forR_unit ds (fun d hd => ?_)]
  · rfl
  · obtain ⟨d', e⟩ := law_right_ok (g2 d hd)
    rw [e, Option.bind_some]
    rfl
theorem law_true (K : PySem.W.Frag) (z : Nat → Addr) (ns : List Int) (h : ns.length ≤ 63) : ∃ os, m_law K z [.sc K ns] = some (.fz (.bool true), os) := ⟨_, tk_law ns true (t_law_ok ns h)⟩
end My
namespace My
open PySem PySem.Spec PyProof.Rows L2 Tr
/-! what the top has written; the law's own head -/
theorem all_mk {l : PySem.W.OpenLaw} {w : World} {K : PySem.W.Frag} {h : Heap} {mg : Str → Option Value} {fa : Addr} (X : K.In h) (G : h.Ns mainGlobals mg) (hfa : mg "law" = some (.ref fa))
    {f0 f1 f2 f3 f4 f5 f6 f7 f8 f9 f10 f11 f12 f13 f14 f15 : Addr} {od0 an0 od1 an1 od2 an2 od3 an3 od4 an4 od5 an5 od6 an6 od7 an7 od8 an8 od9 an9 od10 an10 od11 an11 od12 an12 od13 an13 od14 an14 od15 an15 : Option Addr} {sl0 sl1 sl2 sl3 sl4 sl5 sl6 sl7 sl8 sl9 sl10 sl11 sl12 sl13 sl14 sl15 : Array (Option Value)}
    {oc0 kV0 dc0 pm0 cd0 ct0 oc1 kV1 dc1 pm1 cd1 ct1 oc2 kV2 dc2 pm2 cd2 ct2 oc3 kV3 dc3 pm3 cd3 ct3 oc4 kV4 dc4 pm4 cd4 ct4 oc5 kV5 dc5 pm5 cd5 ct5 oc6 kV6 dc6 pm6 cd6 ct6 oc7 kV7 dc7 pm7 cd7 ct7 oc8 kV8 dc8 pm8 cd8 ct8 oc9 kV9 dc9 pm9 cd9 ct9 oc10 kV10 dc10 pm10 cd10 ct10 oc11 kV11 dc11 pm11 cd11 ct11 oc12 kV12 dc12 pm12 cd12 ct12 oc13 kV13 dc13 pm13 cd13 ct13 oc14 kV14 dc14 pm14 ct14 oc15 kV15 dc15 pm15 cd15 ct15 : Value}
    {LC14 LP14 : Addr} {lx14 : Value} {ly14 : Option Addr} {lz14 : Array Value} {lw14 : Array (Option Value)}
    {tc_MOST_ITEMS : Tok}
    {C0 I0 NN0 : Addr} {nm0 q0 : Str} {bs0 sub0 : List Value} {sn0 : List Str} {ab0 : Bool} {col0 : Option Bool} {dd0 iod0 ian0 : Option Addr} {m0_0 m1_0 m2_0 m3_0 m5_0 : Option Value} {isl0 : Array (Option Value)} {ioc0 ikV0 idc0 ipm0 icd0 ict0 : Value}
    (aC0 : PySem.W.nsIn K mainGlobals "InvalidSize" = some (some (.ref C0)))
    (xL0 : K.lookup C0 = some (excClassObj nm0 q0 C0 NN0 bs0 [.type "ValueError", .type "Exception", .type "BaseException", .type "object"] true sn0 sub0 ab0 col0 dd0 m0_0 m1_0 m2_0 m3_0 m5_0 "ValueError.__new__"))
    (sa0 : PySem.W.findIn K (.ref C0) "__setattr__" = some (some (.builtin "object.__setattr__"))) (ga0 : PySem.W.findIn K (.ref C0) "__getattribute__" = some (some (.builtin "BaseException.__getattribute__"))) (gg0 : PySem.W.findIn K (.ref C0) "__getattr__" = some none) (nb0 : PySem.W.findIn K (.ref C0) "size" = some none)
    (iC0 : PySem.W.findIn K (.ref C0) "__init__" = some (some (.ref I0))) (it0 : PySem.W.typeIn K (.ref I0) = some (.type "function"))
    (il0 : K.lookup I0 = some ⟨ioc0, iod0, .func (PySem.W.fnOf "__init__" "InvalidSize.__init__" (defArgs s_I_InvalidSize) (defBody s_I_InvalidSize) (defScope s_I_InvalidSize) .none ikV0 idc0 ipm0 ian0 icd0 ict0), isl0⟩) (ic0 : PySem.W.codeIn K icd0 "InvalidSize.__init__" = true) (ik0 : PySem.W.keepIn K (.ref I0) = true)
    (kC0 : PySem.W.keepIn K (.ref C0) = true) (eC0 : PySem.W.subIn K (.ref C0) (.type "BaseException") = some true) (tC0 : PySem.W.typeIn K (.ref C0) = some (.type "type")) (hC0 : PySem.W.hasDictIn K C0 = true) (jC0 : PySem.W.isClsIn K C0 = true) (sC0 : PySem.W.subIn K (.ref C0) (.ref C0) = some true)
    (ca0 : PySem.W.findIn K (.ref C0) "__class__" = some (some (.builtin "object.__class__"))) (cm0 : PySem.W.mroIn K C0 (.type "object") = some true) (kt0 : PySem.W.subIn K (.ref C0) (.type "ValueError") = some true)
    {C1 I1 NN1 : Addr} {nm1 q1 : Str} {bs1 sub1 : List Value} {sn1 : List Str} {ab1 : Bool} {col1 : Option Bool} {dd1 iod1 ian1 : Option Addr} {m0_1 m1_1 m2_1 m3_1 m5_1 : Option Value} {isl1 : Array (Option Value)} {ioc1 ikV1 idc1 ipm1 icd1 ict1 : Value}
    (aC1 : PySem.W.nsIn K mainGlobals "InvalidBallots" = some (some (.ref C1)))
    (xL1 : K.lookup C1 = some (excClassObj nm1 q1 C1 NN1 bs1 [.type "ValueError", .type "Exception", .type "BaseException", .type "object"] true sn1 sub1 ab1 col1 dd1 m0_1 m1_1 m2_1 m3_1 m5_1 "ValueError.__new__"))
    (sa1 : PySem.W.findIn K (.ref C1) "__setattr__" = some (some (.builtin "object.__setattr__"))) (ga1 : PySem.W.findIn K (.ref C1) "__getattribute__" = some (some (.builtin "BaseException.__getattribute__"))) (gg1 : PySem.W.findIn K (.ref C1) "__getattr__" = some none) (nb1 : PySem.W.findIn K (.ref C1) "index" = some none)
    (iC1 : PySem.W.findIn K (.ref C1) "__init__" = some (some (.ref I1))) (it1 : PySem.W.typeIn K (.ref I1) = some (.type "function"))
    (il1 : K.lookup I1 = some ⟨ioc1, iod1, .func (PySem.W.fnOf "__init__" "InvalidBallots.__init__" (defArgs s_I_InvalidBallots) (defBody s_I_InvalidBallots) (defScope s_I_InvalidBallots) .none ikV1 idc1 ipm1 ian1 icd1 ict1), isl1⟩) (ic1 : PySem.W.codeIn K icd1 "InvalidBallots.__init__" = true) (ik1 : PySem.W.keepIn K (.ref I1) = true)
    (kC1 : PySem.W.keepIn K (.ref C1) = true) (eC1 : PySem.W.subIn K (.ref C1) (.type "BaseException") = some true) (tC1 : PySem.W.typeIn K (.ref C1) = some (.type "type")) (hC1 : PySem.W.hasDictIn K C1 = true) (jC1 : PySem.W.isClsIn K C1 = true) (sC1 : PySem.W.subIn K (.ref C1) (.ref C1) = some true)
    (ca1 : PySem.W.findIn K (.ref C1) "__class__" = some (some (.builtin "object.__class__"))) (cm1 : PySem.W.mroIn K C1 (.type "object") = some true) (kt1 : PySem.W.subIn K (.ref C1) (.type "ValueError") = some true)
    (vV : PySem.W.findCls K (.type "ValueError") (.type "type") "__init__" = some (.val (.builtin "ValueError.__init__")))
    (cn : PySem.W.specialIn K (.builtin "object.__class__") "__get__" = some (some (.builtin "getset_descriptor.__get__"))) (ct : PySem.W.takesIn K (.builtin "object.__class__") = some true)
    (su_InvalidBallots_InvalidSize_1 : PySem.W.subIn K (.ref C1) (.ref C0) = some false) (su_InvalidBallots_InvalidSize_2 : PySem.W.subIn K (.ref C0) (.ref C1) = some false)
    (a0 : PySem.W.nsIn K mainGlobals "is_whole" = some (some (.ref f0)))
    (l0 : K.lookup f0 = some ⟨oc0, od0, .func (PySem.W.fnOf "is_whole" "is_whole" (defArgs s_is_whole) (defBody s_is_whole) (defScope s_is_whole) .none kV0 dc0 pm0 an0 cd0 ct0), sl0⟩)
    (c0 : PySem.W.codeIn K cd0 "is_whole" = true) (k0 : PySem.W.keepIn K (.ref f0) = true)
    (a1 : PySem.W.nsIn K mainGlobals "is_item" = some (some (.ref f1)))
    (l1 : K.lookup f1 = some ⟨oc1, od1, .func (PySem.W.fnOf "is_item" "is_item" (defArgs s_is_item) (defBody s_is_item) (defScope s_is_item) .none kV1 dc1 pm1 an1 cd1 ct1), sl1⟩)
    (c1 : PySem.W.codeIn K cd1 "is_item" = true) (k1 : PySem.W.keepIn K (.ref f1) = true)
    (a2 : PySem.W.nsIn K mainGlobals "is_row" = some (some (.ref f2)))
    (l2 : K.lookup f2 = some ⟨oc2, od2, .func (PySem.W.fnOf "is_row" "is_row" (defArgs s_is_row) (defBody s_is_row) (defScope s_is_row) .none kV2 dc2 pm2 an2 cd2 ct2), sl2⟩)
    (c2 : PySem.W.codeIn K cd2 "is_row" = true) (k2 : PySem.W.keepIn K (.ref f2) = true)
    (a3 : PySem.W.nsIn K mainGlobals "check_size" = some (some (.ref f3)))
    (l3 : K.lookup f3 = some ⟨oc3, od3, .func (PySem.W.fnOf "check_size" "check_size" (defArgs s_check_size) (defBody s_check_size) (defScope s_check_size) .none kV3 dc3 pm3 an3 cd3 ct3), sl3⟩)
    (c3 : PySem.W.codeIn K cd3 "check_size" = true) (k3 : PySem.W.keepIn K (.ref f3) = true)
    (a4 : PySem.W.nsIn K mainGlobals "check_ballots" = some (some (.ref f4)))
    (l4 : K.lookup f4 = some ⟨oc4, od4, .func (PySem.W.fnOf "check_ballots" "check_ballots" (defArgs s_check_ballots) (defBody s_check_ballots) (defScope s_check_ballots) .none kV4 dc4 pm4 an4 cd4 ct4), sl4⟩)
    (c4 : PySem.W.codeIn K cd4 "check_ballots" = true) (k4 : PySem.W.keepIn K (.ref f4) = true)
    (a5 : PySem.W.nsIn K mainGlobals "square_of_zeros" = some (some (.ref f5)))
    (l5 : K.lookup f5 = some ⟨oc5, od5, .func (PySem.W.fnOf "square_of_zeros" "square_of_zeros" (defArgs s_square_of_zeros) (defBody s_square_of_zeros) (defScope s_square_of_zeros) .none kV5 dc5 pm5 an5 cd5 ct5), sl5⟩)
    (c5 : PySem.W.codeIn K cd5 "square_of_zeros" = true) (k5 : PySem.W.keepIn K (.ref f5) = true)
    (a6 : PySem.W.nsIn K mainGlobals "answer_of_numbers" = some (some (.ref f6)))
    (l6 : K.lookup f6 = some ⟨oc6, od6, .func (PySem.W.fnOf "answer_of_numbers" "answer_of_numbers" (defArgs s_answer_of_numbers) (defBody s_answer_of_numbers) (defScope s_answer_of_numbers) .none kV6 dc6 pm6 an6 cd6 ct6), sl6⟩)
    (c6 : PySem.W.codeIn K cd6 "answer_of_numbers" = true) (k6 : PySem.W.keepIn K (.ref f6) = true)
    (a7 : PySem.W.nsIn K mainGlobals "rule_of_ballots" = some (some (.ref f7)))
    (l7 : K.lookup f7 = some ⟨oc7, od7, .func (PySem.W.fnOf "rule_of_ballots" "rule_of_ballots" (defArgs s_rule_of_ballots) (defBody s_rule_of_ballots) (defScope s_rule_of_ballots) .none kV7 dc7 pm7 an7 cd7 ct7), sl7⟩)
    (c7 : PySem.W.codeIn K cd7 "rule_of_ballots" = true) (k7 : PySem.W.keepIn K (.ref f7) = true)
    (a8 : PySem.W.nsIn K mainGlobals "_law_draws" = some (some (.ref f8)))
    (l8 : K.lookup f8 = some ⟨oc8, od8, .func (PySem.W.fnOf "_law_draws" "_law_draws" (defArgs s__law_draws) (defBody s__law_draws) (defScope s__law_draws) .none kV8 dc8 pm8 an8 cd8 ct8), sl8⟩)
    (c8 : PySem.W.codeIn K cd8 "_law_draws" = true) (k8 : PySem.W.keepIn K (.ref f8) = true)
    (a9 : PySem.W.nsIn K mainGlobals "_law_next" = some (some (.ref f9)))
    (l9 : K.lookup f9 = some ⟨oc9, od9, .func (PySem.W.fnOf "_law_next" "_law_next" (defArgs s__law_next) (defBody s__law_next) (defScope s__law_next) .none kV9 dc9 pm9 an9 cd9 ct9), sl9⟩)
    (c9 : PySem.W.codeIn K cd9 "_law_next" = true) (k9 : PySem.W.keepIn K (.ref f9) = true)
    (a10 : PySem.W.nsIn K mainGlobals "_law_ballot" = some (some (.ref f10)))
    (l10 : K.lookup f10 = some ⟨oc10, od10, .func (PySem.W.fnOf "_law_ballot" "_law_ballot" (defArgs s__law_ballot) (defBody s__law_ballot) (defScope s__law_ballot) .none kV10 dc10 pm10 an10 cd10 ct10), sl10⟩)
    (c10 : PySem.W.codeIn K cd10 "_law_ballot" = true) (k10 : PySem.W.keepIn K (.ref f10) = true)
    (a11 : PySem.W.nsIn K mainGlobals "_law_lead" = some (some (.ref f11)))
    (l11 : K.lookup f11 = some ⟨oc11, od11, .func (PySem.W.fnOf "_law_lead" "_law_lead" (defArgs s__law_lead) (defBody s__law_lead) (defScope s__law_lead) .none kV11 dc11 pm11 an11 cd11 ct11), sl11⟩)
    (c11 : PySem.W.codeIn K cd11 "_law_lead" = true) (k11 : PySem.W.keepIn K (.ref f11) = true)
    (a12 : PySem.W.nsIn K mainGlobals "_law_by_ballots" = some (some (.ref f12)))
    (l12 : K.lookup f12 = some ⟨oc12, od12, .func (PySem.W.fnOf "_law_by_ballots" "_law_by_ballots" (defArgs s__law_by_ballots) (defBody s__law_by_ballots) (defScope s__law_by_ballots) .none kV12 dc12 pm12 an12 cd12 ct12), sl12⟩)
    (c12 : PySem.W.codeIn K cd12 "_law_by_ballots" = true) (k12 : PySem.W.keepIn K (.ref f12) = true)
    (a13 : PySem.W.nsIn K mainGlobals "_law_kept" = some (some (.ref f13)))
    (l13 : K.lookup f13 = some ⟨oc13, od13, .func (PySem.W.fnOf "_law_kept" "_law_kept" (defArgs s__law_kept) (defBody s__law_kept) (defScope s__law_kept) .none kV13 dc13 pm13 an13 cd13 ct13), sl13⟩)
    (c13 : PySem.W.codeIn K cd13 "_law_kept" = true) (k13 : PySem.W.keepIn K (.ref f13) = true)
    (a14 : PySem.W.nsIn K mainGlobals "_law_right" = some (some (.ref f14)))
    (l14 : K.lookup f14 = some ⟨oc14, od14, .func (PySem.W.fnOf "_law_right" "_law_right" (defArgs s__law_right) (defBody s__law_right) (defScope s__law_right) .none kV14 dc14 pm14 an14 (.ref LC14) ct14), sl14⟩)
    (c14 : PySem.W.codeIn K (.ref LC14) "_law_right" = true) (k14 : PySem.W.keepIn K (.ref f14) = true)
    (lr14 : K.lookup LC14 = some ⟨lx14, ly14, .fields lz14, lw14⟩) (lt14 : lz14[11]? = some (.ref LP14)) (ln14 : K.lookup LP14 = none)
    (a15 : PySem.W.nsIn K mainGlobals "law" = some (some (.ref f15)))
    (l15 : K.lookup f15 = some ⟨oc15, od15, .func (PySem.W.fnOf "law" "law" (defArgs s_law) (defBody s_law) (defScope s_law) .none kV15 dc15 pm15 an15 cd15 ct15), sl15⟩)
    (c15 : PySem.W.codeIn K cd15 "law" = true) (k15 : PySem.W.keepIn K (.ref f15) = true)
    (tabs : ∀ (y : Str) (c t : Addr), ((PyProof.Rows.recsOf PySem.Challenge.pw_knotsorts_k02_rules_from_ballots).find? fun e => e.name == y).isSome = true → PySem.W.tabIn K y = some (c, t) → PySem.W.CodeHd h c t ∧ h.get? t = some (PySem.W.tabObj #[]))
    (lq14 : ((PyProof.Rows.recsOf PySem.Challenge.pw_knotsorts_k02_rules_from_ballots).find? fun e => e.name == ("_law_right" : Str)).isSome = true)
    (z0 : PySem.W.nsIn K mainGlobals "ValueError" = some none)
    (z1 : PySem.W.nsIn K mainGlobals "all" = some none)
    (z2 : PySem.W.nsIn K mainGlobals "bool" = some none)
    (z3 : PySem.W.nsIn K mainGlobals "enumerate" = some none)
    (z4 : PySem.W.nsIn K mainGlobals "int" = some none)
    (z5 : PySem.W.nsIn K mainGlobals "isinstance" = some none)
    (z6 : PySem.W.nsIn K mainGlobals "len" = some none)
    (z7 : PySem.W.nsIn K mainGlobals "list" = some none)
    (z8 : PySem.W.nsIn K mainGlobals "range" = some none)
    (z9 : PySem.W.nsIn K mainGlobals "repr" = some none)
    (z10 : PySem.W.nsIn K mainGlobals "set" = some none)
    (z11 : PySem.W.nsIn K mainGlobals "str" = some none)
    (z12 : PySem.W.nsIn K mainGlobals "tuple" = some none)
    (mc_MOST_ITEMS : PySem.W.nsIn K mainGlobals "MOST_ITEMS" = some (some (.int 12 tc_MOST_ITEMS)))
    : ∃ (z : Nat → Addr) (fd : FuncData) (cs : List (Addr × Addr)) (tc : TC), (∀ p ∈ cs, h.get? p.2 = some (PySem.W.tabObj #[])) ∧ (∀ p ∈ cs, K.lookup p.2 = none) ∧ (∀ p ∈ cs, PySem.W.CodeHd h p.1 p.2) ∧ (∀ p ∈ tc.T, p.1 ∈ cs.map (·.2)) ∧ (∀ (s : Shared) (v : Value), BindsTo s fd ⟨[v], []⟩ [("script", v)]) ∧ ∀ base : Heap, K.In base → base.Ns mainGlobals mg → (∀ p ∈ cs, LamX.TabB base mg p.1 p.2) → FnG l.prog w K mg base 11 fa fd ["script"] (@spOf tc [] (m_law K z)) := by
  letI : TC := ⟨[(LP14, (("_law_right" : Str) ++ ".<locals>." ++ "<lambda>"))]⟩
  letI : TabC := ⟨[(LC14, LP14)]⟩
  have e := hfa.symm.trans (PySem.W.mg_of X G a15)
  cases e
  have F0 := fun_mk (st := s_is_whole) l0 c0 k0
  have F1 := fun_mk (st := s_is_item) l1 c1 k1
  have F2 := fun_mk (st := s_is_row) l2 c2 k2
  have F3 := fun_mk (st := s_check_size) l3 c3 k3
  have F4 := fun_mk (st := s_check_ballots) l4 c4 k4
  have F5 := fun_mk (st := s_square_of_zeros) l5 c5 k5
  have F6 := fun_mk (st := s_answer_of_numbers) l6 c6 k6
  have F7 := fun_mk (st := s_rule_of_ballots) l7 c7 k7
  have F8 := fun_mk (st := s__law_draws) l8 c8 k8
  have F9 := fun_mk (st := s__law_next) l9 c9 k9
  have F10 := fun_mk (st := s__law_ballot) l10 c10 k10
  have F11 := fun_mk (st := s__law_lead) l11 c11 k11
  have F12 := fun_mk (st := s__law_by_ballots) l12 c12 k12
  have F13 := fun_mk (st := s__law_kept) l13 c13 k13
  have F14 := fun_mk (st := s__law_right) l14 c14 k14
  have F15 := fun_mk (st := s_law) l15 c15 k15
  have IF0 := fun_mk (st := s_I_InvalidSize) il0 ic0 ik0
  have IF1 := fun_mk (st := s_I_InvalidBallots) il1 ic1 ik1
  have T : Tx K mg (fun i => match i with | 0 => f0 | 1 => f1 | 2 => f2 | 3 => f3 | 4 => f4 | 5 => f5 | 6 => f6 | 7 => f7 | 8 => f8 | 9 => f9 | 10 => f10 | 11 => f11 | 12 => f12 | 13 => f13 | 14 => f14 | _ => fa) (fun i => match i with
      | 0 => PySem.W.fnOf "is_whole" "is_whole" (defArgs s_is_whole) (defBody s_is_whole) (defScope s_is_whole) .none kV0 dc0 pm0 an0 cd0 ct0
      | 1 => PySem.W.fnOf "is_item" "is_item" (defArgs s_is_item) (defBody s_is_item) (defScope s_is_item) .none kV1 dc1 pm1 an1 cd1 ct1
      | 2 => PySem.W.fnOf "is_row" "is_row" (defArgs s_is_row) (defBody s_is_row) (defScope s_is_row) .none kV2 dc2 pm2 an2 cd2 ct2
      | 3 => PySem.W.fnOf "check_size" "check_size" (defArgs s_check_size) (defBody s_check_size) (defScope s_check_size) .none kV3 dc3 pm3 an3 cd3 ct3
      | 4 => PySem.W.fnOf "check_ballots" "check_ballots" (defArgs s_check_ballots) (defBody s_check_ballots) (defScope s_check_ballots) .none kV4 dc4 pm4 an4 cd4 ct4
      | 5 => PySem.W.fnOf "square_of_zeros" "square_of_zeros" (defArgs s_square_of_zeros) (defBody s_square_of_zeros) (defScope s_square_of_zeros) .none kV5 dc5 pm5 an5 cd5 ct5
      | 6 => PySem.W.fnOf "answer_of_numbers" "answer_of_numbers" (defArgs s_answer_of_numbers) (defBody s_answer_of_numbers) (defScope s_answer_of_numbers) .none kV6 dc6 pm6 an6 cd6 ct6
      | 7 => PySem.W.fnOf "rule_of_ballots" "rule_of_ballots" (defArgs s_rule_of_ballots) (defBody s_rule_of_ballots) (defScope s_rule_of_ballots) .none kV7 dc7 pm7 an7 cd7 ct7
      | 8 => PySem.W.fnOf "_law_draws" "_law_draws" (defArgs s__law_draws) (defBody s__law_draws) (defScope s__law_draws) .none kV8 dc8 pm8 an8 cd8 ct8
      | 9 => PySem.W.fnOf "_law_next" "_law_next" (defArgs s__law_next) (defBody s__law_next) (defScope s__law_next) .none kV9 dc9 pm9 an9 cd9 ct9
      | 10 => PySem.W.fnOf "_law_ballot" "_law_ballot" (defArgs s__law_ballot) (defBody s__law_ballot) (defScope s__law_ballot) .none kV10 dc10 pm10 an10 cd10 ct10
      | 11 => PySem.W.fnOf "_law_lead" "_law_lead" (defArgs s__law_lead) (defBody s__law_lead) (defScope s__law_lead) .none kV11 dc11 pm11 an11 cd11 ct11
      | 12 => PySem.W.fnOf "_law_by_ballots" "_law_by_ballots" (defArgs s__law_by_ballots) (defBody s__law_by_ballots) (defScope s__law_by_ballots) .none kV12 dc12 pm12 an12 cd12 ct12
      | 13 => PySem.W.fnOf "_law_kept" "_law_kept" (defArgs s__law_kept) (defBody s__law_kept) (defScope s__law_kept) .none kV13 dc13 pm13 an13 cd13 ct13
      | 14 => PySem.W.fnOf "_law_right" "_law_right" (defArgs s__law_right) (defBody s__law_right) (defScope s__law_right) .none kV14 dc14 pm14 an14 (.ref LC14) ct14
      | _ => PySem.W.fnOf "law" "law" (defArgs s_law) (defBody s_law) (defScope s_law) .none kV15 dc15 pm15 an15 cd15 ct15)
      w (fun i => match i with | 0 => C0 | _ => C1) (fun i => match i with | 0 => I0 | _ => I1) (fun i => match i with | 0 => PySem.W.fnOf "__init__" "InvalidSize.__init__" (defArgs s_I_InvalidSize) (defBody s_I_InvalidSize) (defScope s_I_InvalidSize) .none ikV0 idc0 ipm0 ian0 icd0 ict0 | _ => PySem.W.fnOf "__init__" "InvalidBallots.__init__" (defArgs s_I_InvalidBallots) (defBody s_I_InvalidBallots) (defScope s_I_InvalidBallots) .none ikV1 idc1 ipm1 ian1 icd1 ict1) := by
    refine ⟨?_, ?_, ?_, ?_, ?_, ?_, ?_, ?_, ?_, ?_, ?_, ?_, ?_, ?_, ?_, ?_, ?_, ?_, ?_, ?_, ?_, ?_, ?_, ?_, ?_, ?_, ?_, ?_, ?_, ?_, ?_, ?_, ?_, ?_, ?_, ?_, ?_, ?_, ?_, ?_, ?_, ?_, ?_, ?_, ?_, ?_, ?_, ?_, ?_, ?_, ?_, ?_, ?_, ?_, ?_, ?_, ?_, ?_, ?_, ?_, ?_, ?_, ?_, ?_, ?_, ?_, ?_, ?_, ?_, ?_, ?_, ?_, ?_, ?_, ?_, ?_, ?_, ?_, ?_, ?_, ?_, ?_, ?_, ?_, ?_, ?_, ?_⟩
    · exact F0
    · exact PySem.W.mg_of X G a0
    · exact F0.binds fun _ _ _ _ _ _ us hl => match us, hl with | [_], _ => rfl
    · exact F1
    · exact PySem.W.mg_of X G a1
    · exact F1.binds fun _ _ _ _ _ _ us hl => match us, hl with | [_, _], _ => rfl
    · exact F2
    · exact PySem.W.mg_of X G a2
    · exact F2.binds fun _ _ _ _ _ _ us hl => match us, hl with | [_, _], _ => rfl
    · exact F3
    · exact PySem.W.mg_of X G a3
    · exact F3.binds fun _ _ _ _ _ _ us hl => match us, hl with | [_], _ => rfl
    · exact F4
    · exact PySem.W.mg_of X G a4
    · exact F4.binds fun _ _ _ _ _ _ us hl => match us, hl with | [_, _], _ => rfl
    · exact F5
    · exact PySem.W.mg_of X G a5
    · exact F5.binds fun _ _ _ _ _ _ us hl => match us, hl with | [_], _ => rfl
    · exact F6
    · exact PySem.W.mg_of X G a6
    · exact F6.binds fun _ _ _ _ _ _ us hl => match us, hl with | [_, _, _], _ => rfl
    · exact F7
    · exact PySem.W.mg_of X G a7
    · exact F7.binds fun _ _ _ _ _ _ us hl => match us, hl with | [_, _], _ => rfl
    · exact F8
    · exact PySem.W.mg_of X G a8
    · exact F8.binds fun _ _ _ _ _ _ us hl => match us, hl with | [_], _ => rfl
    · exact F9
    · exact PySem.W.mg_of X G a9
    · exact F9.binds fun _ _ _ _ _ _ us hl => match us, hl with | [_], _ => rfl
    · exact F10
    · exact PySem.W.mg_of X G a10
    · exact F10.binds fun _ _ _ _ _ _ us hl => match us, hl with | [_, _], _ => rfl
    · exact F11
    · exact PySem.W.mg_of X G a11
    · exact F11.binds fun _ _ _ _ _ _ us hl => match us, hl with | [_, _, _], _ => rfl
    · exact F12
    · exact PySem.W.mg_of X G a12
    · exact F12.binds fun _ _ _ _ _ _ us hl => match us, hl with | [_, _], _ => rfl
    · exact F13
    · exact PySem.W.mg_of X G a13
    · exact F13.binds fun _ _ _ _ _ _ us hl => match us, hl with | [_], _ => rfl
    · exact F14
    · exact PySem.W.mg_of X G a14
    · exact F14.binds fun _ _ _ _ _ _ us hl => match us, hl with | [_], _ => rfl
    · refine ⟨LC14, LP14, rfl, List.mem_cons_self, List.mem_cons_self, ?_⟩
      intro p hp he
      have hp : p ∈ ([(LP14, (("_law_right" : Str) ++ ".<locals>." ++ "<lambda>"))] : List (Addr × Str)) := hp
      simp only [List.mem_cons, List.not_mem_nil, or_false] at hp
      rcases hp with rfl
      · rfl
    · exact F15
    · exact PySem.W.mg_of X G a15
    · exact F15.binds fun _ _ _ _ _ _ us hl => match us, hl with | [_], _ => rfl
    · exact PySem.W.mg_none_of X G z0
    · exact PySem.W.mg_none_of X G z1
    · exact PySem.W.mg_none_of X G z2
    · exact PySem.W.mg_none_of X G z3
    · exact PySem.W.mg_none_of X G z4
    · exact PySem.W.mg_none_of X G z5
    · exact PySem.W.mg_none_of X G z6
    · exact PySem.W.mg_none_of X G z7
    · exact PySem.W.mg_none_of X G z8
    · exact PySem.W.mg_none_of X G z9
    · exact PySem.W.mg_none_of X G z10
    · exact PySem.W.mg_none_of X G z11
    · exact PySem.W.mg_none_of X G z12
    · exact ⟨_, PySem.W.mg_of X G mc_MOST_ITEMS⟩
    · exact vV
    · exact ⟨⟨nm0, q0, NN0, bs0, _, sn0, sub0, ab0, col0, dd0, m0_0, m1_0, m2_0, m3_0, m5_0, xL0, by decide +kernel⟩, sa0, eC0, tC0, kC0⟩
    · exact iC0
    · exact it0
    · exact IF0
    · exact IF0.binds fun _ _ _ _ _ _ us hl => match us, hl with | [_, _], _ => rfl
    · exact PySem.W.mg_of X G aC0
    · exact nb0
    · exact ⟨ga0, gg0, eC0, hC0, nb0, jC0, ca0, cn, ct, cm0⟩
    · exact PySem.W.exm_ref eC0 hC0 tC0 sC0
    · exact Tr.kit_ve kt0
    · exact ⟨⟨nm1, q1, NN1, bs1, _, sn1, sub1, ab1, col1, dd1, m0_1, m1_1, m2_1, m3_1, m5_1, xL1, by decide +kernel⟩, sa1, eC1, tC1, kC1⟩
    · exact iC1
    · exact it1
    · exact IF1
    · exact IF1.binds fun _ _ _ _ _ _ us hl => match us, hl with | [_, _], _ => rfl
    · exact PySem.W.mg_of X G aC1
    · exact nb1
    · exact ⟨ga1, gg1, eC1, hC1, nb1, jC1, ca1, cn, ct, cm1⟩
    · exact PySem.W.exm_ref eC1 hC1 tC1 sC1
    · exact Tr.kit_ve kt1
    · exact ⟨Tr.exa_one (PySem.W.exm_ref eC1 hC1 tC1 sC1) (PySem.W.exm_ref eC0 hC0 tC0 su_InvalidBallots_InvalidSize_1), Tr.exa_two (PySem.W.exm_ref eC1 hC1 tC1 su_InvalidBallots_InvalidSize_2) (PySem.W.exm_ref eC0 hC0 tC0 sC0)⟩
    · exact Tr.kit_self
    · exact Tr.kit_other sC0 su_InvalidBallots_InvalidSize_1 hC0 tC0
  have tb14 := tabs _ _ _ lq14 (Tr.tabIn_of a14 l14 rfl lr14 lt14)
  exact ⟨(fun i => match i with | 0 => C0 | _ => C1), _, [(LC14, LP14)], ⟨[(LP14, (("_law_right" : Str) ++ ".<locals>." ++ "<lambda>"))]⟩, (by intro p hp; simp only [List.mem_cons, List.not_mem_nil, or_false] at hp; rcases hp with rfl <;> first | exact tb14.2), (by intro p hp; simp only [List.mem_cons, List.not_mem_nil, or_false] at hp; rcases hp with rfl <;> first | exact ln14), (by intro p hp; simp only [List.mem_cons, List.not_mem_nil, or_false] at hp; rcases hp with rfl <;> first | exact tb14.1), (by intro p hp; simp only [List.mem_cons, List.not_mem_nil, or_false] at hp; rcases hp with rfl <;> simp), fun s v => .of_eq rfl, fun base _ _ BB => ok_law T ⟨BB⟩⟩
end My
open PySem PySem.W PyProof.Rows
set_option maxHeartbeats 0 in
theorem PySem.Challenge.cw_knotsorts_k02_rules_from_ballots_holds : PySem.Challenge.rw_knotsorts_k02_rules_from_ballots.Holds := by
  w_on; o_law; k_head; (case hw => w_witness2)
  k_fill
  refine Tr.walkL (Z := Nat → Addr) (l := PySem.Challenge.rw_knotsorts_k02_rules_from_ballots) (n := 63) (k := 11) (x := "script") (mf := fun K z => My.m_law K z) rfl (by decide) rfl ⟨rfl, by decide, by decide⟩ (fun w h Y => PySem.W.km_in_of Y) ?F (@My.law_true ⟨[]⟩ ⟨[]⟩)
  case F =>
    intro w mg fa h KX G hmg tabs
    refine' My.all_mk KX G hmg ?aC0 ?xL0 ?sa0 ?ga0 ?gg0 ?nb0 ?iC0 ?it0 ?il0 ?ic0 ?ik0 ?kC0 ?eC0 ?tC0 ?hC0 ?jC0 ?sC0 ?ca0 ?cm0 ?kt0 ?aC1 ?xL1 ?sa1 ?ga1 ?gg1 ?nb1 ?iC1 ?it1 ?il1 ?ic1 ?ik1 ?kC1 ?eC1 ?tC1 ?hC1 ?jC1 ?sC1 ?ca1 ?cm1 ?kt1 ?vV ?cn ?ct ?su_InvalidBallots_InvalidSize_1 ?su_InvalidBallots_InvalidSize_2 ?a0 ?l0 ?c0 ?k0 ?a1 ?l1 ?c1 ?k1 ?a2 ?l2 ?c2 ?k2 ?a3 ?l3 ?c3 ?k3 ?a4 ?l4 ?c4 ?k4 ?a5 ?l5 ?c5 ?k5 ?a6 ?l6 ?c6 ?k6 ?a7 ?l7 ?c7 ?k7 ?a8 ?l8 ?c8 ?k8 ?a9 ?l9 ?c9 ?k9 ?a10 ?l10 ?c10 ?k10 ?a11 ?l11 ?c11 ?k11 ?a12 ?l12 ?c12 ?k12 ?a13 ?l13 ?c13 ?k13 ?a14 ?l14 ?c14 ?k14 ?lr14 ?lt14 ?ln14 ?a15 ?l15 ?c15 ?k15 tabs ?lq14 ?z0 ?z1 ?z2 ?z3 ?z4 ?z5 ?z6 ?z7 ?z8 ?z9 ?z10 ?z11 ?z12 ?mc_MOST_ITEMS
    (case aC0 => k_is)
    (case xL0 => k_is)
    (case sa0 => k_is)
    (case ga0 => k_is)
    (case gg0 => k_is)
    (case nb0 => k_is)
    (case iC0 => k_is)
    (case it0 => k_is)
    (case il0 => k_is)
    (case ic0 => k_is)
    (case ik0 => k_is)
    (case kC0 => k_is)
    (case eC0 => k_is)
    (case tC0 => k_is)
    (case hC0 => k_is)
    (case jC0 => k_is)
    (case sC0 => first | rfl | k_is)
    (case ca0 => k_is)
    (case cm0 => k_is)
    (case kt0 => k_is)
    (case aC1 => k_is)
    (case xL1 => k_is)
    (case sa1 => k_is)
    (case ga1 => k_is)
    (case gg1 => k_is)
    (case nb1 => k_is)
    (case iC1 => k_is)
    (case it1 => k_is)
    (case il1 => k_is)
    (case ic1 => k_is)
    (case ik1 => k_is)
    (case kC1 => k_is)
    (case eC1 => k_is)
    (case tC1 => k_is)
    (case hC1 => k_is)
    (case jC1 => k_is)
    (case sC1 => first | rfl | k_is)
    (case ca1 => k_is)
    (case cm1 => k_is)
    (case kt1 => k_is)
    (case vV => k_is)
    (case cn => k_is)
    (case ct => k_is)
    (case su_InvalidBallots_InvalidSize_1 => k_is)
    (case su_InvalidBallots_InvalidSize_2 => k_is)
    (case a0 => k_is)
    (case l0 => k_is)
    (case c0 => k_is)
    (case k0 => k_is)
    (case a1 => k_is)
    (case l1 => k_is)
    (case c1 => k_is)
    (case k1 => k_is)
    (case a2 => k_is)
    (case l2 => k_is)
    (case c2 => k_is)
    (case k2 => k_is)
    (case a3 => k_is)
    (case l3 => k_is)
    (case c3 => k_is)
    (case k3 => k_is)
    (case a4 => k_is)
    (case l4 => k_is)
    (case c4 => k_is)
    (case k4 => k_is)
    (case a5 => k_is)
    (case l5 => k_is)
    (case c5 => k_is)
    (case k5 => k_is)
    (case a6 => k_is)
    (case l6 => k_is)
    (case c6 => k_is)
    (case k6 => k_is)
    (case a7 => k_is)
    (case l7 => k_is)
    (case c7 => k_is)
    (case k7 => k_is)
    (case a8 => k_is)
    (case l8 => k_is)
    (case c8 => k_is)
    (case k8 => k_is)
    (case a9 => k_is)
    (case l9 => k_is)
    (case c9 => k_is)
    (case k9 => k_is)
    (case a10 => k_is)
    (case l10 => k_is)
    (case c10 => k_is)
    (case k10 => k_is)
    (case a11 => k_is)
    (case l11 => k_is)
    (case c11 => k_is)
    (case k11 => k_is)
    (case a12 => k_is)
    (case l12 => k_is)
    (case c12 => k_is)
    (case k12 => k_is)
    (case a13 => k_is)
    (case l13 => k_is)
    (case c13 => k_is)
    (case k13 => k_is)
    (case a14 => k_is)
    (case l14 => k_is)
    (case c14 => k_is)
    (case k14 => k_is)
    (case lr14 => k_is)
    (case lt14 => rfl)
    (case ln14 => first | rfl | decide +kernel)
    (case a15 => k_is)
    (case l15 => k_is)
    (case c15 => k_is)
    (case k15 => k_is)
    (case lq14 => first | rfl | decide +kernel)
    (case z0 => k_is)
    (case z1 => k_is)
    (case z2 => k_is)
    (case z3 => k_is)
    (case z4 => k_is)
    (case z5 => k_is)
    (case z6 => k_is)
    (case z7 => k_is)
    (case z8 => k_is)
    (case z9 => k_is)
    (case z10 => k_is)
    (case z11 => k_is)
    (case z12 => k_is)
    (case mc_MOST_ITEMS => k_is)
