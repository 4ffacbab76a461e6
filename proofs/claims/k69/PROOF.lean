import PyProof.Rows.All
import Wide.All
import OpenK.AllK
import Wide.FinOn
import HandS.ForMost
import PySem.Challenge.RW_knotsorts_k69_whole_even_or_odd
import HandS.Wide
import HandS.WideBits
import HandS.Deep
import HandS.IsInst
import HandS.Sort
import HandS.Conv
import HandS.Defaults
import HandS.MakeKwOnly
import HandS.RaiseMore
import HandS.Ends
import HandS.SortInts
import HandS.Exc
import HandS.ExcOwn
import HandS.WordsExc
import HandS.ExcInit
import HandS.ExcField
import HandS.CallSlots
import HandS.Dict
import KE.KExcIs
import HandS.ExcIs
import HandS.SortRule
import HandS.Iter
import HandS.Style
import HandS.SetFor
import HandS.CallLocal
import HandS.More
import HandS.TryOnly
import HandS.Property
import KE.KDictZip
import HandS.TupSets
import KE.KDictWalk
import KE.KDictSum
import PyProof.SumAny
import PyProof.ListOps
import HandS.FStr
import HandS.Text
import KE.GoesEnum
import HandS.Replace
import PyProof.ExcBaseAll.LookupError
import KE.KExcInit
set_option Elab.async false
set_option linter.all false
set_option maxRecDepth 100000
set_option maxHeartbeats 4000000
/-! Trees: Python's values as trees of data, the lists that a def changes by what holds them, and when a reading keeps to a plain function over them. -/
namespace Tr
open PySem PySem.Spec PyProof.Rows L2

/-! ### two lists side by side -/
inductive All2 {α β : Type} (R : α → β → Prop) : List α → List β → Prop
  | nil : All2 R [] []
  | cons {a : α} {b : β} {as : List α} {bs : List β} : R a b → All2 R as bs → All2 R (a :: as) (b :: bs)
namespace All2
variable {α β : Type} {R S : α → β → Prop}
theorem len : ∀ {as : List α} {bs : List β}, All2 R as bs → as.length = bs.length
  | _, _, .nil => rfl
  | _, _, .cons _ t => by simp [t.len]
theorem mono (h : ∀ a b, R a b → S a b) : ∀ {as : List α} {bs : List β}, All2 R as bs → All2 S as bs
  | _, _, .nil => .nil
  | _, _, .cons r t => .cons (h _ _ r) (t.mono h)
theorem monoM : ∀ {as : List α} {bs : List β}, All2 R as bs → (∀ a b, a ∈ as → b ∈ bs → R a b → S a b) → All2 S as bs
  | _, _, .nil, _ => .nil
  | _, _, .cons r t, h => .cons (h _ _ (by simp) (by simp) r) (t.monoM fun a b x y => h a b (by simp [x]) (by simp [y]))
theorem get : ∀ {as : List α} {bs : List β} {i : Nat} {a : α}, All2 R as bs → as[i]? = some a → ∃ b, bs[i]? = some b ∧ R a b
  | _, _, _, _, .nil, h => by simp at h
  | _, _, 0, _, .cons r t, h => by simp at h; subst h; exact ⟨_, rfl, r⟩
  | _, _, i + 1, a, .cons r t, h => by
    rw [List.getElem?_cons_succ] at h
    obtain ⟨b, e, x⟩ := t.get h
    exact ⟨b, by rw [List.getElem?_cons_succ]; exact e, x⟩
theorem getR : ∀ {as : List α} {bs : List β} {i : Nat} {b : β}, All2 R as bs → bs[i]? = some b → ∃ a, as[i]? = some a ∧ R a b
  | _, _, _, _, .nil, h => by simp at h
  | _, _, 0, _, .cons r t, h => by simp at h; subst h; exact ⟨_, rfl, r⟩
  | _, _, i + 1, b, .cons r t, h => by
    rw [List.getElem?_cons_succ] at h
    obtain ⟨a, e, x⟩ := t.getR h
    exact ⟨a, by rw [List.getElem?_cons_succ]; exact e, x⟩
theorem app : ∀ {as as' : List α} {bs bs' : List β}, All2 R as bs → All2 R as' bs' → All2 R (as ++ as') (bs ++ bs')
  | _, _, _, _, .nil, s => s
  | _, _, _, _, .cons r t, s => .cons r (t.app s)
theorem take : ∀ {as : List α} {bs : List β} (n : Nat), All2 R as bs → All2 R (as.take n) (bs.take n)
  | _, _, 0, _ => .nil
  | _, _, _ + 1, .nil => .nil
  | _, _, n + 1, .cons r t => .cons r (t.take n)
theorem drop : ∀ {as : List α} {bs : List β} (n : Nat), All2 R as bs → All2 R (as.drop n) (bs.drop n)
  | _, _, 0, h => h
  | _, _, _ + 1, .nil => .nil
  | _, _, n + 1, .cons _ t => t.drop n
theorem set : ∀ {as : List α} {bs : List β} (n : Nat) {a : α} {b : β}, All2 R as bs → R a b → All2 R (as.set n a) (bs.set n b)
  | _, _, _, _, _, .nil, _ => .nil
  | _, _, 0, _, _, .cons _ t, x => .cons x t
  | _, _, n + 1, _, _, .cons r t, x => .cons r (t.set n x)
theorem erase : ∀ {as : List α} {bs : List β} (n : Nat), All2 R as bs → All2 R (as.eraseIdx n) (bs.eraseIdx n)
  | _, _, _, .nil => .nil
  | _, _, 0, .cons _ t => t
  | _, _, n + 1, .cons r t => .cons r (t.erase n)
theorem rep {as : List α} {bs : List β} (h : All2 R as bs) : ∀ n : Nat, All2 R (List.replicate n as).flatten (List.replicate n bs).flatten
  | 0 => .nil
  | n + 1 => by rw [List.replicate_succ, List.replicate_succ, List.flatten_cons, List.flatten_cons]; exact h.app (h.rep n)
theorem snoc {as : List α} {bs : List β} {a : α} {b : β} (h : All2 R as bs) (r : R a b) : All2 R (as ++ [a]) (bs ++ [b]) := h.app (.cons r .nil)
end All2

/-! ### data held by what never changes any more -/
mutual
/-- v is the data d, all of whose lists stand in F -/
def Rp (F : Hp) : PyData → V → Prop
  | .none, v => v = .non
  | .bool b, v => v = .bl b
  | .int i, v => v = .int i
  | .str s, v => v = .str s
  | .list ds, v => ∃ a vs, v = .ref a ∧ F a = some (.lst vs) ∧ Rps F ds vs
  | .tuple ds, v => ∃ a vs, v = .ref a ∧ F a = some (.tup vs) ∧ Rps F ds vs
  | .dict kvs, v => kvs = [] ∧ ∃ a, v = .ref a ∧ F a = some (.dK [])
def Rps (F : Hp) : List PyData → List V → Prop
  | [], vs => vs = []
  | d :: ds, vs => ∃ v r, vs = v :: r ∧ Rp F d v ∧ Rps F ds r
end
/-- what H has stands in H' -/
def Ex (H H' : Hp) : Prop := ∀ a o, H a = some o → H' a = some o
theorem Ex.refl (H : Hp) : Ex H H := fun _ _ h => h
theorem Ex.trans {H H1 H2 : Hp} (a : Ex H H1) (b : Ex H1 H2) : Ex H H2 := fun x o h => b x o (a x o h)
theorem Ex.new {H : Hp} {p : Addr} {o : HO} (h : H p = none) : Ex H (upd H p o) := fun a u e => by
  rw [upd_ne (ne_of_none e h)]
  exact e
theorem Ex.none {H H' : Hp} (e : Ex H H') {p : Addr} (h : H' p = Option.none) : H p = Option.none := by
  cases q : H p with
  | none => rfl
  | some o => rw [e p o q] at h; cases h

theorem rps_iff {F : Hp} : ∀ {ds : List PyData} {vs : List V}, Rps F ds vs ↔ All2 (Rp F) ds vs
  | [], vs => by
    constructor
    · intro h; have h' : vs = [] := h; subst h'; exact .nil
    · intro h; cases h; rfl
  | d :: ds, vs => by
    constructor
    · intro h
      obtain ⟨v, r, rfl, h1, h2⟩ := h
      exact .cons h1 (rps_iff.mp h2)
    · intro h
      cases h with
      | cons h1 h2 => exact ⟨_, _, rfl, h1, rps_iff.mpr h2⟩
theorem rp_list {F : Hp} {ds : List PyData} {v : V} : Rp F (.list ds) v ↔ ∃ a vs, v = .ref a ∧ F a = some (.lst vs) ∧ All2 (Rp F) ds vs := by
  constructor
  · rintro ⟨a, vs, e, h, r⟩; exact ⟨a, vs, e, h, rps_iff.mp r⟩
  · rintro ⟨a, vs, e, h, r⟩; exact ⟨a, vs, e, h, rps_iff.mpr r⟩
theorem rp_tuple {F : Hp} {ds : List PyData} {v : V} : Rp F (.tuple ds) v ↔ ∃ a vs, v = .ref a ∧ F a = some (.tup vs) ∧ All2 (Rp F) ds vs := by
  constructor
  · rintro ⟨a, vs, e, h, r⟩; exact ⟨a, vs, e, h, rps_iff.mp r⟩
  · rintro ⟨a, vs, e, h, r⟩; exact ⟨a, vs, e, h, rps_iff.mpr r⟩
mutual
theorem Rp.mono {F F' : Hp} (e : Ex F F') : ∀ {d : PyData} {v : V}, Rp F d v → Rp F' d v
  | .none, _, h => h
  | .bool _, _, h => h
  | .int _, _, h => h
  | .str _, _, h => h
  | .list ds, v, h => by
    obtain ⟨a, vs, q, h1, h2⟩ := h
    exact ⟨a, vs, q, e _ _ h1, Rps.mono e h2⟩
  | .tuple ds, v, h => by
    obtain ⟨a, vs, q, h1, h2⟩ := h
    exact ⟨a, vs, q, e _ _ h1, Rps.mono e h2⟩
  | .dict _, v, h => by
    obtain ⟨z, a, q, h1⟩ := h
    exact ⟨z, a, q, e _ _ h1⟩
theorem Rps.mono {F F' : Hp} (e : Ex F F') : ∀ {ds : List PyData} {vs : List V}, Rps F ds vs → Rps F' ds vs
  | [], _, h => h
  | d :: ds, _, h => by
    obtain ⟨v, r, q, h1, h2⟩ := h
    exact ⟨v, r, q, Rp.mono e h1, Rps.mono e h2⟩
end
theorem all_mono {F F' : Hp} (e : Ex F F') {ds : List PyData} {vs : List V} (h : All2 (Rp F) ds vs) : All2 (Rp F') ds vs := h.mono fun _ _ => Rp.mono e
mutual
theorem Rp.dp {K : PySem.W.Frag} {F H : Hp} (e : Ex F H) : ∀ {d : PyData} {v : V}, Rp F d v → d.canLay0 = true → Dp K H v d
  | .none, _, h, _ => by have h' : _ = _ := h; subst h'; exact .non
  | .bool _, _, h, _ => by have h' : _ = _ := h; subst h'; exact .bl _
  | .int _, _, h, _ => by have h' : _ = _ := h; subst h'; exact .int _
  | .str _, _, h, _ => by have h' : _ = _ := h; subst h'; exact .str _
  | .list ds, v, h, c => by
    obtain ⟨a, vs, rfl, h1, h2⟩ := h
    exact .lst (SqL.of (e _ _ h1)) (Rps.dp e h2 (by simpa [PyData.canLay0] using c))
  | .tuple ds, v, h, c => by
    obtain ⟨a, vs, rfl, h1, h2⟩ := h
    exact .tup (SqT.of (e _ _ h1)) (Rps.dp e h2 (by simpa [PyData.canLay0] using c))
  | .dict _, _, _, c => nomatch c
theorem Rps.dp {K : PySem.W.Frag} {F H : Hp} (e : Ex F H) : ∀ {ds : List PyData} {vs : List V}, Rps F ds vs → PyData.canLayAll0 ds = true → DpAll K H vs ds
  | [], _, h, _ => by have h' : _ = _ := h; subst h'; exact .nil
  | d :: ds, _, h, c => by
    obtain ⟨v, r, rfl, h1, h2⟩ := h
    have c' : d.canLay0 = true ∧ PyData.canLayAll0 ds = true := by simpa [PyData.canLayAll0] using c
    exact .cons (Rp.dp e h1 c'.1) (Rps.dp e h2 c'.2)
end
/-! ### what a name holds -/
inductive O where
  /-- data that never change any more -/
  | fz (d : PyData)
  /-- a range object -/
  | rg (lo hi : Int)
  /-- a list that this name alone holds; a list of such lists -/
  | ow (ds : List PyData) | ow2 (rows : List (List PyData))
  /-- the script, of the written part K or not -/
  | sc (K : PySem.W.Frag) (ns : List Int)
  /-- a tuple of texts of the module's top -/
  | kt (K : PySem.W.Frag) (xs : List Str)
  /-- an instance of the class at C: attributes that never change, and at most one list that it alone holds -/
  | ob (C : Addr) (fs : List (Str × PyData)) (g : Option (Str × List PyData))
  /-- a tuple of such lists -/
  | tp (rows : List (List PyData))
  /-- a dict (keys: ints and texts) that this name alone holds -/
  | dk (kvs : List (Key × PyData))
  /-- a dict (keys: tuples of ints and texts) that this name alone holds -/
  | dt (kvs : List (List Key × PyData))
  /-- data all of whose places this name alone holds -/
  | dd (d : PyData)
abbrev En := List (Option O)
def Own (F H : Hp) (o : O) (v : V) (S : Addr → Prop) : Prop := match o with
  | .fz d => Rp F d v
  | .rg lo hi => ∃ a, v = .ref a ∧ F a = some (.rng lo hi)
  | .sc K ns => ∃ a, v = .ref a ∧ SqL K F a (ns.map V.int)
  | .kt K xs => ∃ a, v = .ref a ∧ SqT K F a (xs.map V.str)
  | .ow ds => ∃ a vs, v = .ref a ∧ S a ∧ H a = some (.lst vs) ∧ All2 (Rp F) ds vs
  | .ow2 rows => ∃ a rs, v = .ref a ∧ S a ∧ H a = some (.lst (rs.map V.ref)) ∧ a ∉ rs ∧ rs.Nodup ∧ All2 (fun row r => S r ∧ ∃ vs, H r = some (.lst vs) ∧ All2 (Rp F) row vs) rows rs
  | .ob C fs none => ∃ a dx fvs, v = .ref a ∧ S a ∧ S dx ∧ H a = some (.ins C dx fvs) ∧ H dx = some (.own a) ∧ All2 (fun (p : Str × PyData) (q : Str × V) => p.1 = q.1 ∧ Rp F p.2 q.2) fs fvs
  | .ob C fs (some (g, ds)) => ∃ a dx fvs r vs, v = .ref a ∧ S a ∧ S dx ∧ S r ∧ H a = some (.ins C dx (fvs ++ [(g, .ref r)])) ∧ H dx = some (.own a) ∧ H r = some (.lst vs) ∧ All2 (fun (p : Str × PyData) (q : Str × V) => p.1 = q.1 ∧ Rp F p.2 q.2) fs fvs ∧ All2 (Rp F) ds vs
  | .tp rows => ∃ a rs, v = .ref a ∧ S a ∧ H a = some (.tup (rs.map V.ref)) ∧ a ∉ rs ∧ rs.Nodup ∧ All2 (fun row r => S r ∧ ∃ vs, H r = some (.lst vs) ∧ All2 (Rp F) row vs) rows rs
  | .dk kvs => ∃ a kws, v = .ref a ∧ S a ∧ H a = some (.dK kws) ∧ All2 (fun (p : Key × PyData) (q : Key × V) => p.1 = q.1 ∧ Rp F p.2 q.2) kvs kws
  | .dt kvs => ∃ a kws, v = .ref a ∧ S a ∧ H a = some (.dT kws) ∧ All2 (fun (p : List Key × PyData) (q : List Key × V) => p.1 = q.1 ∧ Rp F p.2 q.2) kvs kws
  | .dd d => ∃ G : Hp, (∀ a u, G a = some u → S a ∧ H a = some u) ∧ Rp G d v
theorem ex_sq {K : PySem.W.Frag} {F F' : Hp} {a : Addr} {xs : List V} (e : Ex F F') (h : SqL K F a xs) : SqL K F' a xs := by
  rcases h with (h | ⟨o, h⟩) | h
  · exact .inl (.inl (e _ _ h))
  · exact .inl (.inr ⟨o, e _ _ h⟩)
  · exact .inr h
theorem ex_sqT {K : PySem.W.Frag} {F F' : Hp} {a : Addr} {xs : List V} (e : Ex F F') (h : SqT K F a xs) : SqT K F' a xs := by
  rcases h with (h | ⟨o, h⟩) | h
  · exact .inl (.inl (e _ _ h))
  · exact .inl (.inr ⟨o, e _ _ h⟩)
  · exact .inr h
structure REnv (F H : Hp) (σ : L2.St) (env : En) (Sl : Nat → Addr → Prop) : Prop where
  ex : Ex F H
  len : σ.length = env.length
  at_ : ∀ i o, env[i]? = some (some o) → ∃ v, σ[i]? = some (some v) ∧ Own F H o v (Sl i)
  dj : ∀ i j a, Sl i a → Sl j a → i = j
  tr : ∀ i a, Sl i a → F a = none ∧ ∃ o, H a = some o
structure Step (F H : Hp) (Sl : Nat → Addr → Prop) (F' H' : Hp) (Sl' : Nat → Addr → Prop) : Prop where
  exF : Ex F F'
  fr : ∀ b o, H b = some o → (∀ i, ¬ Sl i b) → H' b = some o
  tk : ∀ b o, H b = some o → ∃ o', H' b = some o'
  own : ∀ i b, Sl' i b → Sl i b ∨ H b = none
  fz : ∀ b o, F' b = some o → F b = some o ∨ H b = none ∨ ∃ i, Sl i b
theorem Step.refl {F H : Hp} {Sl : Nat → Addr → Prop} : Step F H Sl F H Sl := ⟨Ex.refl F, fun _ _ h _ => h, fun _ _ h => ⟨_, h⟩, fun _ _ h => .inl h, fun _ _ h => .inl h⟩
theorem Step.trans {F H F1 H1 F2 H2 : Hp} {Sl Sl1 Sl2 : Nat → Addr → Prop} (a : Step F H Sl F1 H1 Sl1) (b : Step F1 H1 Sl1 F2 H2 Sl2) : Step F H Sl F2 H2 Sl2 := by
  have back : ∀ c, H1 c = none → H c = none := fun c h => by
    cases q : H c with
    | none => rfl
    | some o => obtain ⟨o', e⟩ := a.tk c o q; rw [e] at h; cases h
  refine ⟨a.exF.trans b.exF, fun c o h n => b.fr c o (a.fr c o h n) fun i z => ?_, fun c o h => ?_, fun i c h => ?_, fun c o h => ?_⟩
  · rcases a.own i c z with z | z
    · exact n i z
    · rw [h] at z; cases z
  · obtain ⟨o', e⟩ := a.tk c o h
    exact b.tk c o' e
  · rcases b.own i c h with z | z
    · exact a.own i c z
    · exact .inr (back c z)
  · rcases b.fz c o h with z | z | ⟨i, z⟩
    · exact a.fz c o z
    · exact .inr (.inl (back c z))
    · rcases a.own i c z with y | y
      · exact .inr (.inr ⟨i, y⟩)
      · exact .inr (.inl y)
/-- only new things, tracked and fixed or not -/
theorem Step.grow {F H F' H' : Hp} {Sl : Nat → Addr → Prop} (a : Ex F F') (b : Ex H H') (c : ∀ x o, F' x = some o → F x = some o ∨ H x = none) : Step F H Sl F' H' Sl :=
  ⟨a, fun x o h _ => b x o h, fun x o h => ⟨o, b x o h⟩, fun _ _ h => .inl h, fun x o h => (c x o h).elim .inl fun z => .inr (.inl z)⟩
theorem Own.ext {F H F' H' : Hp} {o : O} {v : V} {S : Addr → Prop} (h : Own F H o v S) (e : Ex F F') (k : ∀ a u, S a → H a = some u → H' a = some u) : Own F' H' o v S := by
  cases o with
  | fz d => exact Rp.mono e h
  | rg lo hi => obtain ⟨a, q, h⟩ := h; exact ⟨a, q, e _ _ h⟩
  | sc K ns => obtain ⟨a, q, h⟩ := h; exact ⟨a, q, ex_sq e h⟩
  | kt K xs => obtain ⟨a, q, h⟩ := h; exact ⟨a, q, ex_sqT e h⟩
  | ow ds => obtain ⟨a, vs, q, s, h, r⟩ := h; exact ⟨a, vs, q, s, k _ _ s h, all_mono e r⟩
  | ow2 rows =>
    obtain ⟨a, rs, q, s, h, n, nd, r⟩ := h
    exact ⟨a, rs, q, s, k _ _ s h, n, nd, r.mono fun row x ⟨s', vs, h', r'⟩ => ⟨s', vs, k _ _ s' h', all_mono e r'⟩⟩
  | tp rows =>
    obtain ⟨a, rs, q, s, h, n, nd, r⟩ := h
    exact ⟨a, rs, q, s, k _ _ s h, n, nd, r.mono fun row x ⟨s', vs, h', r'⟩ => ⟨s', vs, k _ _ s' h', all_mono e r'⟩⟩
  | dk kvs => obtain ⟨a, kws, q, s, h, r⟩ := h; exact ⟨a, kws, q, s, k _ _ s h, r.mono fun _ _ z => ⟨z.1, Rp.mono e z.2⟩⟩
  | dt kvs => obtain ⟨a, kws, q, s, h, r⟩ := h; exact ⟨a, kws, q, s, k _ _ s h, r.mono fun _ _ z => ⟨z.1, Rp.mono e z.2⟩⟩
  | dd d => obtain ⟨G, g, r⟩ := h; exact ⟨G, fun a u z => ⟨(g a u z).1, k a u (g a u z).1 (g a u z).2⟩, r⟩
  | ob C fs g =>
    cases g with
    | none =>
      obtain ⟨a, dx, fvs, q, s, s', h, h', r⟩ := h
      exact ⟨a, dx, fvs, q, s, s', k _ _ s h, k _ _ s' h', r.mono fun _ _ z => ⟨z.1, Rp.mono e z.2⟩⟩
    | some g =>
      obtain ⟨a, dx, fvs, p, vs, q, s, s', s2, h, h', h2, r, r2⟩ := h
      exact ⟨a, dx, fvs, p, vs, q, s, s', s2, k _ _ s h, k _ _ s' h', k _ _ s2 h2, r.mono fun _ _ z => ⟨z.1, Rp.mono e z.2⟩, all_mono e r2⟩
theorem Own.sub {F H : Hp} {o : O} {v : V} {S T : Addr → Prop} (h : Own F H o v S) (k : ∀ a, S a → T a) : Own F H o v T := by
  cases o with
  | fz d => exact h
  | rg lo hi => exact h
  | sc K ns => exact h
  | kt K xs => exact h
  | ow ds => obtain ⟨a, vs, q, s, h, r⟩ := h; exact ⟨a, vs, q, k _ s, h, r⟩
  | ow2 rows =>
    obtain ⟨a, rs, q, s, h, n, nd, r⟩ := h
    exact ⟨a, rs, q, k _ s, h, n, nd, r.mono fun row x ⟨s', z⟩ => ⟨k _ s', z⟩⟩
  | tp rows =>
    obtain ⟨a, rs, q, s, h, n, nd, r⟩ := h
    exact ⟨a, rs, q, k _ s, h, n, nd, r.mono fun row x ⟨s', z⟩ => ⟨k _ s', z⟩⟩
  | dk kvs => obtain ⟨a, kws, q, s, h, r⟩ := h; exact ⟨a, kws, q, k _ s, h, r⟩
  | dt kvs => obtain ⟨a, kws, q, s, h, r⟩ := h; exact ⟨a, kws, q, k _ s, h, r⟩
  | dd d => obtain ⟨G, g, r⟩ := h; exact ⟨G, fun a u z => ⟨k a (g a u z).1, (g a u z).2⟩, r⟩
  | ob C fs g =>
    cases g with
    | none =>
      obtain ⟨a, dx, fvs, q, s, s', z⟩ := h
      exact ⟨a, dx, fvs, q, k _ s, k _ s', z⟩
    | some g =>
      obtain ⟨a, dx, fvs, p, vs, q, s, s', s2, z⟩ := h
      exact ⟨a, dx, fvs, p, vs, q, k _ s, k _ s', k _ s2, z⟩
/-- what the names hold stands where only new things came -/
theorem REnv.grow {F H F' H' : Hp} {σ : L2.St} {env : En} {Sl : Nat → Addr → Prop} (R : REnv F H σ env Sl) (a : Ex F F') (b : Ex H H') (d : Ex F' H') (c : ∀ x o, F' x = some o → F x = some o ∨ H x = none) : REnv F' H' σ env Sl := by
  refine ⟨d, R.len, fun i o h => ?_, R.dj, fun i x h => ?_⟩
  · obtain ⟨v, e, w⟩ := R.at_ i o h
    exact ⟨v, e, w.ext a fun x u _ q => b x u q⟩
  · obtain ⟨h1, o, h2⟩ := R.tr i x h
    refine ⟨?_, o, b _ _ h2⟩
    cases q : F' x with
    | none => rfl
    | some u =>
      rcases c x u q with z | z
      · rw [h1] at z; cases z
      · rw [h2] at z; cases z

/-! ### what an expression gives: data, or the very list that a name holds -/
inductive P where | val (d : PyData) | var (i : Nat) | k (K : PySem.W.Frag) (xs : List Str)
def RP (F : Hp) (σ : L2.St) (v : V) : P → Prop
  | .val d => Rp F d v
  | .var i => σ[i]? = some (some v)
  | .k K xs => ∃ a, v = .ref a ∧ SqT K F a (xs.map V.str)
theorem RP.mono {F F' : Hp} {σ : L2.St} {v : V} {p : P} (e : Ex F F') (h : RP F σ v p) : RP F' σ v p := by
  cases p with
  | val d => exact Rp.mono e h
  | var i => exact h
  | k K xs => obtain ⟨a, q, h⟩ := h; exact ⟨a, q, ex_sqT e h⟩
def vw (env : En) : P → Option PyData
  | .val d => some d
  | .var i => match env[i]? with
    | some (some (.fz d)) => some d
    | some (some (.ow ds)) => some (.list ds)
    | some (some (.ow2 rows)) => some (.list (rows.map .list))
    | _ => none
  | .k _ _ => none
/-- a list whose items are fixed -/
def sq (env : En) : P → Option (List PyData)
  | .val (.list ds) => some ds
  | .var i => match env[i]? with
    | some (some (.fz (.list ds))) => some ds
    | some (some (.ow ds)) => some ds
    | _ => none
  | _ => none
theorem vw_rp {F H : Hp} {σ : L2.St} {env : En} {Sl : Nat → Addr → Prop} {v : V} {p : P} {d : PyData} (R : REnv F H σ env Sl) (h : RP F σ v p) (e : vw env p = some d) : Rp H d v := by
  cases p with
  | val d' =>
    have e' : some d' = some d := e
    cases e'
    exact Rp.mono R.ex h
  | var i =>
    simp only [vw] at e
    split at e
    · rename_i d' he
      cases e
      obtain ⟨v', e1, w⟩ := R.at_ i _ he
      rw [show σ[i]? = some (some v) from h] at e1
      cases e1
      exact Rp.mono R.ex w
    · rename_i ds he
      cases e
      obtain ⟨v', e1, a, vs, q, s, hH, r⟩ := R.at_ i _ he
      rw [show σ[i]? = some (some v) from h] at e1
      cases e1
      exact rp_list.mpr ⟨a, vs, q, hH, all_mono R.ex r⟩
    · rename_i rows he
      cases e
      obtain ⟨v', e1, a, rs, q, s, hH, n, nd, r⟩ := R.at_ i _ he
      rw [show σ[i]? = some (some v) from h] at e1
      cases e1
      refine rp_list.mpr ⟨a, _, q, hH, ?_⟩
      clear hH n nd s he h
      induction r with
      | nil => exact .nil
      | cons x t ih =>
        obtain ⟨_, vs, h1, h2⟩ := x
        exact .cons (rp_list.mpr ⟨_, vs, rfl, h1, all_mono R.ex h2⟩) ih
    · cases e
  | k K xs => cases e
theorem vw_dp {K : PySem.W.Frag} {F H : Hp} {σ : L2.St} {env : En} {Sl : Nat → Addr → Prop} {v : V} {p : P} {d : PyData} (R : REnv F H σ env Sl) (h : RP F σ v p) (e : vw env p = some d) (c : d.canLay0 = true) : Dp K H v d := Rp.dp (Ex.refl H) (vw_rp R h e) c
theorem sq_of {F H : Hp} {σ : L2.St} {env : En} {Sl : Nat → Addr → Prop} {v : V} {p : P} {ds : List PyData} (R : REnv F H σ env Sl) (h : RP F σ v p) (e : sq env p = some ds) : ∃ a vs, v = .ref a ∧ H a = some (.lst vs) ∧ All2 (Rp F) ds vs := by
  unfold sq at e
  split at e
  · cases e
    obtain ⟨a, vs, q, h1, h2⟩ := rp_list.mp h
    exact ⟨a, vs, q, R.ex _ _ h1, h2⟩
  · rename_i i
    split at e
    · rename_i ds' he
      cases e
      obtain ⟨v', e1, w⟩ := R.at_ i _ he
      rw [show σ[i]? = some (some v) from h] at e1
      cases e1
      obtain ⟨a, vs, q, h1, h2⟩ := rp_list.mp w
      exact ⟨a, vs, q, R.ex _ _ h1, h2⟩
    · rename_i ds' he
      cases e
      obtain ⟨v', e1, a, vs, q, s, hH, r⟩ := R.at_ i _ he
      rw [show σ[i]? = some (some v) from h] at e1
      cases e1
      exact ⟨a, vs, q, hH, r⟩
    · cases e
  · cases e
end Tr
namespace Tr
open PySem PySem.Spec PyProof.Rows L2

/-! ### a held list is let go: it never changes from now on -/
def fzP (env : En) : P → Option (PyData × En)
  | .val d => some (d, env)
  | .var i => match env[i]? with
    | some (some (.fz d)) => some (d, env)
    | some (some (.ow ds)) => some (.list ds, env.set i (some (.fz (.list ds))))
    | some (some (.ow2 rows)) => some (.list (rows.map .list), env.set i (some (.fz (.list (rows.map .list)))))
    | _ => none
  | .k _ _ => none
theorem set_at {α : Type} {l : List α} {i j : Nat} {a b : α} (h : (l.set i a)[j]? = some b) : (j = i ∧ b = a ∧ i < l.length) ∨ (j ≠ i ∧ l[j]? = some b) := by
  by_cases e : j = i
  · subst e
    rw [List.getElem?_set] at h
    simp only [if_true] at h
    split at h
    · rename_i hl
      exact .inl ⟨rfl, (Option.some.inj h).symm, hl⟩
    · cases h
  · rw [List.getElem?_set_ne (Ne.symm e)] at h
    exact .inr ⟨e, h⟩
open Classical in
/-- what the places at S hold is fixed -/
noncomputable def fixed (F H : Hp) (S : Addr → Prop) : Hp := fun b => if S b then H b else F b
theorem fixed_in {F H : Hp} {S : Addr → Prop} {b : Addr} (h : S b) : fixed F H S b = H b := by unfold fixed; rw [if_pos h]
theorem fixed_out {F H : Hp} {S : Addr → Prop} {b : Addr} (h : ¬ S b) : fixed F H S b = F b := by unfold fixed; rw [if_neg h]
/-- the data of a held thing, as a list that is let go -/
def O.dat : O → Option PyData
  | .fz d => some d
  | .ow ds => some (.list ds)
  | .ow2 rows => some (.list (rows.map .list))
  | .rg _ _ => none
  | .sc _ _ => none
  | .kt _ _ => none
  | .ob _ _ _ => none
  | .tp rows => some (.tuple (rows.map .list))
  | .dk _ => none
  | .dt _ => none
  | .dd d => some d
theorem Own.fix {F H : Hp} {o : O} {v : V} {S : Addr → Prop} {d : PyData} (h : Own F H o v S) (tr : ∀ a, S a → F a = none) (e : o.dat = some d) : Rp (fixed F H S) d v := by
  have ex : Ex F (fixed F H S) := fun a u q => by
    rw [fixed_out (fun z => by rw [tr a z] at q; cases q)]
    exact q
  cases o with
  | fz d' => cases e; exact Rp.mono ex h
  | rg _ _ => cases e
  | sc _ _ => cases e
  | kt _ _ => cases e
  | ow ds =>
    cases e
    obtain ⟨a, vs, q, s, hH, r⟩ := h
    exact rp_list.mpr ⟨a, vs, q, by rw [fixed_in s]; exact hH, all_mono ex r⟩
  | ow2 rows =>
    cases e
    obtain ⟨a, rs, q, s, hH, n, nd, r⟩ := h
    refine rp_list.mpr ⟨a, _, q, by rw [fixed_in s]; exact hH, ?_⟩
    clear hH n nd
    induction r with
    | nil => exact .nil
    | cons x t ih =>
      obtain ⟨s', vs, h1, h2⟩ := x
      exact .cons (rp_list.mpr ⟨_, vs, rfl, by rw [fixed_in s']; exact h1, all_mono ex h2⟩) ih
  | ob _ _ _ => cases e
  | dk _ => cases e
  | dt _ => cases e
  | dd d =>
    cases e
    obtain ⟨G, g, r⟩ := h
    exact Rp.mono (fun a u z => by rw [fixed_in (g a u z).1]; exact (g a u z).2) r
  | tp rows =>
    cases e
    obtain ⟨a, rs, q, s, hH, n, nd, r⟩ := h
    refine rp_tuple.mpr ⟨a, _, q, by rw [fixed_in s]; exact hH, ?_⟩
    clear hH n nd
    induction r with
    | nil => exact .nil
    | cons x t ih =>
      obtain ⟨s', vs, h1, h2⟩ := x
      exact .cons (rp_list.mpr ⟨_, vs, rfl, by rw [fixed_in s']; exact h1, all_mono ex h2⟩) ih
/-- the set of the place i is let go -/
def lose (Sl : Nat → Addr → Prop) (i : Nat) : Nat → Addr → Prop := fun j a => j ≠ i ∧ Sl j a
theorem REnv.fix {F H : Hp} {σ : L2.St} {env : En} {Sl : Nat → Addr → Prop} {i : Nat} {o : O} {v : V} {d : PyData} (R : REnv F H σ env Sl) (hi : env[i]? = some (some o)) (hv : σ[i]? = some (some v))
    (e : o.dat = some d) :
    Step F H Sl (fixed F H (Sl i)) H (lose Sl i) ∧ REnv (fixed F H (Sl i)) H σ (env.set i (some (.fz d))) (lose Sl i) ∧ Rp (fixed F H (Sl i)) d v := by
  have ex : Ex F (fixed F H (Sl i)) := fun a u q => by
    rw [fixed_out (fun z => by rw [(R.tr i a z).1] at q; cases q)]
    exact q
  obtain ⟨v', e1, w⟩ := R.at_ i _ hi
  rw [hv] at e1
  cases e1
  have rp := w.fix (fun a s => (R.tr i a s).1) e
  refine ⟨⟨ex, fun _ _ h _ => h, fun _ _ h => ⟨_, h⟩, fun j b h => .inl h.2, fun b o h => ?_⟩, ⟨fun b u q => ?_, by rw [List.length_set]; exact R.len, fun j u h => ?_, fun j k a x y => R.dj j k a x.2 y.2, fun j a x => ?_⟩, rp⟩
  · by_cases z : Sl i b
    · exact .inr (.inr ⟨i, z⟩)
    · rw [fixed_out z] at h
      exact .inl h
  · by_cases z : Sl i b
    · rw [fixed_in z] at q
      exact q
    · rw [fixed_out z] at q
      exact R.ex _ _ q
  · rcases set_at h with ⟨rfl, e2, _⟩ | ⟨ne, h'⟩
    · cases e2
      exact ⟨v, hv, rp⟩
    · obtain ⟨v2, e2, w2⟩ := R.at_ j u h'
      exact ⟨v2, e2, (w2.ext ex fun _ _ _ q => q).sub fun a s => ⟨ne, s⟩⟩
  · obtain ⟨h1, h2⟩ := R.tr j a x.2
    refine ⟨?_, h2⟩
    rw [fixed_out fun z => x.1 (R.dj j i a x.2 z)]
    exact h1
theorem fz_ok {F H : Hp} {σ : L2.St} {env env' : En} {Sl : Nat → Addr → Prop} {v : V} {p : P} {d : PyData} (R : REnv F H σ env Sl) (h : RP F σ v p) (e : fzP env p = some (d, env')) :
    ∃ F' Sl', Step F H Sl F' H Sl' ∧ REnv F' H σ env' Sl' ∧ Rp F' d v := by
  cases p with
  | val d' =>
    simp only [fzP] at e
    cases e
    exact ⟨F, Sl, Step.refl, R, h⟩
  | var i =>
    have hv : σ[i]? = some (some v) := h
    simp only [fzP] at e
    split at e
    · rename_i d' he
      cases e
      obtain ⟨v', e1, w⟩ := R.at_ i _ he
      rw [hv] at e1
      cases e1
      exact ⟨F, Sl, Step.refl, R, w⟩
    · rename_i ds he
      cases e
      obtain ⟨a, b, c⟩ := R.fix he hv rfl
      exact ⟨_, _, a, b, c⟩
    · rename_i rows he
      cases e
      obtain ⟨a, b, c⟩ := R.fix he hv rfl
      exact ⟨_, _, a, b, c⟩
    · cases e
  | k K xs => cases e

/-! ### readings and plain functions -/
/-- a reading t keeps to the plain function m; pu: nothing is let go, nothing changes -/
def RG {ρ α : Type} (pu : Bool) (rel : Hp → L2.St → ρ → α → Prop) (t : L2.St → Hp → (ρ → Hp → Prop) → Prop) (m : En → Option (α × En)) : Prop :=
  ∀ F H σ env Sl, REnv F H σ env Sl → ∀ a env', m env = some (a, env') → ∀ Q : ρ → Hp → Prop, (∀ r F' H' Sl', Step F H Sl F' H' Sl' → (pu = true → env' = env ∧ Ex H H' ∧ Sl' = Sl) → REnv F' H' σ env' Sl' → rel F' σ r a → Q r H') → t σ H Q
def Mono {ρ α : Type} (rel : Hp → L2.St → ρ → α → Prop) : Prop := ∀ F F' σ r a, Ex F F' → rel F σ r a → rel F' σ r a
abbrev ME := En → Option (P × En)
abbrev MT := En → Option (Bool × En)
abbrev MA := En → Option (List P × En)
def relP : Hp → L2.St → V → P → Prop := RP
def relB : Hp → L2.St → Bool → Bool → Prop := fun _ _ b c => b = c
def relA : Hp → L2.St → List V → List P → Prop := fun F σ vs ps => All2 (fun p v => RP F σ v p) ps vs
theorem monoP : Mono relP := fun _ _ _ _ _ e h => RP.mono e h
abbrev RE (pu : Bool) (t : TE) (m : ME) : Prop := RG pu relP t m
abbrev RT (pu : Bool) (t : TT) (m : MT) : Prop := RG pu relB t m
abbrev RA (pu : Bool) (t : TA) (m : MA) : Prop := RG pu relA t m
/-- one after the other -/
def bnd {α β : Type} (m : En → Option (α × En)) (k : α → En → Option (β × En)) : En → Option (β × En) := fun env => match m env with
  | some (a, e) => k a e
  | none => none
theorem bnd_of {α β : Type} {m : En → Option (α × En)} {k : α → En → Option (β × En)} {env e' : En} {b : β} (h : bnd m k env = some (b, e')) : ∃ a e, m env = some (a, e) ∧ k a e = some (b, e') := by
  unfold bnd at h
  split at h
  · rename_i a e he
    exact ⟨a, e, he, h⟩
  · cases h
theorem bnd_eq {α β : Type} {m : En → Option (α × En)} {k : α → En → Option (β × En)} {env e : En} {a : α} (h : m env = some (a, e)) : bnd m k env = k a e := by
  unfold bnd
  rw [h]
section
variable {ρ ρ' ρ'' α β γ : Type} {rel : Hp → L2.St → ρ → α → Prop} {rel' : Hp → L2.St → ρ' → β → Prop} {rel'' : Hp → L2.St → ρ'' → γ → Prop} {pu pv : Bool}
theorem pu_step {F H F1 H1 F2 H2 : Hp} {env e1 e2 : En} {Sl Sl1 Sl2 : Nat → Addr → Prop} (a : pu = true → e1 = env ∧ Ex H H1 ∧ Sl1 = Sl) (b : pv = true → e2 = e1 ∧ Ex H1 H2 ∧ Sl2 = Sl1) : (pu && pv) = true → e2 = env ∧ Ex H H2 ∧ Sl2 = Sl := fun h => by
  rw [Bool.and_eq_true] at h
  obtain ⟨a0, a1, a2⟩ := a h.1
  obtain ⟨b0, b1, b2⟩ := b h.2
  exact ⟨b0.trans a0, a1.trans b1, b2.trans a2⟩
/-- a last step that only adds new things -/
theorem rg_fin {t : L2.St → Hp → (ρ → Hp → Prop) → Prop} {k : ρ → Hp → (ρ' → Hp → Prop) → Prop} {m : En → Option (α × En)} {g : En → α → Option β} (h : RG pu rel t m)
    (hk : ∀ F H σ env Sl r a b, REnv F H σ env Sl → rel F σ r a → g env a = some b → ∀ Q : ρ' → Hp → Prop, (∀ v F' H', Ex F F' → Ex H H' → Ex F' H' → (∀ b o, F' b = some o → F b = some o ∨ H b = none) → rel' F' σ v b → Q v H') → k r H Q) :
    RG pu rel' (fun σ H Q => t σ H fun r H1 => k r H1 Q) (bnd m fun a e => (g e a).map fun b => (b, e)) := by
  intro F H σ env Sl R b env' e Q q
  obtain ⟨a, e1, h1, h2⟩ := bnd_of e
  cases h3 : g e1 a with
  | none => rw [h3] at h2; cases h2
  | some b' =>
    rw [h3] at h2
    cases h2
    refine h F H σ env Sl R a _ h1 _ fun r F1 H1 Sl1 s1 pu1 R1 r1 => ?_
    refine hk F1 H1 σ _ Sl1 r a _ R1 r1 h3 Q fun v F' H' x y z n rr => ?_
    refine q v F' H' Sl1 (s1.trans (Step.grow x y n)) (fun hp => ?_) (R1.grow x y z n) rr
    obtain ⟨x1, x2, x3⟩ := pu1 hp
    exact ⟨x1, x2.trans y, x3⟩
/-- a pair, from the left -/
theorem rg_pair {t : L2.St → Hp → (ρ → Hp → Prop) → Prop} {u : L2.St → Hp → (ρ' → Hp → Prop) → Prop} {m : En → Option (α × En)} {n : En → Option (β × En)} (h : RG pu rel t m) (h' : RG pv rel' u n) (mo : Mono rel) :
    RG (pu && pv) (fun F σ (r : ρ × ρ') (a : α × β) => rel F σ r.1 a.1 ∧ rel' F σ r.2 a.2) (fun σ H Q => t σ H fun x H1 => u σ H1 fun y H2 => Q (x, y) H2) (bnd m fun a e => bnd n (fun b e2 => some ((a, b), e2)) e) := by
  intro F H σ env Sl R ab env' e Q q
  obtain ⟨a, e1, h1, h2⟩ := bnd_of e
  obtain ⟨b, e2, h3, h4⟩ := bnd_of h2
  cases h4
  refine h F H σ env Sl R a _ h1 _ fun r F1 H1 Sl1 s1 pu1 R1 r1 => ?_
  refine h' F1 H1 σ e1 Sl1 R1 b _ h3 _ fun r' F2 H2 Sl2 s2 pu2 R2 r2 => ?_
  exact q (r, r') F2 H2 Sl2 (s1.trans s2) (pu_step (F := F) (F1 := F1) (F2 := F2) pu1 pu2) R2 ⟨mo _ _ _ _ _ s2.exF r1, r2⟩
end
section
variable {pu pv : Bool} {t u ta tb : TE} {m ma mb : ME}
/-- a name -/
def mVar (i : Nat) : ME := fun env => match env[i]? with
  | some (some (.fz d)) => some (.val d, env)
  | some (some (.ow _)) => some (.var i, env)
  | some (some (.ow2 _)) => some (.var i, env)
  | some (some (.ob _ _ _)) => some (.var i, env)
  | some (some (.kt K xs)) => some (.k K xs, env)
  | _ => none
theorem re_var {i : Nat} : RE true (tVar i) (mVar i) := by
  intro F H σ env Sl R p env' e Q q
  unfold mVar at e
  split at e
  · rename_i d he
    cases e
    obtain ⟨v, e1, w⟩ := R.at_ i _ he
    exact ⟨v, e1, q v F H Sl Step.refl (fun _ => ⟨rfl, Ex.refl H, rfl⟩) R w⟩
  · rename_i ds he
    cases e
    obtain ⟨v, e1, w⟩ := R.at_ i _ he
    exact ⟨v, e1, q v F H Sl Step.refl (fun _ => ⟨rfl, Ex.refl H, rfl⟩) R e1⟩
  · rename_i ds he
    cases e
    obtain ⟨v, e1, w⟩ := R.at_ i _ he
    exact ⟨v, e1, q v F H Sl Step.refl (fun _ => ⟨rfl, Ex.refl H, rfl⟩) R e1⟩
  · rename_i he
    cases e
    obtain ⟨v, e1, w⟩ := R.at_ i _ he
    exact ⟨v, e1, q v F H Sl Step.refl (fun _ => ⟨rfl, Ex.refl H, rfl⟩) R e1⟩
  · rename_i K xs he
    cases e
    obtain ⟨v, e1, w⟩ := R.at_ i _ he
    exact ⟨v, e1, q v F H Sl Step.refl (fun _ => ⟨rfl, Ex.refl H, rfl⟩) R w⟩
  · cases e
/-- a constant -/
def mC (d : PyData) : ME := fun env => some (.val d, env)
theorem re_c {v : V} {d : PyData} (h : ∀ F, Rp F d v) : RE true (tC v) (mC d) := by
  intro F H σ env Sl R p env' e Q q
  cases e
  exact q v F H Sl Step.refl (fun _ => ⟨rfl, Ex.refl H, rfl⟩) R (h F)
theorem re_int {i : Int} : RE true (tC (.int i)) (mC (.int i)) := re_c fun _ => rfl
theorem re_bl {b : Bool} : RE true (tC (.bl b)) (mC (.bool b)) := re_c fun _ => rfl
/-- a plain function of two operands -/
def mBin (g : En → P → P → Option P) (ma mb : ME) : ME := bnd ma fun p e => bnd mb (fun q e2 => (g e2 p q).map fun r => (r, e2)) e
def BinK (k : V → V → Hp → VK → Prop) (g : En → P → P → Option P) : Prop := ∀ F H σ env Sl x y p1 p2 p, REnv F H σ env Sl → RP F σ x p1 → RP F σ y p2 → g env p1 p2 = some p → ∀ Q : VK,
  (∀ v F' H', Ex F F' → Ex H H' → Ex F' H' → (∀ b o, F' b = some o → F b = some o ∨ H b = none) → RP F' σ v p → Q v H') → k x y H Q
theorem re_bin {k : V → V → Hp → VK → Prop} {g : En → P → P → Option P} (ha : RE pu ta ma) (hb : RE pv tb mb) (hk : BinK k g) : RE (pu && pv) (tOp k ta tb) (mBin g ma mb) := by
  have h := rg_fin (rel' := relP) (k := fun r H Q => k r.1 r.2 H Q) (g := fun env (ab : P × P) => g env ab.1 ab.2) (rg_pair ha hb monoP) (fun F H σ env Sl r a b R rr e Q q => hk F H σ env Sl r.1 r.2 a.1 a.2 b R rr.1 rr.2 e Q q)
  intro F H σ env Sl R p env' e
  refine h F H σ env Sl R p env' ?_
  unfold mBin at e
  obtain ⟨a, e1, h1, h2⟩ := bnd_of e
  obtain ⟨b, e2, h3, h4⟩ := bnd_of h2
  rw [bnd_eq (a := (a, b)) (e := e2) (by rw [bnd_eq h1, bnd_eq h3])]
  exact h4
def mUn (g : En → P → Option P) (ma : ME) : ME := bnd ma fun p e => (g e p).map fun r => (r, e)
def UnK (k : V → Hp → VK → Prop) (g : En → P → Option P) : Prop := ∀ F H σ env Sl x p1 p, REnv F H σ env Sl → RP F σ x p1 → g env p1 = some p → ∀ Q : VK,
  (∀ v F' H', Ex F F' → Ex H H' → Ex F' H' → (∀ b o, F' b = some o → F b = some o ∨ H b = none) → RP F' σ v p → Q v H') → k x H Q
theorem re_un {k : V → Hp → VK → Prop} {g : En → P → Option P} (ha : RE pu ta ma) (hk : UnK k g) : RE pu (tUn k ta) (mUn g ma) := rg_fin (rel := relP) (rel' := relP) (k := k) ha hk
def mFn (g : En → List P → Option P) (ma : MA) : ME := bnd ma fun p e => (g e p).map fun r => (r, e)
def FnK (k : List V → Hp → VK → Prop) (g : En → List P → Option P) : Prop := ∀ F H σ env Sl xs ps p, REnv F H σ env Sl → relA F σ xs ps → g env ps = some p → ∀ Q : VK,
  (∀ v F' H', Ex F F' → Ex H H' → Ex F' H' → (∀ b o, F' b = some o → F b = some o ∨ H b = none) → RP F' σ v p → Q v H') → k xs H Q
theorem re_fn {k : List V → Hp → VK → Prop} {g : En → List P → Option P} {ta : TA} {ma : MA} (ha : RA pu ta ma) (hk : FnK k g) : RE pu (tCB k ta) (mFn g ma) := rg_fin (rel := relA) (rel' := relP) (k := k) ha hk
/-! arguments -/
def mNil : MA := fun env => some ([], env)
theorem ra_nil : RA true tNil mNil := by
  intro F H σ env Sl R p env' e Q q
  cases e
  exact q [] F H Sl Step.refl (fun _ => ⟨rfl, Ex.refl H, rfl⟩) R .nil
def mCons (ma : ME) (mb : MA) : MA := bnd ma fun p e => bnd mb (fun ps e2 => some (p :: ps, e2)) e
theorem ra_cons {tr : TA} {mr : MA} (ha : RE pu ta ma) (hb : RA pv tr mr) : RA (pu && pv) (tCons ta tr) (mCons ma mr) := by
  intro F H σ env Sl R ps env' e Q q
  obtain ⟨a, e1, h1, h2⟩ := bnd_of e
  obtain ⟨b, e2, h3, h4⟩ := bnd_of h2
  cases h4
  refine ha F H σ env Sl R a _ h1 _ fun r F1 H1 Sl1 s1 pu1 R1 r1 => ?_
  refine hb F1 H1 σ e1 Sl1 R1 b _ h3 _ fun r' F2 H2 Sl2 s2 pu2 R2 r2 => ?_
  exact q (r :: r') F2 H2 Sl2 (s1.trans s2) (pu_step (F := F) (F1 := F1) (F2 := F2) pu1 pu2) R2 (.cons (r1.mono s2.exF) r2)
end
end Tr
namespace Tr
open PySem PySem.Spec PyProof.Rows L2

/-! ### whole numbers -/
def gI (C : Int → Int → Bool) (f : Int → Int → PyData) : En → P → P → Option P
  | _, .val (.int i), .val (.int j) => if C i j then some (.val (f i j)) else none
  | _, _, _ => none
def gI0 (f : Int → Int → PyData) : En → P → P → Option P
  | _, .val (.int i), .val (.int j) => some (.val (f i j))
  | _, _, _ => none
theorem pr_val {F : Hp} {σ : L2.St} {v : V} {d : PyData} (h : RP F σ v (.val d)) : Rp F d v := h
theorem rp_int {F : Hp} {i : Int} {v : V} (h : Rp F (.int i) v) : v = .int i := h
theorem pint {F : Hp} {σ : L2.St} {i : Int} {v : V} (h : RP F σ v (.val (.int i))) : v = .int i := h
theorem pbool {F : Hp} {σ : L2.St} {i : Bool} {v : V} (h : RP F σ v (.val (.bool i))) : v = .bl i := h
theorem pstr {F : Hp} {σ : L2.St} {i : Str} {v : V} (h : RP F σ v (.val (.str i))) : v = .str i := h
theorem rp_bool {F : Hp} {b : Bool} {v : V} (h : Rp F (.bool b) v) : v = .bl b := h
theorem rp_str {F : Hp} {x : Str} {v : V} (h : Rp F (.str x) v) : v = .str x := h
theorem rp_none {F : Hp} {v : V} (h : Rp F .none v) : v = .non := h
theorem bin_I {C : Int → Int → Prop} {D : Int → Int → Bool} {g : Int → Int → V} {f : Int → Int → PyData} (hc : ∀ i j, D i j = true → C i j) (hf : ∀ i j F, Rp F (f i j) (g i j)) : BinK (rI C g) (gI D f) := by
  intro F H σ env Sl x y p1 p2 p R h1 h2 e Q q
  unfold gI at e
  split at e
  · rename_i i j
    split at e
    · rename_i hd
      cases e
      exact ⟨i, j, pint h1, pint h2, hc i j hd, q _ F H (Ex.refl F) (Ex.refl H) R.ex (fun _ _ z => .inl z) (hf i j F)⟩
    · cases e
  · cases e
theorem bin_I0 {g : Int → Int → V} {f : Int → Int → PyData} (hf : ∀ i j F, Rp F (f i j) (g i j)) : BinK (rI0 g) (gI0 f) := by
  intro F H σ env Sl x y p1 p2 p R h1 h2 e Q q
  unfold gI0 at e
  split at e
  · rename_i i j
    cases e
    exact ⟨i, j, pint h1, pint h2, q _ F H (Ex.refl F) (Ex.refl H) R.ex (fun _ _ z => .inl z) (hf i j F)⟩
  · cases e
theorem b_add : BinK (rI0 fun i j => .int (i + j)) (gI0 fun i j => .int (i + j)) := bin_I0 fun _ _ _ => rfl
theorem b_sub : BinK (rI0 fun i j => .int (i - j)) (gI0 fun i j => .int (i - j)) := bin_I0 fun _ _ _ => rfl
theorem b_mul : BinK (rI CMulW fun i j => .int (i * j)) (gI (fun i j => decide (i.natAbs.log2 + j.natAbs.log2 < 1000000)) fun i j => .int (i * j)) := bin_I (fun i j h => show i.natAbs.log2 + j.natAbs.log2 < 1000000 from of_decide_eq_true h) fun _ _ _ => rfl
theorem b_fdiv : BinK (rI CDivN fun i j => .int (i.fdiv j)) (gI (fun _ j => decide (j ≠ 0 ∧ j.natAbs < 1073741824)) fun i j => .int (i.fdiv j)) := bin_I (fun _ j h => show j ≠ 0 ∧ j.natAbs < 1073741824 from of_decide_eq_true h) fun _ _ _ => rfl
theorem b_mod : BinK (rI (fun _ j => j ≠ 0) fun i j => .int (i.fmod j)) (gI (fun _ j => decide (j ≠ 0)) fun i j => .int (i.fmod j)) := bin_I (fun _ _ h => of_decide_eq_true h) fun _ _ _ => rfl
theorem b_lt : BinK (rI0 fun i j => .bl (decide (i < j))) (gI0 fun i j => .bool (decide (i < j))) := bin_I0 fun _ _ _ => rfl
theorem b_le : BinK (rI0 fun i j => .bl (decide (i ≤ j))) (gI0 fun i j => .bool (decide (i ≤ j))) := bin_I0 fun _ _ _ => rfl
theorem b_gt : BinK (rI0 fun i j => .bl (decide (j < i))) (gI0 fun i j => .bool (decide (j < i))) := bin_I0 fun _ _ _ => rfl
theorem b_ge : BinK (rI0 fun i j => .bl (decide (j ≤ i))) (gI0 fun i j => .bool (decide (j ≤ i))) := bin_I0 fun _ _ _ => rfl
/-! ### ==, != of data -/
def gEq (neg : Bool) : En → P → P → Option P := fun env p q => match vw env p, vw env q with
  | some d, some e => if SeqAt.shaped d && SeqAt.shaped e then some (.val (.bool (neg ^^ PyData.eqv d e))) else none
  | _, _ => none
theorem b_eq {K : PySem.W.Frag} : BinK (rEqD K) (gEq false) := by
  intro F H σ env Sl x y p1 p2 p R h1 h2 e Q q
  unfold gEq at e
  split at e
  · rename_i d d' e1 e2
    split at e
    · rename_i hs
      cases e
      rw [Bool.and_eq_true] at hs
      exact ⟨d, d', vw_dp R h1 e1 (SeqAt.canLay_of_shaped hs.1), vw_dp R h2 e2 (SeqAt.canLay_of_shaped hs.2), hs.1, hs.2, q _ F H (Ex.refl F) (Ex.refl H) R.ex (fun _ _ z => .inl z) (by show V.bl _ = V.bl _; rw [Bool.false_xor])⟩
    · cases e
  · cases e
theorem b_ne {K : PySem.W.Frag} : BinK (rNeD K) (gEq true) := by
  intro F H σ env Sl x y p1 p2 p R h1 h2 e Q q
  unfold gEq at e
  split at e
  · rename_i d d' e1 e2
    split at e
    · rename_i hs
      cases e
      rw [Bool.and_eq_true] at hs
      exact ⟨d, d', vw_dp R h1 e1 (SeqAt.canLay_of_shaped hs.1), vw_dp R h2 e2 (SeqAt.canLay_of_shaped hs.2), hs.1, hs.2, q _ F H (Ex.refl F) (Ex.refl H) R.ex (fun _ _ z => .inl z) (by show V.bl _ = V.bl _; rw [Bool.true_xor])⟩
    · cases e
  · cases e
/-! ### x is None -/
/-! ### an item, a cut -/
/-- a list's or a tuple's fixed items -/
def sqT (env : En) : P → Option (List PyData)
  | .val (.tuple ds) => some ds
  | p => sq env p
theorem ixN_len {α β : Type} {as : List α} {bs : List β} (h : as.length = bs.length) (i : Int) : ixN as.length i = ixN bs.length i := by rw [h]
theorem atI_all {α β : Type} {R : α → β → Prop} {as : List α} {bs : List β} {i : Int} {a : α} (h : All2 R as bs) (e : atI as i = some a) : ∃ b, atI bs i = some b ∧ R a b := by
  unfold atI at e ⊢
  rw [← ixN_len h.len]
  cases q : ixN as.length i with
  | none => rw [q] at e; cases e
  | some j =>
    rw [q] at e
    exact h.get e
def gIx : En → P → P → Option P := fun env p q => match p, q with
  | .val (.str z), .val (.int i) => if z.length ≤ sizeLine then (atI z.cps.toList i).map fun c => .val (.str ⟨#[c]⟩) else none
  | p, .val (.int i) => (sqT env p).bind fun ds => (atI ds i).map .val
  | _, _ => none
theorem b_ix {K : PySem.W.Frag} : BinK (rIx K) gIx := by
  intro F H σ env Sl x y p1 p2 p R h1 h2 e Q q
  unfold gIx at e
  split at e
  · rename_i z i
    split at e
    · rename_i hz
      cases h3 : atI z.cps.toList i with
      | none => rw [h3] at e; cases e
      | some c =>
        rw [h3] at e
        cases e
        exact .inr (.inr ⟨z, i, c, pstr h1, pint h2, hz, h3, q _ F H (Ex.refl F) (Ex.refl H) R.ex (fun _ _ z => .inl z) rfl⟩)
    · cases e
  · rename_i i _
    cases h3 : sqT env p1 with
    | none => rw [h3] at e; cases e
    | some ds =>
      rw [h3] at e
      cases h4 : atI ds i with
      | none => simp only [Option.bind_some, h4] at e; cases e
      | some d =>
        simp only [Option.bind_some, h4, Option.map_some] at e
        cases e
        unfold sqT at h3
        split at h3
        · cases h3
          obtain ⟨a, vs, rfl, hH, r⟩ := rp_tuple.mp (pr_val h1)
          obtain ⟨v, hv, rv⟩ := atI_all r h4
          exact .inr (.inl ⟨a, vs, i, v, rfl, pint h2, SqT.of (R.ex _ _ hH), hv, q _ F H (Ex.refl F) (Ex.refl H) R.ex (fun _ _ z => .inl z) rv⟩)
        · obtain ⟨a, vs, rfl, hH, r⟩ := sq_of R h1 h3
          obtain ⟨v, hv, rv⟩ := atI_all r h4
          exact .inl ⟨a, vs, i, v, rfl, pint h2, SqL.of hH, hv, q _ F H (Ex.refl F) (Ex.refl H) R.ex (fun _ _ z => .inl z) rv⟩
  · cases e
/-- what comes new is fixed at once, or held -/
theorem new_lst {F H : Hp} {p : Addr} {vs : List V} {ds : List PyData} (ex : Ex F H) (hp : H p = none) (r : All2 (Rp F) ds vs) :
    Ex F (upd F p (.lst vs)) ∧ Ex H (upd H p (.lst vs)) ∧ Ex (upd F p (.lst vs)) (upd H p (.lst vs)) ∧ (∀ b o, upd F p (.lst vs) b = some o → F b = some o ∨ H b = none) ∧ Rp (upd F p (.lst vs)) (.list ds) (.ref p) := by
  have fp := ex.none hp
  refine ⟨Ex.new fp, Ex.new hp, fun b o h => ?_, fun b o h => ?_, rp_list.mpr ⟨p, vs, rfl, upd_same, all_mono (Ex.new fp) r⟩⟩
  · by_cases e : b = p
    · subst e; rw [upd_same] at h ⊢; exact h
    · rw [upd_ne e] at h ⊢; exact ex _ _ h
  · by_cases e : b = p
    · subst e; exact .inr hp
    · rw [upd_ne e] at h; exact .inl h
theorem new_tup {F H : Hp} {p : Addr} {vs : List V} {ds : List PyData} (ex : Ex F H) (hp : H p = none) (r : All2 (Rp F) ds vs) :
    Ex F (upd F p (.tup vs)) ∧ Ex H (upd H p (.tup vs)) ∧ Ex (upd F p (.tup vs)) (upd H p (.tup vs)) ∧ (∀ b o, upd F p (.tup vs) b = some o → F b = some o ∨ H b = none) ∧ Rp (upd F p (.tup vs)) (.tuple ds) (.ref p) := by
  have fp := ex.none hp
  refine ⟨Ex.new fp, Ex.new hp, fun b o h => ?_, fun b o h => ?_, rp_tuple.mpr ⟨p, vs, rfl, upd_same, all_mono (Ex.new fp) r⟩⟩
  · by_cases e : b = p
    · subst e; rw [upd_same] at h ⊢; exact h
    · rw [upd_ne e] at h ⊢; exact ex _ _ h
  · by_cases e : b = p
    · subst e; exact .inr hp
    · rw [upd_ne e] at h; exact .inl h
/-! a reading that ends in one new list -/
def RL (pu : Bool) (t : L2.St → Hp → (V → Hp → Prop) → Prop) (m : En → Option (List PyData × En)) : Prop :=
  ∀ F H σ env Sl, REnv F H σ env Sl → ∀ ds env', m env = some (ds, env') → ∀ Q : VK, (∀ p vs F' H' Sl', Step F H Sl F' H' Sl' → (pu = true → env' = env ∧ Ex H H' ∧ Sl' = Sl) → REnv F' H' σ env' Sl' → All2 (Rp F') ds vs → H' p = none → Q (.ref p) (upd H' p (.lst vs))) → t σ H Q
end Tr
namespace Tr
open PySem PySem.Spec PyProof.Rows L2
abbrev ML := En → Option (List PyData × En)
abbrev MO := En → Option (O × En)
/-- what a new thing is: of its own, apart from all that the names hold -/
structure New (F H0 H : Hp) (Sl : Nat → Addr → Prop) (o : O) (v : V) (T : Addr → Prop) : Prop where
  own : Own F H o v T
  dj : ∀ i a, T a → ¬ Sl i a
  tr : ∀ a, T a → F a = none ∧ ∃ u, H a = some u
  nw : ∀ a, T a → H0 a = none
def RO (t : TE) (m : MO) : Prop := ∀ F H σ env Sl, REnv F H σ env Sl → ∀ o env', m env = some (o, env') →
  ∀ Q : VK, (∀ v F' H' Sl' T, Step F H Sl F' H' Sl' → REnv F' H' σ env' Sl' → New F' H H' Sl' o v T → Q v H') → t σ H Q
def mLE (m : ML) : ME := bnd m fun ds e => some (.val (.list ds), e)
def mLO (m : ML) : MO := bnd m fun ds e => some (.ow ds, e)
theorem Step.tkb {F H F' H' : Hp} {Sl Sl' : Nat → Addr → Prop} (s : Step F H Sl F' H' Sl') {p : Addr} (h : H' p = none) : H p = none := by
  cases q : H p with
  | none => rfl
  | some o => obtain ⟨o', e⟩ := s.tk p o q; rw [e] at h; cases h
theorem re_l {pu : Bool} {t : TE} {m : ML} (h : RL pu t m) : RE pu t (mLE m) := by
  intro F H σ env Sl R p env' e Q q
  obtain ⟨ds, e1, h1, h2⟩ := bnd_of e
  cases h2
  refine h F H σ env Sl R ds _ h1 Q fun p vs F1 H1 Sl1 s1 pu1 R1 r np => ?_
  obtain ⟨x, y, z, n, rr⟩ := new_lst R1.ex np r
  refine q _ _ _ Sl1 (s1.trans (Step.grow x y n)) (fun hp => ?_) (R1.grow x y z n) rr
  obtain ⟨a, b, c⟩ := pu1 hp
  exact ⟨a, b.trans y, c⟩
theorem ro_l {pu : Bool} {t : TE} {m : ML} (h : RL pu t m) : RO t (mLO m) := by
  intro F H σ env Sl R o env' e Q q
  obtain ⟨ds, e1, h1, h2⟩ := bnd_of e
  cases h2
  refine h F H σ env Sl R ds _ h1 Q fun p vs F1 H1 Sl1 s1 pu1 R1 r np => ?_
  have ex : Ex H1 (upd H1 p (.lst vs)) := Ex.new np
  have n : ∀ b o, F1 b = some o → F1 b = some o ∨ H1 b = none := fun _ _ z => .inl z
  refine q _ F1 _ Sl1 (fun a => a = p) (s1.trans (Step.grow (Ex.refl F1) ex n)) (R1.grow (Ex.refl F1) ex (R1.ex.trans ex) n) ⟨⟨p, vs, rfl, rfl, upd_same, r⟩, fun i a e s => ?_, fun a e => ?_, fun a e => ?_⟩
  · subst e
    obtain ⟨_, o, z⟩ := R1.tr i a s
    rw [np] at z
    cases z
  · subst e
    exact ⟨R1.ex.none np, _, upd_same⟩
  · subst e
    exact s1.tkb np
/-- a plain function of two operands that makes a list -/
def mBinL (g : En → P → P → Option (List PyData)) (ma mb : ME) : ML := bnd ma fun p e => bnd mb (fun q e2 => (g e2 p q).map fun r => (r, e2)) e
def BinL (k : V → V → Hp → VK → Prop) (g : En → P → P → Option (List PyData)) : Prop := ∀ F H σ env Sl x y p1 p2 ds, REnv F H σ env Sl → RP F σ x p1 → RP F σ y p2 → g env p1 p2 = some ds → ∀ Q : VK,
  (∀ p vs, All2 (Rp F) ds vs → H p = none → Q (.ref p) (upd H p (.lst vs))) → k x y H Q
theorem rl_bin {pu pv : Bool} {ta tb : TE} {ma mb : ME} {k : V → V → Hp → VK → Prop} {g : En → P → P → Option (List PyData)} (ha : RE pu ta ma) (hb : RE pv tb mb) (hk : BinL k g) : RL (pu && pv) (tOp k ta tb) (mBinL g ma mb) := by
  intro F H σ env Sl R ds env' e Q q
  obtain ⟨a, e1, h1, h2⟩ := bnd_of e
  obtain ⟨b, e2, h3, h4⟩ := bnd_of h2
  cases h5 : g e2 a b with
  | none => rw [h5] at h4; cases h4
  | some ds' =>
    rw [h5] at h4
    cases h4
    refine ha F H σ env Sl R a _ h1 _ fun r F1 H1 Sl1 s1 pu1 R1 r1 => ?_
    refine hb F1 H1 σ e1 Sl1 R1 b _ h3 _ fun r' F2 H2 Sl2 s2 pu2 R2 r2 => ?_
    exact hk F2 H2 σ _ Sl2 r r' a b ds R2 (r1.mono s2.exF) r2 h5 Q fun p vs rr np => q p vs F2 H2 Sl2 (s1.trans s2) (pu_step (F := F) (F1 := F1) (F2 := F2) pu1 pu2) R2 rr np
def gCat : En → P → P → Option (List PyData) := fun env p q => match sq env p, sq env q with
  | some a, some b => if a.length + b.length ≤ sizeLine then some (a ++ b) else none
  | _, _ => none
theorem b_cat : BinL rCat gCat := by
  intro F H σ env Sl x y p1 p2 ds R h1 h2 e Q q
  unfold gCat at e
  split at e
  · rename_i a b ea eb
    split at e
    · rename_i hz
      cases e
      obtain ⟨l, vs, rfl, hl, r1⟩ := sq_of R h1 ea
      obtain ⟨l2, vs2, rfl, hl2, r2⟩ := sq_of R h2 eb
      exact ⟨l, l2, vs, vs2, rfl, rfl, hl, hl2, by rw [← r1.len, ← r2.len]; exact hz, fun p np => q p _ (r1.app r2) np⟩
    · cases e
  · cases e
def gRep : En → P → P → Option (List PyData) := fun env p q => match sq env p, q with
  | some a, .val (.int k) => if -(2 ^ 63) ≤ k ∧ k < 2 ^ 63 ∧ a.length * k.toNat ≤ sizeLine then some (List.replicate k.toNat a).flatten else none
  | _, _ => none
theorem b_rep : BinL rRep gRep := by
  intro F H σ env Sl x y p1 p2 ds R h1 h2 e Q q
  unfold gRep at e
  split at e
  · rename_i a k ea
    split at e
    · rename_i hz
      cases e
      obtain ⟨l, vs, rfl, hl, r1⟩ := sq_of R h1 ea
      exact ⟨l, k, vs, rfl, pint h2, hl, hz.1, hz.2.1, by rw [← r1.len]; exact hz.2.2, fun p np => q p _ (r1.rep _) np⟩
    · cases e
  · cases e
/-! ### a cut -/
abbrev MP := En → Option (Option Int × En)
def relO : Hp → L2.St → Option Int → Option Int → Prop := fun _ _ a b => a = b
abbrev RQ (pu : Bool) (t : TO) (m : MP) : Prop := RG pu relO t m
def mNoPart : MP := fun env => some (none, env)
theorem rq_none : RQ true tNoPart mNoPart := by
  intro F H σ env Sl R p env' e Q q
  cases e
  exact q _ F H Sl Step.refl (fun _ => ⟨rfl, Ex.refl H, rfl⟩) R rfl
def gPart : P → Option (Option Int)
  | .val (.int i) => some (some i)
  | _ => none
def mPart (ma : ME) : MP := bnd ma fun p e => (gPart p).map fun r => (r, e)
theorem rq_some {pu : Bool} {te : TE} {me : ME} (h : RE pu te me) : RQ pu (tPart te) (mPart me) :=
  rg_fin (rel := relP) (rel' := relO) (k := fun x H Q => ∃ i, x = .int i ∧ Q (some i) H) (g := fun _ p => gPart p) h fun F H σ env Sl r a b R rr e Q q => by
    unfold gPart at e
    split at e
    · cases e
      exact ⟨_, pint rr, q _ F H (Ex.refl F) (Ex.refl H) R.ex (fun _ _ z => .inl z) rfl⟩
    · cases e
def cutD (ds : List PyData) (lo hi : Option Int) : List PyData := (ds.drop (HT.sIx ds.length 0 lo)).take (HT.sIx ds.length ds.length hi - HT.sIx ds.length 0 lo)
def mSl (ma : ME) (ml mh : MP) : ML := bnd ma fun p e => bnd ml (fun lo e2 => bnd mh (fun hi e3 => (sq e3 p).map fun ds => (cutD ds lo hi, e3)) e2) e
theorem rl_sl {K : PySem.W.Frag} {pu pv pw : Bool} {te : TE} {tl th : TO} {me : ME} {ml mh : MP} (he : RE pu te me) (hl : RQ pv tl ml) (hh : RQ pw th mh) : RL (pu && pv && pw) (tSl (rSlL K) te tl th) (mSl me ml mh) := by
  intro F H σ env Sl R ds env' e Q q
  obtain ⟨p, e1, h1, h2⟩ := bnd_of e
  obtain ⟨lo, e2, h3, h4⟩ := bnd_of h2
  obtain ⟨hi, e3, h5, h6⟩ := bnd_of h4
  cases h7 : sq e3 p with
  | none => rw [h7] at h6; cases h6
  | some ds' =>
    rw [h7] at h6
    cases h6
    refine he F H σ env Sl R p _ h1 _ fun r F1 H1 Sl1 s1 pu1 R1 r1 => ?_
    refine hl F1 H1 σ e1 Sl1 R1 lo _ h3 _ fun r' F2 H2 Sl2 s2 pu2 R2 r2 => ?_
    cases r2
    refine hh F2 H2 σ e2 Sl2 R2 hi _ h5 _ fun r'' F3 H3 Sl3 s3 pu3 R3 r3 => ?_
    cases r3
    obtain ⟨a, vs, rfl, hH, rr⟩ := sq_of R3 (r1.mono (s2.exF.trans s3.exF)) h7
    refine ⟨a, vs, rfl, SqL.of hH, fun b nb => ?_⟩
    refine q b _ F3 H3 Sl3 (s1.trans (s2.trans s3)) (pu_step (F := F) (F1 := F2) (F2 := F3) (pu_step (F := F) (F1 := F1) (F2 := F2) pu1 pu2) pu3) R3 ?_ nb
    unfold cutD cutV
    rw [rr.len]
    exact (rr.drop _).take _
/-! ### displays -/
def fzPs (env : En) : List P → Option (List PyData × En)
  | [] => some ([], env)
  | p :: ps => match fzP env p with
    | some (d, e1) => match fzPs e1 ps with
      | some (ds, e2) => some (d :: ds, e2)
      | none => none
    | none => none
theorem fzPs_ok {H : Hp} {σ : L2.St} : ∀ {ps : List P} {F : Hp} {env env' : En} {Sl : Nat → Addr → Prop} {vs : List V} {ds : List PyData}, REnv F H σ env Sl → relA F σ vs ps → fzPs env ps = some (ds, env') →
    ∃ F' Sl', Step F H Sl F' H Sl' ∧ REnv F' H σ env' Sl' ∧ All2 (Rp F') ds vs
  | [], F, env, env', Sl, vs, ds, R, h, e => by
    cases e
    cases h
    exact ⟨F, Sl, Step.refl, R, .nil⟩
  | p :: ps, F, env, env', Sl, vs, ds, R, h, e => by
    unfold fzPs at e
    split at e
    · rename_i d e1 h1
      split at e
      · rename_i ds' e2 h2
        cases e
        cases h with
        | cons a b =>
          obtain ⟨F1, Sl1, s1, R1, r1⟩ := fz_ok R a h1
          obtain ⟨F2, Sl2, s2, R2, r2⟩ := fzPs_ok R1 (b.mono fun _ _ => RP.mono s1.exF) h2
          exact ⟨F2, Sl2, s1.trans s2, R2, .cons (Rp.mono s2.exF r1) r2⟩
      · cases e
    · cases e
/-- how many there are -/
def LenA (n : Nat) (m : MA) : Prop := ∀ env ps e, m env = some (ps, e) → ps.length = n
theorem len_nil : LenA 0 mNil := fun _ _ _ h => by cases h; rfl
theorem len_cons {n : Nat} {ma : ME} {mr : MA} (h : LenA n mr) : LenA (n + 1) (mCons ma mr) := fun env ps e hp => by
  obtain ⟨a, e1, h1, h2⟩ := bnd_of hp
  obtain ⟨b, e2, h3, h4⟩ := bnd_of h2
  cases h4
  rw [List.length_cons, h _ _ _ h3]
def mDs (ma : MA) : ML := bnd ma fun ps e => fzPs e ps
theorem rl_lst {pu : Bool} {n : Nat} {ta : TA} {ma : MA} (h : RA pu ta ma) (hl : LenA n ma) (hn : n ≤ sizeLine := by decide) : RL false (tLst ta) (mDs ma) := by
  intro F H σ env Sl R ds env' e Q q
  obtain ⟨ps, e1, h1, h2⟩ := bnd_of e
  refine h F H σ env Sl R ps _ h1 _ fun r F1 H1 Sl1 s1 pu1 R1 r1 => ?_
  obtain ⟨F2, Sl2, s2, R2, r2⟩ := fzPs_ok R1 r1 h2
  exact ⟨by rw [← r1.len, hl _ _ _ h1]; exact hn, fun p np => q p r F2 H1 Sl2 (s1.trans s2) (fun z => nomatch z) R2 r2 np⟩
/-! ### truth -/
section
variable {pu pv pw : Bool} {ta tb te : TE} {ma mb me : ME} {t u : TT} {m n : MT}
def gB : P → Option Bool
  | .val (.bool b) => some b
  | _ => none
def mT (ma : ME) : MT := bnd ma fun p e => (gB p).map fun r => (r, e)
theorem gB_ok {F : Hp} {σ : L2.St} {v : V} {p : P} {b : Bool} (h : RP F σ v p) (e : gB p = some b) : v = .bl b := by
  unfold gB at e
  split at e
  · cases e; exact pbool h
  · cases e
theorem rt_B (h : RE pu te me) : RT pu (L2.tB te) (mT me) :=
  rg_fin (rel := relP) (rel' := relB) (k := fun x H Q => ∃ c, x = .bl c ∧ Q c H) (g := fun _ p => gB p) h fun F H σ env Sl r a b R rr e Q q => ⟨b, gB_ok rr e, q _ F H (Ex.refl F) (Ex.refl H) R.ex (fun _ _ z => .inl z) rfl⟩
theorem rt_test (h : RE pu te me) : RT pu (tTest te) (mT me) :=
  rg_fin (rel := relP) (rel' := relB) (k := fun x H Q => ∃ c, x = .bl c ∧ Q c H) (g := fun _ p => gB p) h fun F H σ env Sl r a b R rr e Q q => ⟨b, gB_ok rr e, q _ F H (Ex.refl F) (Ex.refl H) R.ex (fun _ _ z => .inl z) rfl⟩
def mAnd (m n : MT) : MT := bnd m fun b e => match b with | true => n e | false => some (false, e)
def mOr (m n : MT) : MT := bnd m fun b e => match b with | true => some (true, e) | false => n e
def mNot (m : MT) : MT := bnd m fun b e => some (!b, e)
theorem rt_and (h : RT pu t m) (h' : RT pv u n) : RT (pu && pv) (tAnd t u) (mAnd m n) := by
  intro F H σ env Sl R b env' e Q q
  obtain ⟨b1, e1, h1, h2⟩ := bnd_of e
  refine h F H σ env Sl R b1 _ h1 _ fun r F1 H1 Sl1 s1 pu1 R1 r1 => ?_
  cases r1
  cases b1 with
  | true =>
    rw [if_pos rfl]
    exact h' F1 H1 σ e1 Sl1 R1 b _ h2 _ fun r' F2 H2 Sl2 s2 pu2 R2 r2 => q r' F2 H2 Sl2 (s1.trans s2) (pu_step (F := F) (F1 := F1) (F2 := F2) pu1 pu2) R2 r2
  | false =>
    cases h2
    rw [if_neg Bool.false_ne_true]
    exact q _ F1 H1 Sl1 s1 (fun hp => pu1 (Bool.and_eq_true _ _ ▸ hp).1) R1 rfl
theorem rt_or (h : RT pu t m) (h' : RT pv u n) : RT (pu && pv) (tOr t u) (mOr m n) := by
  intro F H σ env Sl R b env' e Q q
  obtain ⟨b1, e1, h1, h2⟩ := bnd_of e
  refine h F H σ env Sl R b1 _ h1 _ fun r F1 H1 Sl1 s1 pu1 R1 r1 => ?_
  cases r1
  cases b1 with
  | false =>
    rw [if_neg Bool.false_ne_true]
    exact h' F1 H1 σ e1 Sl1 R1 b _ h2 _ fun r' F2 H2 Sl2 s2 pu2 R2 r2 => q r' F2 H2 Sl2 (s1.trans s2) (pu_step (F := F) (F1 := F1) (F2 := F2) pu1 pu2) R2 r2
  | true =>
    cases h2
    rw [if_pos rfl]
    exact q _ F1 H1 Sl1 s1 (fun hp => pu1 (Bool.and_eq_true _ _ ▸ hp).1) R1 rfl
theorem rt_not (h : RT pu t m) : RT pu (tNot t) (mNot m) := by
  intro F H σ env Sl R b env' e Q q
  obtain ⟨b1, e1, h1, h2⟩ := bnd_of e
  cases h2
  refine h F H σ env Sl R b1 _ h1 _ fun r F1 H1 Sl1 s1 pu1 R1 r1 => ?_
  cases r1
  exact q _ F1 H1 Sl1 s1 pu1 R1 rfl
def mYes : MT := fun env => some (true, env)
theorem rt_yes : RT true tYes mYes := by
  intro F H σ env Sl R b env' e Q q
  cases e
  exact q _ F H Sl Step.refl (fun _ => ⟨rfl, Ex.refl H, rfl⟩) R rfl
/-! .. as values -/
def mAndV (ma mb : ME) : ME := bnd (mT ma) fun b e => match b with | true => mb e | false => some (.val (.bool false), e)
def mOrV (ma mb : ME) : ME := bnd (mT ma) fun b e => match b with | true => some (.val (.bool true), e) | false => mb e
def mNotV (ma : ME) : ME := bnd (mT ma) fun b e => some (.val (.bool (!b)), e)
theorem re_andV (h : RE pu ta ma) (h' : RE pv tb mb) : RE (pu && pv) (tAndV ta tb) (mAndV ma mb) := by
  intro F H σ env Sl R b env' e Q q
  obtain ⟨b1, e1, h1, h2⟩ := bnd_of e
  refine rt_B h F H σ env Sl R b1 _ h1 (fun c H1 => if c = true then tb σ H1 Q else Q (.bl false) H1) fun r F1 H1 Sl1 s1 pu1 R1 r1 => ?_
  cases r1
  cases b1 with
  | true =>
    rw [if_pos rfl]
    exact h' F1 H1 σ e1 Sl1 R1 b _ h2 _ fun r' F2 H2 Sl2 s2 pu2 R2 r2 => q r' F2 H2 Sl2 (s1.trans s2) (pu_step (F := F) (F1 := F1) (F2 := F2) pu1 pu2) R2 r2
  | false =>
    cases h2
    rw [if_neg Bool.false_ne_true]
    exact q _ F1 H1 Sl1 s1 (fun hp => pu1 (Bool.and_eq_true _ _ ▸ hp).1) R1 rfl
theorem re_orV (h : RE pu ta ma) (h' : RE pv tb mb) : RE (pu && pv) (tOrV ta tb) (mOrV ma mb) := by
  intro F H σ env Sl R b env' e Q q
  obtain ⟨b1, e1, h1, h2⟩ := bnd_of e
  refine rt_B h F H σ env Sl R b1 _ h1 (fun c H1 => if c = true then Q (.bl true) H1 else tb σ H1 Q) fun r F1 H1 Sl1 s1 pu1 R1 r1 => ?_
  cases r1
  cases b1 with
  | false =>
    rw [if_neg Bool.false_ne_true]
    exact h' F1 H1 σ e1 Sl1 R1 b _ h2 _ fun r' F2 H2 Sl2 s2 pu2 R2 r2 => q r' F2 H2 Sl2 (s1.trans s2) (pu_step (F := F) (F1 := F1) (F2 := F2) pu1 pu2) R2 r2
  | true =>
    cases h2
    rw [if_pos rfl]
    exact q _ F1 H1 Sl1 s1 (fun hp => pu1 (Bool.and_eq_true _ _ ▸ hp).1) R1 rfl
theorem re_notV (h : RE pu ta ma) : RE pu (tNotV ta) (mNotV ma) := by
  intro F H σ env Sl R b env' e Q q
  obtain ⟨b1, e1, h1, h2⟩ := bnd_of e
  cases h2
  refine rt_B h F H σ env Sl R b1 _ h1 (fun c H1 => Q (.bl (!c)) H1) fun r F1 H1 Sl1 s1 pu1 R1 r1 => ?_
  cases r1
  exact q _ F1 H1 Sl1 s1 pu1 R1 rfl
/-- a if t else b -/
def mIf {α : Type} (m : MT) (ma mb : En → Option (α × En)) : En → Option (α × En) := bnd m fun b e => match b with | true => ma e | false => mb e
theorem New.mono0 {F H0 H1 H : Hp} {Sl : Nat → Addr → Prop} {o : O} {v : V} {T : Addr → Prop} (n : New F H1 H Sl o v T) (k : ∀ a, H1 a = none → H0 a = none) : New F H0 H Sl o v T := ⟨n.own, n.dj, n.tr, fun a h => k a (n.nw a h)⟩
end
end Tr
namespace Tr
open PySem PySem.Spec PyProof.Rows L2

/-! ### what is walked -/
/-- J gives the data ds, one after the other, while what F has stands -/
def ItOk (J : It) (F : Hp) (ds : List PyData) : Prop := ∀ F1 H1, Ex F F1 → Ex F1 H1 → ∀ i : Nat,
  (∀ d, ds[i]? = some d → J.go i H1 ∧ ∀ x H', J.yld i H1 x H' → ∃ F', Ex F1 F' ∧ Ex H1 H' ∧ Ex F' H' ∧ (∀ b o, F' b = some o → F1 b = some o ∨ H1 b = none) ∧ Rp F' d x) ∧ (ds[i]? = none → J.stop i H1)
def RI (wi : TI) (m : ML) : Prop := ∀ F H σ env Sl, REnv F H σ env Sl → ∀ ds env', m env = some (ds, env') → ∀ Q : It → Hp → Prop,
  (∀ J F' H' Sl', Step F H Sl F' H' Sl' → REnv F' H' σ env' Sl' → ItOk J F' ds → Q J H') → wi σ H Q
def mItL (me : ME) : ML := bnd me fun p e => match fzP e p with
  | some (.list ds, e2) => some (ds, e2)
  | _ => none
theorem it_l {K : PySem.W.Frag} {F : Hp} {a : Addr} {vs : List V} {ds : List PyData} (h : F a = some (.lst vs)) (r : All2 (Rp F) ds vs) : ItOk (Itl K a) F ds := by
  intro F1 H1 e1 e2 i
  have hs : SqL K H1 a vs := SqL.of (e2 _ _ (e1 _ _ h))
  refine ⟨fun d hd => ?_, fun hd => ⟨vs, hs, ?_⟩⟩
  · obtain ⟨v, hv, rv⟩ := r.get hd
    refine ⟨⟨vs, v, hs, hv⟩, fun x H' y => ?_⟩
    obtain ⟨rfl, f⟩ := y
    have ex : x = v := Option.some.inj ((f vs hs).symm.trans hv)
    subst ex
    exact ⟨F1, Ex.refl _, Ex.refl _, e2, fun _ _ z => .inl z, Rp.mono e1 rv⟩
  · rw [← r.len]
    exact List.getElem?_eq_none_iff.mp hd
theorem ri_list {K : PySem.W.Frag} {pu : Bool} {te : TE} {me : ME} (h : RE pu te me) : RI (iList K te) (mItL me) := by
  intro F H σ env Sl R ds env' e Q q
  obtain ⟨p, e1, h1, h2⟩ := bnd_of e
  split at h2
  · rename_i ds' e2 h3
    cases h2
    refine h F H σ env Sl R p _ h1 _ fun r F1 H1 Sl1 s1 pu1 R1 r1 => ?_
    obtain ⟨F2, Sl2, s2, R2, r2⟩ := fz_ok R1 r1 h3
    obtain ⟨a, vs, rfl, hF, rr⟩ := rp_list.mp r2
    exact ⟨a, rfl, ⟨vs, SqL.of (R2.ex _ _ hF)⟩, q _ F2 H1 Sl2 (s1.trans s2) R2 (it_l hF rr)⟩
  · cases h2
/-- lo, lo + 1, .. -/
def rgD (lo : Int) (n : Nat) : List PyData := (List.range n).map fun k => .int (lo + (k : Nat))
theorem rgD_get {lo : Int} {n i : Nat} : (rgD lo n)[i]? = if i < n then some (.int (lo + (i : Nat))) else none := by
  unfold rgD
  rw [List.getElem?_map]
  by_cases h : i < n
  · rw [if_pos h, List.getElem?_range h]; rfl
  · rw [if_neg h, List.getElem?_eq_none (by rw [List.length_range]; omega)]; rfl
theorem it_r {F : Hp} {lo : Int} {n : Nat} : ItOk (Itr lo n) F (rgD lo n) := by
  intro F1 H1 e1 e2 i
  rw [rgD_get]
  refine ⟨fun d hd => ?_, fun hd => ?_⟩
  · split at hd
    · rename_i hi
      cases hd
      refine ⟨hi, fun x H' y => ?_⟩
      obtain ⟨rfl, rfl⟩ := y
      exact ⟨F1, Ex.refl _, Ex.refl _, e2, fun _ _ z => .inl z, rfl⟩
    · cases hd
  · split at hd
    · cases hd
    · rename_i hi
      exact Nat.le_of_not_lt hi
def mRng1 (ma : MA) : ML := bnd ma fun ps e => match ps with
  | [.val (.int j)] => if -(2 ^ 62) ≤ j ∧ j < 2 ^ 62 then some (rgD 0 j.toNat, e) else none
  | _ => none
def mRng2 (ma : MA) : ML := bnd ma fun ps e => match ps with
  | [.val (.int i), .val (.int j)] => if -(2 ^ 62) ≤ i ∧ i < 2 ^ 62 ∧ -(2 ^ 62) ≤ j ∧ j < 2 ^ 62 then some (rgD i (j - i).toNat, e) else none
  | _ => none
theorem ri_rng1 {pu : Bool} {ta : TA} {ma : MA} (h : RA pu ta ma) : RI (iRng1 ta) (mRng1 ma) := by
  intro F H σ env Sl R ds env' e Q q
  obtain ⟨ps, e1, h1, h2⟩ := bnd_of e
  split at h2
  · split at h2
    · rename_i j hj
      cases h2
      refine h F H σ env Sl R _ _ h1 _ fun r F1 H1 Sl1 s1 pu1 R1 r1 => ?_
      cases r1 with
      | cons x t =>
        cases t
        exact ⟨j, by rw [pint x], hj.1, hj.2, q _ F1 H1 Sl1 s1 R1 it_r⟩
    · cases h2
  · cases h2
theorem ri_rng2 {pu : Bool} {ta : TA} {ma : MA} (h : RA pu ta ma) : RI (iRng2 ta) (mRng2 ma) := by
  intro F H σ env Sl R ds env' e Q q
  obtain ⟨ps, e1, h1, h2⟩ := bnd_of e
  split at h2
  · split at h2
    · rename_i i j hj
      cases h2
      refine h F H σ env Sl R _ _ h1 _ fun r F1 H1 Sl1 s1 pu1 R1 r1 => ?_
      cases r1 with
      | cons x t =>
        cases t with
        | cons y t =>
          cases t
          exact ⟨i, j, by rw [pint x, pint y], hj, q _ F1 H1 Sl1 s1 R1 it_r⟩
    · cases h2
  · cases h2
/-- i, item -/
def enD (ds : List PyData) : List PyData := (List.range ds.length).map fun k => .tuple [.int (k : Nat), ds.getD k .none]
theorem enD_get {ds : List PyData} {i : Nat} : (enD ds)[i]? = (ds[i]?).map fun d => .tuple [.int (i : Nat), d] := by
  unfold enD
  rw [List.getElem?_map]
  by_cases h : i < ds.length
  · rw [List.getElem?_range h, List.getElem?_eq_getElem h]
    simp [List.getD_eq_getElem?_getD, h]
  · rw [List.getElem?_eq_none (by rw [List.length_range]; omega), List.getElem?_eq_none (by omega)]; rfl
def mEnum (ma : MA) : ML := bnd ma fun ps e => match ps with
  | [p] => match fzP e p with
    | some (.list ds, e2) => some (enD ds, e2)
    | _ => none
  | _ => none
theorem it_e {K : PySem.W.Frag} {F : Hp} {a : Addr} {vs : List V} {ds : List PyData} (h : F a = some (.lst vs)) (r : All2 (Rp F) ds vs) : ItOk (Ite K a) F (enD ds) := by
  intro F1 H1 e1 e2 i
  have hs : SqL K H1 a vs := SqL.of (e2 _ _ (e1 _ _ h))
  rw [enD_get]
  refine ⟨fun d hd => ?_, fun hd => ⟨vs, hs, ?_⟩⟩
  · cases hd' : ds[i]? with
    | none => rw [hd'] at hd; cases hd
    | some d' =>
      rw [hd'] at hd
      cases hd
      obtain ⟨v, hv, rv⟩ := r.get hd'
      refine ⟨⟨vs, v, hs, hv⟩, fun x H' y => ?_⟩
      obtain ⟨T, x', rfl, nT, rfl, f⟩ := y
      have ex : x' = v := Option.some.inj ((f vs hs).symm.trans hv)
      subst ex
      obtain ⟨y1, y2, y3, y4, y5⟩ := new_tup (ds := [.int (i : Nat), d']) (vs := [.int (i : Nat), x']) e2 nT (.cons rfl (.cons (Rp.mono e1 rv) .nil))
      exact ⟨_, y1, y2, y3, y4, y5⟩
  · cases hd' : ds[i]? with
    | none =>
      rw [← r.len]
      exact List.getElem?_eq_none_iff.mp hd'
    | some d' => rw [hd'] at hd; cases hd
theorem ri_enum {K : PySem.W.Frag} {pu : Bool} {ta : TA} {ma : MA} (h : RA pu ta ma) : RI (iEnum K ta) (mEnum ma) := by
  intro F H σ env Sl R ds env' e Q q
  obtain ⟨ps, e1, h1, h2⟩ := bnd_of e
  split at h2
  · split at h2
    · rename_i ds' e2 h3
      cases h2
      refine h F H σ env Sl R _ _ h1 _ fun r F1 H1 Sl1 s1 pu1 R1 r1 => ?_
      cases r1 with
      | cons x t =>
        cases t
        obtain ⟨F2, Sl2, s2, R2, r2⟩ := fz_ok R1 x h3
        obtain ⟨a, vs, rfl, hF, rr⟩ := rp_list.mp r2
        exact ⟨a, vs, rfl, SqL.of (R2.ex _ _ hF), q _ F2 H1 Sl2 (s1.trans s2) R2 (it_e hF rr)⟩
    · cases h2
  · cases h2

/-! ### where it goes -/
/-- is: the places that are stored to -/
def RT' (is : List Nat) (g : TG) (mg : PyData → En → Option En) : Prop := ∀ F H σ env Sl x d, REnv F H σ env Sl → Rp F d x → ∀ env', mg d env = some env' → ∀ Q : L2.St → Hp → Prop,
  (∀ σ' Sl', REnv F H σ' env' Sl' → (∀ i a, Sl' i a → Sl i a) → (∀ i, i ∉ is → σ'[i]? = σ[i]?) → σ'.length = σ.length → Q σ' H) → g x σ H Q
/-- a name takes a thing -/
theorem REnv.put {F H : Hp} {σ : L2.St} {env : En} {Sl : Nat → Addr → Prop} {i : Nat} {o : O} {v : V} {T : Addr → Prop} (R : REnv F H σ env Sl) (w : Own F H o v T) (dj : ∀ j a, T a → Sl j a → j = i) (tr : ∀ a, T a → F a = none ∧ ∃ u, H a = some u) :
    REnv F H (σ.set i (some v)) (env.set i (some o)) (fun j a => (j ≠ i ∧ Sl j a) ∨ (j = i ∧ T a)) := by
  refine ⟨R.ex, by rw [List.length_set, List.length_set]; exact R.len, fun j u h => ?_, fun j k a x y => ?_, fun j a x => ?_⟩
  · rcases set_at h with ⟨rfl, e2, hl⟩ | ⟨ne, h'⟩
    · cases e2
      refine ⟨v, ?_, w.sub fun a s => .inr ⟨rfl, s⟩⟩
      rw [List.getElem?_set_self (by rw [R.len]; exact hl)]
    · obtain ⟨v2, e2, w2⟩ := R.at_ j u h'
      refine ⟨v2, ?_, w2.sub fun a s => .inl ⟨ne, s⟩⟩
      rw [List.getElem?_set_ne (Ne.symm ne)]
      exact e2
  · rcases x with ⟨n1, x⟩ | ⟨rfl, x⟩
    · rcases y with ⟨n2, y⟩ | ⟨rfl, y⟩
      · exact R.dj j k a x y
      · exact absurd (dj j a y x) n1
    · rcases y with ⟨n2, y⟩ | ⟨rfl, y⟩
      · exact absurd (dj k a x y) n2
      · rfl
  · rcases x with ⟨_, x⟩ | ⟨_, x⟩
    · exact R.tr j a x
    · exact tr a x
theorem REnv.putD {F H : Hp} {σ : L2.St} {env : En} {Sl : Nat → Addr → Prop} {i : Nat} {d : PyData} {v : V} (R : REnv F H σ env Sl) (w : Rp F d v) : REnv F H (σ.set i (some v)) (env.set i (some (.fz d))) (lose Sl i) := by
  have h := R.put (i := i) (o := .fz d) (v := v) (T := fun _ => False) w (fun _ _ z => z.elim) (fun _ z => z.elim)
  exact ⟨h.ex, h.len, fun j u q => by
    obtain ⟨v', e, w'⟩ := h.at_ j u q
    exact ⟨v', e, w'.sub fun a s => s.elim id fun z => z.2.elim⟩, fun j k a x y => R.dj j k a x.2 y.2, fun j a x => R.tr j a x.2⟩
theorem pin_set {σ : L2.St} {i : Nat} {x : Option V} : ∀ j, j ∉ [i] → (σ.set i x)[j]? = σ[j]? := fun j e => by
  rw [List.getElem?_set_ne]
  intro z
  exact e (by rw [z]; simp)
def mgN (i : Nat) : PyData → En → Option En := fun d env => some (env.set i (some (.fz d)))
theorem rg_name {i : Nat} : RT' [i] (gName i) (mgN i) := by
  intro F H σ env Sl x d R r env' e Q q
  cases e
  exact q _ _ (R.putD r) (fun _ _ z => z.2) pin_set (List.length_set ..)
def mgTs : List Nat → List PyData → En → Option En
  | [], [], env => some env
  | i :: is, d :: ds, env => mgTs is ds (env.set i (some (.fz d)))
  | _, _, _ => none
def mgT (is : List Nat) : PyData → En → Option En := fun d env => match d with
  | .tuple ds => mgTs is ds env
  | _ => none
def RTs (g : TGs) (is : List Nat) : Prop := ∀ F H σ env Sl xs ds, REnv F H σ env Sl → All2 (Rp F) ds xs → ∀ env', mgTs is ds env = some env' → ∀ Q : L2.St → Hp → Prop,
  (∀ σ' Sl', REnv F H σ' env' Sl' → (∀ i a, Sl' i a → Sl i a) → (∀ i, i ∉ is → σ'[i]? = σ[i]?) → σ'.length = σ.length → Q σ' H) → g xs σ H Q
theorem rgs_nil : RTs gNil [] := by
  intro F H σ env Sl xs ds R r env' e Q q
  cases r with
  | nil => cases e; exact ⟨rfl, q σ Sl R (fun _ _ z => z) (fun _ _ => rfl) rfl⟩
  | cons _ _ => cases e
theorem rgs_cons {i : Nat} {g : TGs} {is : List Nat} (h : RTs g is) : RTs (gCons (gName i) g) (i :: is) := by
  intro F H σ env Sl xs ds R r env' e Q q
  cases r with
  | nil => cases e
  | cons a b =>
    refine ⟨_, _, rfl, ?_⟩
    exact h F H _ _ _ _ _ (R.putD a) b env' e Q fun σ' Sl' R' k p hl => q σ' Sl' R' (fun j x z => (k j x z).2) (fun j z => (p j fun y => z (by simp [y])).trans (pin_set j fun y => z (by simp at y; simp [y]))) (hl.trans (List.length_set ..))
theorem mgTs_len : ∀ {is : List Nat} {ds : List PyData} {env env' : En}, mgTs is ds env = some env' → ds.length = is.length
  | [], [], _, _, _ => rfl
  | [], _ :: _, _, _, h => nomatch h
  | _ :: _, [], _, _, h => nomatch h
  | _ :: is, _ :: ds, _, _, h => by
    have h' : mgTs is ds _ = some _ := h
    rw [List.length_cons, List.length_cons, mgTs_len h']
theorem rg_tup {K : PySem.W.Frag} {n : Nat} {g : TGs} {is : List Nat} (h : RTs g is) (hn : is.length = n := by rfl) : RT' is (gTup K n g) (mgT is) := by
  intro F H σ env Sl x d R r env' e Q q
  unfold mgT at e
  split at e
  · rename_i ds
    obtain ⟨a, vs, rfl, hF, rr⟩ := rp_tuple.mp r
    exact ⟨a, vs, rfl, SqT.of (R.ex _ _ hF), by rw [← rr.len, mgTs_len e]; exact hn, h F H σ env Sl vs ds R rr env' e Q q⟩
  · cases e
/-! ### comprehensions -/
def wipeE (env : En) : List Nat → En
  | [] => env
  | v :: vs => (wipeE env vs).set v none
theorem REnv.forget {F H : Hp} {σ : L2.St} {env : En} {Sl : Nat → Addr → Prop} {i : Nat} (R : REnv F H σ env Sl) : REnv F H (σ.set i none) (env.set i none) (lose Sl i) := by
  refine ⟨R.ex, by rw [List.length_set, List.length_set]; exact R.len, fun j u h => ?_, fun j k a x y => R.dj j k a x.2 y.2, fun j a x => R.tr j a x.2⟩
  rcases set_at h with ⟨rfl, e2, _⟩ | ⟨ne, h'⟩
  · cases e2
  · obtain ⟨v2, e2, w2⟩ := R.at_ j u h'
    refine ⟨v2, ?_, w2.sub fun a s => ⟨ne, s⟩⟩
    rw [List.getElem?_set_ne (Ne.symm ne)]
    exact e2
theorem REnv.wiped {F H : Hp} {σ : L2.St} {env : En} : ∀ {vs : List Nat} {Sl : Nat → Addr → Prop}, REnv F H σ env Sl → ∃ Sl', REnv F H (wipe σ vs) (wipeE env vs) Sl' ∧ ∀ i a, Sl' i a → Sl i a
  | [], Sl, R => ⟨Sl, R, fun _ _ z => z⟩
  | v :: vs, Sl, R => by
    obtain ⟨Sl1, R1, k1⟩ := REnv.wiped (vs := vs) R
    exact ⟨_, R1.forget, fun i a z => k1 i a z.2⟩
/-- only fewer things are held -/
theorem Step.fewer {F H : Hp} {Sl Sl' : Nat → Addr → Prop} (k : ∀ i a, Sl' i a → Sl i a) : Step F H Sl F H Sl' := ⟨Ex.refl F, fun _ _ h _ => h, fun _ _ h => ⟨_, h⟩, fun i b h => .inl (k i b h), fun _ _ h => .inl h⟩
/-- behind a block: what it told of the block's names is forgotten -/
theorem REnv.unwipe {F H : Hp} {σ : L2.St} {env : En} {vs : List Nat} {Sl : Nat → Addr → Prop} (R : REnv F H (wipe σ vs) env Sl) : REnv F H σ env Sl :=
  ⟨R.ex, by rw [← R.len, wipe_length], fun i o h => by
    obtain ⟨v, e, w⟩ := R.at_ i o h
    exact ⟨v, (wipe_some e).1, w⟩, R.dj, R.tr⟩
def mLcGo (mg : PyData → En → Option En) (mt : MT) (me : ME) (vs : List Nat) : List PyData → List PyData → ML
  | [], acc, env => some (acc, env)
  | d :: ds, acc, env => match mg d env with
    | some e1 => match mt e1 with
      | some (true, e2) => match me e2 with
        | some (p, e3) => match fzP e3 p with
          | some (y, e4) => if acc.length < sizeLine then mLcGo mg mt me vs ds (acc ++ [y]) (wipeE e4 vs) else none
          | none => none
        | none => none
      | some (false, e2) => mLcGo mg mt me vs ds acc (wipeE e2 vs)
      | none => none
    | none => none
def mLc (mi : ML) (mg : PyData → En → Option En) (mt : MT) (me : ME) (vs : List Nat) : ML := bnd mi fun ds e => mLcGo mg mt me vs ds [] (wipeE e vs)
end Tr
namespace Tr
open PySem PySem.Spec PyProof.Rows L2

/-! ### a comprehension -/
theorem fresh_notin {F H : Hp} {σ : L2.St} {env : En} {Sl : Nat → Addr → Prop} (R : REnv F H σ env Sl) {p : Addr} (h : H p = none) : ∀ i, ¬ Sl i p := fun i z => by
  obtain ⟨_, o, e⟩ := R.tr i p z
  rw [h] at e
  cases e
/-- a list apart from all that is held is written -/
theorem REnv.side {F H : Hp} {σ : L2.St} {env : En} {Sl : Nat → Addr → Prop} {p : Addr} {u : HO} (R : REnv F H σ env Sl) (hf : F p = none) (hn : ∀ i, ¬ Sl i p) : REnv F (upd H p u) σ env Sl := by
  refine ⟨fun b o h => ?_, R.len, fun i o h => ?_, R.dj, fun i a x => ?_⟩
  · rw [upd_ne (fun z => by rw [z, hf] at h; cases h)]
    exact R.ex _ _ h
  · obtain ⟨v, e, w⟩ := R.at_ i o h
    exact ⟨v, e, w.ext (Ex.refl F) fun a u' s q => by
      rw [upd_ne (fun z => hn i (by rw [← z]; exact s))]
      exact q⟩
  · obtain ⟨h1, o, h2⟩ := R.tr i a x
    refine ⟨h1, o, ?_⟩
    rw [upd_ne (fun z => hn i (by rw [← z]; exact x))]
    exact h2

theorem wipe_at {σ : L2.St} {i : Nat} : ∀ {vs : List Nat}, (wipe σ vs)[i]? = if i ∈ vs then (if i < σ.length then some none else none) else σ[i]?
  | [] => by rw [if_neg (by simp)]; rfl
  | v :: vs => by
    show ((wipe σ vs).set v none)[i]? = _
    by_cases e : v = i
    · subst e
      rw [if_pos (by simp), List.getElem?_set]
      simp only [if_true, wipe_length]
    · rw [List.getElem?_set_ne e, wipe_at]
      have e' : ¬ i = v := fun z => e z.symm
      simp only [List.mem_cons, e', false_or]
theorem wipe_eq {σ σ' : L2.St} {vs is : List Nat} (h : ∀ i, i ∉ is → σ'[i]? = (wipe σ vs)[i]?) (hl : σ'.length = σ.length) (hs : ∀ i ∈ is, i ∈ vs) : wipe σ' vs = wipe σ vs := by
  refine List.ext_getElem? fun i => ?_
  rw [wipe_at, wipe_at, hl]
  by_cases hv : i ∈ vs
  · rw [if_pos hv, if_pos hv]
  · rw [if_neg hv, if_neg hv, h i (fun z => hv (hs i z)), wipe_at, if_neg hv]
theorem step_wiped {F H : Hp} {σ : L2.St} {env : En} {vs : List Nat} {Sl : Nat → Addr → Prop} {σ' : L2.St} (R : REnv F H σ' env Sl) (e : wipe σ' vs = wipe σ vs) : ∃ Sl', REnv F H (wipe σ vs) (wipeE env vs) Sl' ∧ ∀ i a, Sl' i a → Sl i a := by
  obtain ⟨Sl', R', k⟩ := R.wiped (vs := vs)
  rw [e] at R'
  exact ⟨Sl', R', k⟩
theorem Step.side {F H F' H' : Hp} {Sl Sl' : Nat → Addr → Prop} {p : Addr} {u : HO} (s : Step F H Sl F' H' Sl') (h : H p = none) : Step F H Sl F' (upd H' p u) Sl' :=
  ⟨s.exF, fun b o e n => by rw [upd_ne (ne_of_none e h)]; exact s.fr b o e n, fun b o e => by rw [upd_ne (ne_of_none e h)]; exact s.tk b o e, s.own, s.fz⟩
theorem lc_core {wi : TI} {g : TG} {tt : TT} {te : TE} {vs is : List Nat} {mi : ML} {mg : PyData → En → Option En} {mt : MT} {me : ME} {pt pe : Bool} (hi : RI wi mi) (hg : RT' is g mg) (ht : RT pt tt mt) (he : RE pe te me) (hs : ∀ i ∈ is, i ∈ vs) :
    ∀ F H σ env Sl, REnv F H σ env Sl → ∀ ds env', mLc mi mg mt me vs env = some (ds, env') → ∀ Q : VK,
      (∀ p ys F' H' Sl', Step F H Sl F' H' Sl' → REnv F' H' σ env' Sl' → All2 (Rp F') ds ys → F' p = none → H p = none → (∀ i, ¬ Sl' i p) → H' p = some (.lst ys) → Q (.ref p) H') → tLc wi g tt te vs σ H Q := by
  intro F H σ env Sl R ds env' e Q q
  obtain ⟨xs, e0, h1, h2⟩ := bnd_of e
  refine hi F H σ env Sl R xs _ h1 _ fun J F1 H1 Sl1 s1 R1 hJ => ?_
  intro p np
  obtain ⟨Sl2, R2, k2⟩ := R1.wiped (vs := vs)
  have n2 : ∀ i, ¬ Sl2 i p := fun i z => fresh_notin R1 np i (k2 i p z)
  have R3 : REnv F1 (upd H1 p (.lst [])) (wipe σ vs) (wipeE e0 vs) Sl2 := R2.side (R1.ex.none np) n2
  have s3 : Step F1 H1 Sl1 F1 (upd H1 p (.lst [])) Sl2 := (Step.fewer k2).trans (Step.grow (Ex.refl F1) (Ex.new np) fun _ _ z => .inl z)
  refine ⟨fun i m Hi => ∃ Fi Sli envi acc ys, i ≤ xs.length ∧ m = xs.length - i ∧ REnv Fi Hi (wipe σ vs) envi Sli ∧ Step F1 H1 Sl1 Fi Hi Sli ∧ mLcGo mg mt me vs (xs.drop i) acc envi = some (ds, env') ∧ All2 (Rp Fi) acc ys ∧ Fi p = none ∧ (∀ i, ¬ Sli i p) ∧ Hi p = some (.lst ys), ?_, ?_⟩
  · exact ⟨xs.length, F1, Sl2, wipeE e0 vs, [], [], Nat.zero_le _, by omega, R3, s3, h2, .nil, R1.ex.none np, n2, upd_same⟩
  · rintro i m Hi ⟨Fi, Sli, envi, acc, ys, hil, hm, Ri, si, go, ra, fp, nsp, hp⟩
    cases hx : xs[i]? with
    | none =>
      have hge : xs.length ≤ i := List.getElem?_eq_none_iff.mp hx
      rw [List.drop_eq_nil_of_le hge] at go
      have go' : some (acc, envi) = some (ds, env') := go
      cases go'
      refine .inl ⟨(hJ Fi Hi si.exF Ri.ex i).2 hx, ?_⟩
      exact q p ys Fi Hi Sli (s1.trans si) Ri.unwipe ra fp (s1.tkb np) nsp hp
    | some d =>
      have hlt : i < xs.length := (List.getElem?_eq_some_iff.mp hx).1
      have hd : xs.drop i = d :: xs.drop (i + 1) := by
        rw [List.drop_eq_getElem_cons hlt]
        have := (List.getElem?_eq_some_iff.mp hx).2
        rw [this]
      rw [hd] at go
      unfold mLcGo at go
      obtain ⟨jg, jy⟩ := (hJ Fi Hi si.exF Ri.ex i).1 d hx
      refine .inr ⟨jg, fun H' => ∃ Fi Sli envi acc ys, i + 1 ≤ xs.length ∧ REnv Fi H' (wipe σ vs) envi Sli ∧ Step F1 H1 Sl1 Fi H' Sli ∧ mLcGo mg mt me vs (xs.drop (i + 1)) acc envi = some (ds, env') ∧ All2 (Rp Fi) acc ys ∧ Fi p = none ∧ (∀ i, ¬ Sli i p) ∧ H' p = some (.lst ys), fun H' ⟨Fj, Slj, envj, accj, ysj, z1, z2, z3, z4, z5, z6, z7, z8⟩ => ⟨xs.length - (i + 1), by omega, Fj, Slj, envj, accj, ysj, z1, rfl, z2, z3, z4, z5, z6, z7, z8⟩, fun x H' hy => ?_⟩
      obtain ⟨Fj, f1, f2, f3, f4, f5⟩ := jy x H' hy
      have Rj : REnv Fj H' (wipe σ vs) envi Sli := Ri.grow f1 f2 f3 f4
      have sj : Step F1 H1 Sl1 Fj H' Sli := si.trans (Step.grow f1 f2 f4)
      have fpj : Fj p = none := by
        cases z : Fj p with
        | none => rfl
        | some o =>
          rcases f4 p o z with y | y
          · rw [fp] at y; cases y
          · rw [hp] at y; cases y
      cases hg1 : mg d envi with
      | none => rw [hg1] at go; cases go
      | some e1 =>
        rw [hg1] at go
        refine hg Fj H' (wipe σ vs) envi Sli x d Rj f5 e1 hg1 _ fun σ2 Sl4 R4 k4 p4 l4 => ?_
        have hl4 : σ2.length = σ.length := by rw [l4, wipe_length]
        have weq : wipe σ2 vs = wipe σ vs := wipe_eq p4 hl4 hs
        refine ⟨weq, ?_⟩
        have s4 : Step F1 H1 Sl1 Fj H' Sl4 := sj.trans (Step.fewer k4)
        have nsp4 : ∀ i, ¬ Sl4 i p := fun i z => nsp i (k4 i p z)
        have hp4 : H' p = some (.lst ys) := f2 _ _ hp
        cases ht1 : mt e1 with
        | none => simp only [ht1] at go; cases go
        | some tb =>
          obtain ⟨b, e2⟩ := tb
          simp only [ht1] at go
          refine ht Fj H' σ2 e1 Sl4 R4 b e2 ht1 _ fun b' F5 H5 Sl5 s5 pu5 R5 rb => ?_
          cases rb
          have s5' := s4.trans s5
          have hp5 : H5 p = some (.lst ys) := s5.fr _ _ hp4 nsp4
          have fp5 : F5 p = none := by
            cases z : F5 p with
            | none => rfl
            | some o =>
              rcases s5.fz p o z with y | y | ⟨j, y⟩
              · rw [fpj] at y; cases y
              · rw [hp4] at y; cases y
              · exact absurd y (nsp4 j)
          have nsp5 : ∀ i, ¬ Sl5 i p := fun i z => by
            rcases s5.own i p z with y | y
            · exact nsp4 i y
            · rw [hp4] at y; cases y
          have ra5 : All2 (Rp F5) acc ys := all_mono (f1.trans s5.exF) ra
          cases b with
          | false =>
            rw [if_neg Bool.false_ne_true]
            obtain ⟨Sl6, R6, k6⟩ := step_wiped (σ := σ) (vs := vs) R5 weq
            exact ⟨F5, Sl6, _, acc, ys, hlt, R6, s5'.trans (Step.fewer k6), go, ra5, fp5, fun i z => nsp5 i (k6 i p z), hp5⟩
          | true =>
            rw [if_pos rfl]
            cases he1 : me e2 with
            | none => simp only [he1] at go; cases go
            | some pe3 =>
              obtain ⟨pp, e3⟩ := pe3
              simp only [he1] at go
              cases hz1 : fzP e3 pp with
              | none => simp only [hz1] at go; cases go
              | some ye4 =>
                obtain ⟨y, e4⟩ := ye4
                simp only [hz1] at go
                split at go
                · rename_i hlen
                  refine he F5 H5 σ2 e2 Sl5 R5 pp e3 he1 _ fun v F6 H6 Sl6 s6 pu6 R6 r6 => ?_
                  obtain ⟨F7, Sl7, s7, R7, r7⟩ := fz_ok R6 r6 hz1
                  have s67 := s6.trans s7
                  have hp6 : H6 p = some (.lst ys) := s67.fr _ _ hp5 nsp5
                  have fp6 : F7 p = none := by
                    cases z : F7 p with
                    | none => rfl
                    | some o =>
                      rcases s67.fz p o z with y | y | ⟨j, y⟩
                      · rw [fp5] at y; cases y
                      · rw [hp5] at y; cases y
                      · exact absurd y (nsp5 j)
                  have nsp6 : ∀ i, ¬ Sl7 i p := fun i z => by
                    rcases s67.own i p z with y | y
                    · exact nsp5 i y
                    · rw [hp5] at y; cases y
                  have ra7 : All2 (Rp F7) (acc ++ [y]) (ys ++ [v]) := (all_mono s67.exF ra5).snoc r7
                  obtain ⟨Sl8, R8, k8⟩ := step_wiped (σ := σ) (vs := vs) R7 weq
                  have nsp8 : ∀ i, ¬ Sl8 i p := fun i z => nsp6 i (k8 i p z)
                  exact ⟨ys, hp6, by rw [← ra.len]; exact hlen, F7, Sl8, _, acc ++ [y], ys ++ [v], hlt, R8.side fp6 nsp8, (s5'.trans (s67.trans (Step.fewer k8))).side np, go, ra7, fp6, nsp8, upd_same⟩
                · cases go
/-- a list comprehension: its list is new; fixed at once, or held -/
theorem re_lc {wi : TI} {g : TG} {tt : TT} {te : TE} {vs is : List Nat} {mi : ML} {mg : PyData → En → Option En} {mt : MT} {me : ME} {pt pe : Bool} (hi : RI wi mi) (hg : RT' is g mg) (ht : RT pt tt mt) (he : RE pe te me) (hs : ∀ i ∈ is, i ∈ vs := by decide) :
    RE false (tLc wi g tt te vs) (mLE (mLc mi mg mt me vs)) := by
  intro F H σ env Sl R r env' e Q q
  obtain ⟨ds, e1, h1, h2⟩ := bnd_of e
  cases h2
  refine lc_core hi hg ht he hs F H σ env Sl R ds _ h1 Q fun p ys F' H' Sl' s R' ra fp np nsp hp => ?_
  have ex : Ex F' (upd F' p (.lst ys)) := Ex.new fp
  refine q _ (upd F' p (.lst ys)) H' Sl' ⟨s.exF.trans ex, s.fr, s.tk, s.own, fun b o z => ?_⟩ (fun z => nomatch z) ⟨fun b o z => ?_, R'.len, fun i o z => ?_, R'.dj, fun i a z => ?_⟩ (rp_list.mpr ⟨p, ys, rfl, upd_same, all_mono ex ra⟩)
  · by_cases hb : b = p
    · subst hb; exact .inr (.inl np)
    · rw [upd_ne hb] at z; exact s.fz b o z
  · by_cases hb : b = p
    · subst hb; rw [upd_same] at z; cases z; exact hp
    · rw [upd_ne hb] at z; exact R'.ex b o z
  · obtain ⟨v, e2, w⟩ := R'.at_ i o z
    exact ⟨v, e2, w.ext ex fun _ _ _ y => y⟩
  · obtain ⟨y1, y2⟩ := R'.tr i a z
    refine ⟨?_, y2⟩
    rw [upd_ne fun y => nsp i (by rw [← y]; exact z)]
    exact y1
end Tr
namespace Tr
open PySem PySem.Spec PyProof.Rows L2

/-! ### statements -/
inductive Ctl where | nx | bk | ct | rt (o : O)
abbrev MS := En → Option (Ctl × En)
/-- what is to hold behind it; pn: the place of the parameter whose list the caller holds -/
def EndsAt (pn : List Nat) (D : Ends) (F0 H0 : Hp) (Sl0 : Nat → Addr → Prop) (σ0 : L2.St) (c : Ctl) (env' : En) : Prop := match c with
  | .nx => ∀ F' H' σ' Sl', Step F0 H0 Sl0 F' H' Sl' → REnv F' H' σ' env' Sl' → (∀ i, i ∈ pn → σ'[i]? = σ0[i]?) → D.nx σ' H'
  | .bk => ∀ F' H' σ' Sl', Step F0 H0 Sl0 F' H' Sl' → REnv F' H' σ' env' Sl' → (∀ i, i ∈ pn → σ'[i]? = σ0[i]?) → D.bk σ' H'
  | .ct => ∀ F' H' σ' Sl', Step F0 H0 Sl0 F' H' Sl' → REnv F' H' σ' env' Sl' → (∀ i, i ∈ pn → σ'[i]? = σ0[i]?) → D.ct σ' H'
  | .rt o => ∀ v F' H' σ' Sl' T, Step F0 H0 Sl0 F' H' Sl' → REnv F' H' σ' env' Sl' → (∀ i, i ∈ pn → σ'[i]? = σ0[i]?) → Own F' H' o v T → (∀ i a, T a → ¬ Sl' i a) → (∀ a, T a → F' a = none ∧ ∃ u, H' a = some u) →
      (∀ a, T a → H0 a = none ∨ ∃ i, i ∉ pn ∧ Sl0 i a) → D.rt v H'
def RS (pn : List Nat) (t : TS) (m : MS) : Prop := ∀ F H σ env Sl, REnv F H σ env Sl → ∀ c env', m env = some (c, env') → ∀ D : Ends, EndsAt pn D F H Sl σ c env' → t D σ H
theorem EndsAt.step {pn : List Nat} {D : Ends} {F H F1 H1 : Hp} {Sl Sl1 : Nat → Addr → Prop} {σ σ1 : L2.St} {c : Ctl} {env' : En} (h : EndsAt pn D F H Sl σ c env') (s : Step F H Sl F1 H1 Sl1) (p : ∀ i, i ∈ pn → σ1[i]? = σ[i]?) : EndsAt pn D F1 H1 Sl1 σ1 c env' := by
  cases c with
  | nx => exact fun F' H' σ' Sl' s' R q => h F' H' σ' Sl' (s.trans s') R fun i e => (q i e).trans (p i e)
  | bk => exact fun F' H' σ' Sl' s' R q => h F' H' σ' Sl' (s.trans s') R fun i e => (q i e).trans (p i e)
  | ct => exact fun F' H' σ' Sl' s' R q => h F' H' σ' Sl' (s.trans s') R fun i e => (q i e).trans (p i e)
  | rt o =>
    refine fun v F' H' σ' Sl' T s' R q w dj tr nw => h v F' H' σ' Sl' T (s.trans s') R (fun i e => (q i e).trans (p i e)) w dj tr fun a ha => ?_
    rcases nw a ha with z | ⟨i, hi, z⟩
    · exact .inl (s.tkb z)
    · rcases s.own i a z with y | y
      · exact .inr ⟨i, hi, y⟩
      · exact .inl y
def mSeq (m n : MS) : MS := fun env => match m env with
  | some (.nx, e) => n e
  | r => r
theorem rs_seq {pn : List Nat} {t u : TS} {m n : MS} (h : RS pn t m) (h' : RS pn u n) : RS pn (tSeq t u) (mSeq m n) := by
  intro F H σ env Sl R c env' e D q
  unfold mSeq at e
  split at e
  · rename_i e1 h1
    refine h F H σ env Sl R .nx e1 h1 _ fun F' H' σ' Sl' s R' p => ?_
    exact h' F' H' σ' e1 Sl' R' c env' e D (q.step s p)
  · rename_i hn
    refine h F H σ env Sl R c env' e _ ?_
    cases c with
    | nx => exact absurd e (hn env')
    | bk => exact q
    | ct => exact q
    | rt o => exact q
def mNext : MS := fun env => some (.nx, env)
theorem rs_next {pn : List Nat} : RS pn tNext mNext := by
  intro F H σ env Sl R c env' e D q
  cases e
  exact q F H σ Sl Step.refl R fun _ _ => rfl
def mNever : MS := fun _ => none
theorem rs_never {pn : List Nat} : RS pn tNever mNever := by
  intro F H σ env Sl R c env' e D q
  cases e
/-- a thing that never changes goes to where g puts it -/
def mAsg (me : ME) (mg : PyData → En → Option En) : MS := bnd me fun p e => match fzP e p with
  | some (d, e2) => match mg d e2 with
    | some e3 => some (.nx, e3)
    | none => none
  | none => none
theorem rs_asg {pn : List Nat} {pu : Bool} {te : TE} {me : ME} {g : TG} {mg : PyData → En → Option En} {is : List Nat} (h : RE pu te me) (hg : RT' is g mg) (hp : ∀ i, i ∈ pn → i ∉ is := by simp) : RS pn (tAsg te g) (mAsg me mg) := by
  intro F H σ env Sl R c env' e D q
  obtain ⟨p, e1, h1, h2⟩ := bnd_of e
  split at h2
  · rename_i d e2 h3
    split at h2
    · rename_i e3 h4
      cases h2
      refine h F H σ env Sl R p _ h1 _ fun r F1 H1 Sl1 s1 pu1 R1 r1 => ?_
      obtain ⟨F2, Sl2, s2, R2, r2⟩ := fz_ok R1 r1 h3
      refine hg F2 H1 σ e2 Sl2 r d R2 r2 _ h4 _ fun σ' Sl' R' k p l => ?_
      exact q F2 H1 σ' Sl' (s1.trans (s2.trans (Step.fewer k))) R' fun i z => p i (hp i z)
    · cases h2
  · cases h2
/-- a name takes what it alone holds from now on -/
def mAsgO (i : Nat) (mo : MO) : MS := bnd mo fun o e => some (.nx, e.set i (some o))
theorem rs_asgO {pn : List Nat} {te : TE} {mo : MO} {i : Nat} (h : RO te mo) (hp : i ∉ pn := by decide) : RS pn (tAsg te (gName i)) (mAsgO i mo) := by
  intro F H σ env Sl R c env' e D q
  obtain ⟨o, e1, h1, h2⟩ := bnd_of e
  cases h2
  refine h F H σ env Sl R o _ h1 _ fun v F1 H1 Sl1 T s1 R1 n => ?_
  exact q F1 H1 _ _ ⟨s1.exF, s1.fr, s1.tk, fun j b z => z.elim (fun y => s1.own j b y.2) fun y => .inr (n.nw b y.2), s1.fz⟩ (R1.put n.own (fun j a x y => absurd y (n.dj j a x)) n.tr) fun j z => pin_set j (by simp; intro y; exact hp (y ▸ z))
/-- the list that the place j holds is written: what it holds afterwards -/
theorem REnv.write {F H : Hp} {σ : L2.St} {env : En} {Sl : Nat → Addr → Prop} {j : Nat} {a : Addr} {vs' : List V} {ds ds' : List PyData} (R : REnv F H σ env Sl) (hj : env[j]? = some (some (.ow ds))) (hv : σ[j]? = some (some (.ref a))) (r : All2 (Rp F) ds' vs') :
    Step F H Sl F (upd H a (.lst vs')) Sl ∧ REnv F (upd H a (.lst vs')) σ (env.set j (some (.ow ds'))) Sl := by
  obtain ⟨v, e1, a', ws, e2, sa, hH, _⟩ := R.at_ j _ hj
  rw [hv] at e1
  cases e1
  cases e2
  have ns : ∀ i, i ≠ j → ¬ Sl i a := fun i n z => n (R.dj i j a z sa)
  have fa := (R.tr j a sa).1
  refine ⟨⟨Ex.refl F, fun b o h n => ?_, fun b o h => ?_, fun _ _ z => .inl z, fun _ _ z => .inl z⟩, ⟨fun b o h => ?_, by rw [List.length_set]; exact R.len, fun i o h => ?_, R.dj, fun i b z => ?_⟩⟩
  · rw [upd_ne (fun z => n j (by rw [z]; exact sa))]; exact h
  · by_cases z : b = a
    · subst z; exact ⟨_, upd_same⟩
    · exact ⟨o, by rw [upd_ne z]; exact h⟩
  · rw [upd_ne (fun z => by rw [z, fa] at h; cases h)]; exact R.ex b o h
  · rcases set_at h with ⟨rfl, e2, _⟩ | ⟨ne, h'⟩
    · cases e2
      exact ⟨_, hv, a, vs', rfl, sa, upd_same, r⟩
    · obtain ⟨v2, e2, w2⟩ := R.at_ i o h'
      exact ⟨v2, e2, w2.ext (Ex.refl F) fun b u s q => by rw [upd_ne (fun z => ns i ne (by rw [← z]; exact s))]; exact q⟩
  · obtain ⟨y1, u, y2⟩ := R.tr i b z
    refine ⟨y1, ?_⟩
    by_cases e : b = a
    · subst e; exact ⟨_, upd_same⟩
    · exact ⟨u, by rw [upd_ne e]; exact y2⟩
theorem REnv.held {F H : Hp} {σ : L2.St} {env : En} {Sl : Nat → Addr → Prop} {j : Nat} {ds : List PyData} (R : REnv F H σ env Sl) (hj : env[j]? = some (some (.ow ds))) : ∃ a vs, σ[j]? = some (some (.ref a)) ∧ H a = some (.lst vs) ∧ All2 (Rp F) ds vs := by
  obtain ⟨v, e1, a, vs, e2, sa, hH, r⟩ := R.at_ j _ hj
  subst e2
  exact ⟨a, vs, e1, hH, r⟩
/-- xs[i] = e -/
def mSetI (j : Nat) (mi me : ME) : MS := bnd me fun p e1 => match fzP e1 p with
  | some (d, e2) => match e2[j]? with
    | some (some (.ow _)) => match mi e2 with
      | some (.val (.int k), e3) => match e3[j]? with
        | some (some (.ow ds)) => match ixN ds.length k with
          | some n => some (.nx, e3.set j (some (.ow (ds.set n d))))
          | none => none
        | _ => none
      | _ => none
    | _ => none
  | none => none
theorem rs_setI {pn : List Nat} {pu pv : Bool} {te ti : TE} {me mi : ME} {j : Nat} (h : RE pu te me) (hi : RE pv ti mi) : RS pn (tAsg te (gSub (tVar j) ti rSetL)) (mSetI j mi me) := by
  intro F H σ env Sl R c env' e D q
  obtain ⟨p, e1, h1, h2⟩ := bnd_of e
  split at h2
  · rename_i d e2 h3
    split at h2
    · rename_i ds0 h0
      split at h2
      · rename_i k e3 h4
        split at h2
        · rename_i ds h5
          split at h2
          · rename_i n h6
            cases h2
            refine h F H σ env Sl R p _ h1 _ fun r F1 H1 Sl1 s1 pu1 R1 r1 => ?_
            obtain ⟨F2, Sl2, s2, R2, r2⟩ := fz_ok R1 r1 h3
            obtain ⟨a, _, ha, _⟩ := R2.held h0
            refine ⟨_, ha, ?_⟩
            refine hi F2 H1 σ e2 Sl2 R2 _ _ h4 _ fun r' F3 H3 Sl3 s3 pu3 R3 r3 => ?_
            obtain ⟨a', vs, ha', hH, rr⟩ := R3.held h5
            rw [ha] at ha'
            cases ha'
            obtain ⟨s4, R4⟩ := R3.write h5 ha (vs' := vs.set n r) (rr.set n (Rp.mono s3.exF r2))
            refine ⟨a, vs, k, n, rfl, pint r3, hH, by rw [← rr.len]; exact h6, ?_⟩
            exact q _ _ σ _ (s1.trans (s2.trans (s3.trans s4))) R4 fun _ _ => rfl
          · cases h2
        · cases h2
      · cases h2
    · cases h2
  · cases h2
/-- xs.append(e) -/
def mApp (j : Nat) (ma : MA) : MS := fun env => match env[j]? with
  | some (some (.ow _)) => match ma env with
    | some ([p], e1) => match fzP e1 p with
      | some (d, e2) => match e2[j]? with
        | some (some (.ow ds)) => if ds.length < sizeLine then some (.nx, e2.set j (some (.ow (ds ++ [d])))) else none
        | _ => none
      | none => none
    | _ => none
  | _ => none
theorem rs_app {K : PySem.W.Frag} {pn : List Nat} {pu : Bool} {ta : TA} {ma : MA} {j : Nat} (h : RA pu ta ma) : RS pn (tDrop (tBM K "list" rAppend (tVar j) ta)) (mApp j ma) := by
  intro F H σ env Sl R c env' e D q
  unfold mApp at e
  split at e
  · rename_i ds0 h0
    split at e
    · rename_i p e1 h1
      split at e
      · rename_i d e2 h3
        split at e
        · rename_i ds h5
          split at e
          · rename_i hl
            cases e
            obtain ⟨a, vs0, ha, hH0, _⟩ := R.held h0
            refine ⟨_, ha, Or.inl ⟨rfl, vs0, SqL.of hH0⟩, ?_⟩
            refine h F H σ env Sl R _ _ h1 _ fun r F1 H1 Sl1 s1 pu1 R1 r1 => ?_
            cases r1 with
            | cons x t =>
              cases t
              obtain ⟨F2, Sl2, s2, R2, r2⟩ := fz_ok R1 x h3
              obtain ⟨a', vs, ha', hH, rr⟩ := R2.held h5
              rw [ha] at ha'
              cases ha'
              rename_i v
              obtain ⟨s4, R4⟩ := R2.write h5 ha (vs' := vs ++ [v]) (rr.snoc r2)
              exact ⟨a, vs, v, rfl, rfl, hH, by rw [← rr.len]; exact hl, q _ _ σ _ (s1.trans (s2.trans s4)) R4 fun _ _ => rfl⟩
          · cases e
        · cases e
      · cases e
    · cases e
  · cases e
/-- e -/
def mDrop (me : ME) : MS := bnd me fun _ e => some (.nx, e)
theorem rs_drop {pn : List Nat} {pu : Bool} {te : TE} {me : ME} (h : RE pu te me) : RS pn (tDrop te) (mDrop me) := by
  intro F H σ env Sl R c env' e D q
  obtain ⟨p, e1, h1, h2⟩ := bnd_of e
  cases h2
  exact h F H σ env Sl R p _ h1 _ fun r F1 H1 Sl1 s1 pu1 R1 r1 => q F1 H1 σ Sl1 s1 R1 fun _ _ => rfl
/-- return e; return a list that is handed over -/
def mRet (me : ME) : MS := bnd me fun p e => match fzP e p with
  | some (d, e2) => some (.rt (.fz d), e2)
  | none => none
theorem rs_ret {pn : List Nat} {pu : Bool} {te : TE} {me : ME} (h : RE pu te me) : RS pn (tRet te) (mRet me) := by
  intro F H σ env Sl R c env' e D q
  obtain ⟨p, e1, h1, h2⟩ := bnd_of e
  split at h2
  · rename_i d e2 h3
    cases h2
    refine h F H σ env Sl R p _ h1 _ fun r F1 H1 Sl1 s1 pu1 R1 r1 => ?_
    obtain ⟨F2, Sl2, s2, R2, r2⟩ := fz_ok R1 r1 h3
    exact q r F2 H1 σ Sl2 (fun _ => False) (s1.trans s2) R2 (fun _ _ => rfl) r2 (fun _ _ z => z.elim) (fun _ z => z.elim) fun _ z => z.elim
  · cases h2
def mRetO (mo : MO) : MS := bnd mo fun o e => some (.rt o, e)
theorem rs_retO {pn : List Nat} {te : TE} {mo : MO} (h : RO te mo) : RS pn (tRet te) (mRetO mo) := by
  intro F H σ env Sl R c env' e D q
  obtain ⟨o, e1, h1, h2⟩ := bnd_of e
  cases h2
  exact h F H σ env Sl R o _ h1 _ fun v F1 H1 Sl1 T s1 R1 n => q v F1 H1 σ Sl1 T s1 R1 (fun _ _ => rfl) n.own (fun i a x => n.dj i a x) n.tr fun a z => .inl (n.nw a z)
/-- if -/
theorem rs_if {pn : List Nat} {pu : Bool} {tc : TT} {t u : TS} {mc : MT} {m n : MS} (h : RT pu tc mc) (h1 : RS pn t m) (h2 : RS pn u n) : RS pn (tIfS tc t u) (mIf mc m n) := by
  intro F H σ env Sl R c env' e D q
  obtain ⟨b1, e1, x1, x2⟩ := bnd_of e
  refine h F H σ env Sl R b1 _ x1 _ fun r F1 H1 Sl1 s1 pu1 R1 r1 => ?_
  cases r1
  cases b1 with
  | true =>
    rw [if_pos rfl]
    exact h1 F1 H1 σ e1 Sl1 R1 c _ x2 D (q.step s1 fun _ _ => rfl)
  | false =>
    rw [if_neg Bool.false_ne_true]
    exact h2 F1 H1 σ e1 Sl1 R1 c _ x2 D (q.step s1 fun _ _ => rfl)
end Tr
namespace Tr
open PySem PySem.Spec PyProof.Rows L2

/-! ### loops -/
def mForGo (mg : PyData → En → Option En) (mb : MS) : List PyData → MS
  | [], env => some (.nx, env)
  | d :: ds, env => match mg d env with
    | some e1 => match mb e1 with
      | some (.nx, e2) => mForGo mg mb ds e2
      | some (.ct, e2) => mForGo mg mb ds e2
      | some (.bk, e2) => some (.nx, e2)
      | some (.rt o, e2) => some (.rt o, e2)
      | none => none
    | none => none
def mFor (mi : ML) (mg : PyData → En → Option En) (mb : MS) : MS := bnd mi fun ds e => mForGo mg mb ds e
theorem rs_for {pn : List Nat} {wi : TI} {g : TG} {tb : TS} {is : List Nat} {mi : ML} {mg : PyData → En → Option En} {mb : MS} (hi : RI wi mi) (hg : RT' is g mg) (hb : RS pn tb mb) (hp : ∀ i, i ∈ pn → i ∉ is := by simp) : RS pn (tFor wi g tb) (mFor mi mg mb) := by
  intro F H σ env Sl R c env' e D q
  obtain ⟨xs, e0, h1, h2⟩ := bnd_of e
  refine hi F H σ env Sl R xs _ h1 _ fun J F1 H1 Sl1 s1 R1 hJ => ?_
  have q1 := q.step s1 fun _ _ => rfl
  refine ⟨fun i m σi Hi => ∃ Fi Sli envi, i ≤ xs.length ∧ m = xs.length - i ∧ Ex F1 Fi ∧ REnv Fi Hi σi envi Sli ∧ EndsAt pn D Fi Hi Sli σi c env' ∧ mForGo mg mb (xs.drop i) envi = some (c, env'), ⟨xs.length, F1, Sl1, e0, Nat.zero_le _, by omega, Ex.refl F1, R1, q1, h2⟩, ?_⟩
  rintro i m σi Hi ⟨Fi, Sli, envi, hil, hm, exi, Ri, qi, go⟩
  cases hx : xs[i]? with
  | none =>
    have hge : xs.length ≤ i := List.getElem?_eq_none_iff.mp hx
    rw [List.drop_eq_nil_of_le hge] at go
    have go' : some (Ctl.nx, envi) = some (c, env') := go
    cases go'
    exact .inl ⟨(hJ Fi Hi exi Ri.ex i).2 hx, qi Fi Hi σi Sli Step.refl Ri fun _ _ => rfl⟩
  | some d =>
    have hlt : i < xs.length := (List.getElem?_eq_some_iff.mp hx).1
    have hd : xs.drop i = d :: xs.drop (i + 1) := by
      rw [List.drop_eq_getElem_cons hlt]
      have := (List.getElem?_eq_some_iff.mp hx).2
      rw [this]
    rw [hd] at go
    unfold mForGo at go
    obtain ⟨jg, jy⟩ := (hJ Fi Hi exi Ri.ex i).1 d hx
    refine .inr ⟨jg, fun σ' H' => ∃ Fj Slj envj, i + 1 ≤ xs.length ∧ Ex F1 Fj ∧ REnv Fj H' σ' envj Slj ∧ EndsAt pn D Fj H' Slj σ' c env' ∧ mForGo mg mb (xs.drop (i + 1)) envj = some (c, env'), fun σ' H' ⟨Fj, Slj, envj, z1, z2, z3, z4, z5⟩ => ⟨xs.length - (i + 1), by omega, Fj, Slj, envj, z1, rfl, z2, z3, z4, z5⟩, fun x H' hy => ?_⟩
    obtain ⟨Fj, f1, f2, f3, f4, f5⟩ := jy x H' hy
    have Rj : REnv Fj H' σi envi Sli := Ri.grow f1 f2 f3 f4
    have qj := qi.step (Step.grow (Sl := Sli) f1 f2 f4) fun _ _ => rfl
    cases hg1 : mg d envi with
    | none => rw [hg1] at go; cases go
    | some e1 =>
      rw [hg1] at go
      refine hg Fj H' σi envi Sli x d Rj f5 e1 hg1 _ fun σ2 Sl4 R4 k4 p4 l4 => ?_
      have q4 := qj.step (Step.fewer k4) fun j z => p4 j (hp j z)
      cases hb1 : mb e1 with
      | none => simp only [hb1] at go; cases go
      | some ce =>
        obtain ⟨c1, e2⟩ := ce
        simp only [hb1] at go
        refine hb Fj H' σ2 e1 Sl4 R4 c1 e2 hb1 _ ?_
        cases c1 with
        | nx => exact fun F' H'' σ' Sl' s' R' p' => ⟨F', Sl', e2, hlt, exi.trans (f1.trans s'.exF), R', q4.step s' p', go⟩
        | ct => exact fun F' H'' σ' Sl' s' R' p' => ⟨F', Sl', e2, hlt, exi.trans (f1.trans s'.exF), R', q4.step s' p', go⟩
        | bk => cases go; exact q4
        | rt o => cases go; exact q4
/-! ### defs and calls -/
/-- a def as a function of what it is given: what it gives back, and what its parameters' lists hold then -/
abbrev MF := List O → Option (O × List O)
def mDef (n np : Nat) (pn : List Nat) (m : MS) : MF := fun os => if os.length = np then match m (os.map some ++ List.replicate (n - os.length) none) with
  | some (.rt r, env) => fin pn os env r
  | some (.nx, env) => fin pn os env (.fz .none)
  | _ => none else none
where
  fin (pn : List Nat) (os : List O) (env : En) (r : O) : Option (O × List O) := (finL pn os env).map fun os' => (r, os')
  finL : List Nat → List O → En → Option (List O)
    | [], os, _ => some os
    | j :: pn, os, env => match env[j]? with
      | some (some o) => finL pn (os.set j o) env
      | _ => none
theorem finL_spec : ∀ {pn : List Nat} {os os' : List O} {env : En}, mDef.finL pn os env = some os' → os'.length = os.length ∧ (∀ k, k ∉ pn → os'[k]? = os[k]?) ∧ (∀ k, k ∈ pn → k < os.length → ∃ o, env[k]? = some (some o) ∧ os'[k]? = some o)
  | [], os, os', env, h => by
    cases h
    exact ⟨rfl, fun _ _ => rfl, fun k hk => by simp at hk⟩
  | j :: pn, os, os', env, h => by
    unfold mDef.finL at h
    split at h
    · rename_i o ho
      obtain ⟨l, a, b⟩ := finL_spec h
      rw [List.length_set] at l b
      refine ⟨l, fun k hk => ?_, fun k hk hl => ?_⟩
      · have n1 : k ≠ j := fun z => hk (by rw [z]; exact List.mem_cons_self)
        rw [a k (fun z => hk (List.mem_cons_of_mem _ z)), List.getElem?_set_ne (Ne.symm n1)]
      · by_cases hp : k ∈ pn
        · exact b k hp hl
        · rcases List.mem_cons.mp hk with rfl | z
          · refine ⟨o, ho, ?_⟩
            rw [a k hp, List.getElem?_set_self (by exact hl)]
          · exact absurd z hp
    · cases h
/-- nothing is held among them, but for the place pn -/
def plainO : O → Bool
  | .fz _ => true
  | .sc _ _ => true
  | .kt _ _ => true
  | _ => false
theorem plain_own {F H F' H' : Hp} {o : O} {v : V} {S T : Addr → Prop} (h : Own F H o v S) (e : Ex F F') (p : plainO o = true) : Own F' H' o v T := by
  cases o with
  | fz d => exact Rp.mono e h
  | sc K ns => obtain ⟨a, q, h⟩ := h; exact ⟨a, q, ex_sq e h⟩
  | kt K xs => obtain ⟨a, q, h⟩ := h; exact ⟨a, q, ex_sqT e h⟩
  | rg _ _ => cases p
  | ow _ => cases p
  | ow2 _ => cases p
  | ob _ _ _ => cases p
  | tp _ => cases p
  | dk _ => cases p
  | dt _ => cases p
  | dd _ => cases p
def spOf (pn : List Nat) (mf : MF) : Sp := fun vs H Q _ => ∃ F os Sl r os', REnv F H (vs.map some) (os.map some) Sl ∧ (∀ k b, Sl k b → k ∈ pn) ∧ (∀ k o, os[k]? = some o → k ∉ pn → plainO o = true) ∧ mf os = some (r, os') ∧
  ∀ v F' H' Sl' T, Step F H Sl F' H' Sl' → REnv F' H' (vs.map some) (os'.map some) Sl' → (∀ k b, Sl' k b → k ∈ pn) → New F' H H' Sl' r v T → Q v H'
theorem by_len {n np : Nat} {pn : List Nat} {m : MS} {vs : List V} {H : Hp} {Q : VK} {E : XK} (h : spOf pn (mDef n np pn m) vs H Q E) : vs.length = np := by
  obtain ⟨F, os, Sl, r, os', R, _, _, hm, _⟩ := h
  have hl := R.len
  rw [List.length_map, List.length_map] at hl
  unfold mDef at hm
  split at hm
  · rename_i hn
    rw [hl, hn]
  · cases hm
end Tr
namespace Tr
open PySem PySem.Spec PyProof.Rows L2

theorem start_at {N : List Str} {vs : List V} {i : Nat} : (L2.start N vs)[i]? = if i < vs.length then (vs[i]?).map some else (if i < vs.length + (N.length - vs.length) then some none else none) := by
  unfold L2.start
  by_cases h : i < vs.length
  · rw [if_pos h, List.getElem?_append_left (by rw [List.length_map]; exact h), List.getElem?_map]
  · rw [if_neg h, List.getElem?_append_right (by rw [List.length_map]; omega), List.length_map, List.getElem?_replicate]
    by_cases h2 : i < vs.length + (N.length - vs.length)
    · rw [if_pos h2, if_pos (by omega)]
    · rw [if_neg h2, if_neg (by omega)]
theorem args_at {α : Type} {l : List α} {i : Nat} {o : α} (h : (l.map some)[i]? = some (some o)) : l[i]? = some o := by
  rw [List.getElem?_map] at h
  cases q : l[i]? with
  | none => rw [q] at h; cases h
  | some x => rw [q] at h; cases h; rfl
theorem env0_at {os : List O} {n i : Nat} {o : O} (h : (os.map some ++ List.replicate n none)[i]? = some (some o)) : os[i]? = some o := by
  by_cases hi : i < os.length
  · rw [List.getElem?_append_left (by rw [List.length_map]; exact hi)] at h
    exact args_at h
  · rw [List.getElem?_append_right (by rw [List.length_map]; omega), List.getElem?_replicate] at h
    split at h <;> cases h
theorem start_of {N : List Str} {vs : List V} {i : Nat} {v : V} (h : vs[i]? = some v) : (L2.start N vs)[i]? = some (some v) := by
  rw [start_at, if_pos (List.getElem?_eq_some_iff.mp h).1, h]
  rfl
theorem REnv.enter {F H : Hp} {N : List Str} {vs : List V} {os : List O} {Sl : Nat → Addr → Prop} (R : REnv F H (vs.map some) (os.map some) Sl) : REnv F H (L2.start N vs) (os.map some ++ List.replicate (N.length - os.length) none) Sl := by
  have hl : vs.length = os.length := by
    have := R.len
    rw [List.length_map, List.length_map] at this
    exact this
  refine ⟨R.ex, ?_, fun i o h => ?_, R.dj, R.tr⟩
  · unfold L2.start
    rw [List.length_append, List.length_append, List.length_map, List.length_map, List.length_replicate, List.length_replicate, hl]
  · obtain ⟨v, e, w⟩ := R.at_ i o (by rw [List.getElem?_map, env0_at h]; rfl)
    exact ⟨v, start_of (args_at e), w⟩
/-- what is left of the arguments behind a def's body -/
theorem leave {F H F' H' : Hp} {N : List Str} {pn : List Nat} {vs : List V} {os os' : List O} {Sl Sl' : Nat → Addr → Prop} {σ' : L2.St} {env' : En} {r r' : O} (R : REnv F H (vs.map some) (os.map some) Sl) (pl : ∀ k o, os[k]? = some o → k ∉ pn → plainO o = true) (hs : ∀ k b, Sl k b → k ∈ pn)
    (s : Step F H Sl F' H' Sl') (R' : REnv F' H' σ' env' Sl') (p : ∀ i, i ∈ pn → σ'[i]? = (L2.start N vs)[i]?) (e : mDef.fin pn os env' r = some (r', os')) :
    r' = r ∧ ∃ Sl'', Step F H Sl F' H' Sl'' ∧ REnv F' H' (vs.map some) (os'.map some) Sl'' ∧ (∀ k b, Sl'' k b → k ∈ pn) ∧ ∀ i a, Sl'' i a → Sl' i a := by
  have hl := R.len
  rw [List.length_map, List.length_map] at hl
  have plain : ∀ k o, os[k]? = some o → k ∉ pn → ∃ v, vs[k]? = some v ∧ ∀ T, Own F' H' o v T := fun k o h n => by
    obtain ⟨v, e1, w⟩ := R.at_ k o (by rw [List.getElem?_map, h]; rfl)
    exact ⟨v, args_at e1, fun T => plain_own w s.exF (pl k o h n)⟩
  unfold mDef.fin at e
  cases hf : mDef.finL pn os env' with
  | none => rw [hf] at e; cases e
  | some os1 =>
    rw [hf] at e
    cases e
    obtain ⟨hl1, hout, hin⟩ := finL_spec hf
    refine ⟨rfl, fun k b => k ∈ pn ∧ Sl' k b, s.trans (Step.fewer fun i a z => z.2), ⟨R'.ex, by rw [List.length_map, List.length_map, hl1]; exact hl, fun i u h => ?_, fun i k a x y => R'.dj i k a x.2 y.2, fun i a z => R'.tr i a z.2⟩, fun k b z => z.1, fun i a z => z.2⟩
    have h := args_at h
    by_cases hi : i ∈ pn
    · have hli : i < os.length := by rw [← hl1]; exact (List.getElem?_eq_some_iff.mp h).1
      obtain ⟨o, ho, ho'⟩ := hin i hi hli
      rw [h] at ho'
      cases ho'
      obtain ⟨v, hv, w⟩ := R'.at_ i u ho
      have hj : i < vs.length := by rw [hl]; exact hli
      have hvj : vs[i]? = some v := by
        rw [p i hi, start_at, if_pos hj] at hv
        cases q : vs[i]? with
        | none => rw [q] at hv; cases hv
        | some x => rw [q] at hv; cases hv; rfl
      exact ⟨v, by rw [List.getElem?_map, hvj]; rfl, w.sub fun a z => ⟨hi, z⟩⟩
    · rw [hout i hi] at h
      obtain ⟨v', hv', rr⟩ := plain i u h hi
      exact ⟨v', by rw [List.getElem?_map, hv']; rfl, rr _⟩
theorem def_ok {pn : List Nat} {t : TS} {m : MS} {N : List Str} {vs : List V} {H : Hp} {Q : VK} {E : XK} (h : RS pn t m) {np : Nat} (hsp : spOf pn (mDef N.length np pn m) vs H Q E) : t { nx := fun _ H' => Q .non H', rt := Q } (L2.start N vs) H := by
  obtain ⟨F, os, Sl, r, os', R, hs, pl, hm, q⟩ := hsp
  unfold mDef at hm
  split at hm
  case isFalse => cases hm
  split at hm
  · rename_i o env' h1
    refine h F H _ _ Sl R.enter (.rt o) env' h1 _ fun v F' H' σ' Sl' T s R' p w dj tr nw => ?_
    obtain ⟨rfl, Sl'', s'', R'', hs'', k⟩ := leave R pl hs s R' p hm
    refine q v F' H' Sl'' T s'' R'' hs'' ⟨w, fun i a x y => dj i a x (k i a y), tr, fun a z => ?_⟩
    rcases nw a z with y | ⟨i, hi, y⟩
    · exact y
    · exact absurd (hs i a y) hi
  · rename_i env' h1
    refine h F H _ _ Sl R.enter .nx env' h1 _ fun F' H' σ' Sl' s R' p => ?_
    obtain ⟨rfl, Sl'', s'', R'', hs'', k⟩ := leave R pl hs s R' p hm
    exact q .non F' H' Sl'' (fun _ => False) s'' R'' hs'' ⟨rfl, fun _ _ z => z.elim, fun _ z => z.elim, fun _ z => z.elim⟩
  · cases hm

/-! ### a call -/
def oneA (e : En) : P → Option (O × En)
  | .k K xs => some (.kt K xs, e)
  | .val d => some (.fz d, e)
  | .var i => match fzP e (.var i) with
    | some (d, e1) => some (.fz d, e1)
    | none => none
theorem oneA_ok {F H : Hp} {σ : L2.St} {env env' : En} {Sl : Nat → Addr → Prop} {v : V} {p : P} {o : O} (R : REnv F H σ env Sl) (h : RP F σ v p) (e : oneA env p = some (o, env')) : ∃ F' Sl', Step F H Sl F' H Sl' ∧ REnv F' H σ env' Sl' ∧ plainO o = true ∧ ∀ H' T, Own F' H' o v T := by
  cases p with
  | k K xs => cases e; exact ⟨F, Sl, Step.refl, R, rfl, fun _ _ => h⟩
  | val d => cases e; exact ⟨F, Sl, Step.refl, R, rfl, fun _ _ => h⟩
  | var i =>
    simp only [oneA] at e
    split at e
    · rename_i d e1 h1
      cases e
      obtain ⟨F1, Sl1, s1, R1, r1⟩ := fz_ok R h h1
      exact ⟨F1, Sl1, s1, R1, rfl, fun _ _ => r1⟩
    · cases e
def lentOf : P → Option Nat
  | .var i => some i
  | _ => none
/-- the arguments: at a place of pn a name lends what it alone holds; elsewhere what is handed over never changes any more -/
def prepA (pn : List Nat) : Nat → List P → En → Option (List O × List (Option Nat) × En)
  | _, [], e => some ([], [], e)
  | k, p :: ps, e => match (if k ∈ pn then lentOf p else none) with
    | some i => match prepA pn (k + 1) ps e with
      | some (os, ls, e2) => some (.fz .none :: os, some i :: ls, e2)
      | none => none
    | none => match oneA e p with
      | some (o, e1) => match prepA pn (k + 1) ps e1 with
        | some (os, ls, e2) => some (o :: os, none :: ls, e2)
        | none => none
      | none => none
theorem prepA_ok {H : Hp} {σ : L2.St} {pn : List Nat} : ∀ {ps : List P} {k : Nat} {F : Hp} {env env' : En} {Sl : Nat → Addr → Prop} {vs : List V} {os : List O} {ls : List (Option Nat)}, REnv F H σ env Sl → relA F σ vs ps → prepA pn k ps env = some (os, ls, env') →
    ∃ F' Sl', Step F H Sl F' H Sl' ∧ REnv F' H σ env' Sl' ∧ os.length = vs.length ∧ ls.length = vs.length ∧ ∀ j o v l, os[j]? = some o → vs[j]? = some v → ls[j]? = some l → (l = none → plainO o = true ∧ ∀ H' T, Own F' H' o v T) ∧ ∀ i, l = some i → k + j ∈ pn ∧ σ[i]? = some (some v)
  | [], k, F, env, env', Sl, vs, os, ls, R, h, e => by
    cases h
    cases e
    exact ⟨F, Sl, Step.refl, R, rfl, rfl, fun j o v l z => by simp at z⟩
  | p :: ps, k, F, env, env', Sl, vs, os, ls, R, h, e => by
    cases h with
    | cons a b =>
      unfold prepA at e
      split at e
      · rename_i i hi
        split at e
        · rename_i os' ls' e2 h2
          cases e
          obtain ⟨F2, Sl2, s2, R2, l2, l3, r2⟩ := prepA_ok R b h2
          refine ⟨F2, Sl2, s2, R2, by simp [l2], by simp [l3], fun j o v l x y z => ?_⟩
          cases j with
          | zero =>
            cases x; cases y; cases z
            refine ⟨(fun z => nomatch z), fun i' z => ?_⟩
            cases z
            split at hi
            · rename_i hk
              cases p with
              | var i2 => cases hi; exact ⟨hk, a⟩
              | val _ => cases hi
              | k _ _ => cases hi
            · cases hi
          | succ j =>
            obtain ⟨c1, c2⟩ := r2 j o v l x y z
            exact ⟨c1, fun i' w => by rw [show k + (j + 1) = k + 1 + j by omega]; exact c2 i' w⟩
        · cases e
      · split at e
        · rename_i o1 e1 h1
          split at e
          · rename_i os' ls' e2 h2
            cases e
            obtain ⟨F1, Sl1, s1, R1, p1, r1⟩ := oneA_ok R a h1
            obtain ⟨F2, Sl2, s2, R2, l2, l3, r2⟩ := prepA_ok R1 (b.mono fun _ _ => RP.mono s1.exF) h2
            refine ⟨F2, Sl2, s1.trans s2, R2, by simp [l2], by simp [l3], fun j o v l x y z => ?_⟩
            cases j with
            | zero =>
              cases x; cases y; cases z
              exact ⟨fun _ => ⟨p1, fun H' T => plain_own (r1 H' T) s2.exF p1⟩, (fun i z => nomatch z)⟩
            | succ j =>
              obtain ⟨c1, c2⟩ := r2 j o v l x y z
              exact ⟨c1, fun i' w => by rw [show k + (j + 1) = k + 1 + j by omega]; exact c2 i' w⟩
          · cases e
        · cases e
/-- no name lends twice -/
def lentsOk : List (Option Nat) → Bool
  | [] => true
  | none :: ls => lentsOk ls
  | some i :: ls => !(ls.contains (some i)) && lentsOk ls
theorem lents_inj : ∀ {ls : List (Option Nat)}, lentsOk ls = true → ∀ {j k i : Nat}, ls[j]? = some (some i) → ls[k]? = some (some i) → j = k
  | [], _, j, k, i, h, _ => by simp at h
  | none :: ls, h, j, k, i, h1, h2 => by
    cases j with
    | zero => simp at h1
    | succ j => cases k with
      | zero => simp at h2
      | succ k => exact congrArg Nat.succ (lents_inj (ls := ls) h (by simpa using h1) (by simpa using h2))
  | some i' :: ls, h, j, k, i, h1, h2 => by
    have h' : (!(ls.contains (some i')) && lentsOk ls) = true := h
    rw [Bool.and_eq_true, Bool.not_eq_true'] at h'
    have no : ∀ m : Nat, ls[m]? ≠ some (some i') := fun m z => by
      have : ls.contains (some i') = true := List.contains_iff_mem.mpr (List.mem_of_getElem? z)
      rw [h'.1] at this
      cases this
    cases j with
    | zero =>
      cases h1
      cases k with
      | zero => rfl
      | succ k => exact absurd (by simpa using h2) (no k)
    | succ j => cases k with
      | zero => cases h2; exact absurd (by simpa using h1) (no j)
      | succ k => exact congrArg Nat.succ (lents_inj (ls := ls) h'.2 (by simpa using h1) (by simpa using h2))
def lendA : List (Option Nat) → List O → En → Option (List O)
  | [], [], _ => some []
  | none :: ls, o :: os, e => (lendA ls os e).map (o :: ·)
  | some i :: ls, _ :: os, e => match e[i]? with
    | some (some o) => (lendA ls os e).map (o :: ·)
    | _ => none
  | _, _, _ => none
theorem lendA_ok : ∀ {ls : List (Option Nat)} {os os1 : List O} {e : En}, lendA ls os e = some os1 → os1.length = os.length ∧ ∀ j : Nat, (ls[j]? = some none → os1[j]? = os[j]?) ∧ ∀ i, ls[j]? = some (some i) → ∃ o, e[i]? = some (some o) ∧ os1[j]? = some o
  | [], [], os1, e, h => by cases h; exact ⟨rfl, fun j => ⟨fun z => by simp at z, fun i z => by simp at z⟩⟩
  | [], _ :: _, os1, e, h => nomatch h
  | none :: ls, [], os1, e, h => nomatch h
  | some _ :: ls, [], os1, e, h => nomatch h
  | none :: ls, o :: os, os1, e, h => by
    unfold lendA at h
    cases h1 : lendA ls os e with
    | none => rw [h1] at h; cases h
    | some r =>
      rw [h1] at h
      cases h
      obtain ⟨l, a⟩ := lendA_ok h1
      refine ⟨by simp [l], fun j => ?_⟩
      cases j with
      | zero => exact ⟨fun _ => rfl, (fun i z => by simp at z)⟩
      | succ j => simpa using a j
  | some i :: ls, o :: os, os1, e, h => by
    unfold lendA at h
    split at h
    · rename_i o2 ho
      cases h1 : lendA ls os e with
      | none => rw [h1] at h; cases h
      | some r =>
        rw [h1] at h
        cases h
        obtain ⟨l, a⟩ := lendA_ok h1
        refine ⟨by simp [l], fun j => ?_⟩
        cases j with
        | zero => exact ⟨(fun z => by simp at z), fun i' z => by cases z; exact ⟨o2, ho, rfl⟩⟩
        | succ j => simpa using a j
    · cases h
def backA : List (Option Nat) → List O → En → Option En
  | [], [], e => some e
  | none :: ls, _ :: os, e => backA ls os e
  | some i :: ls, o :: os, e => backA ls os (e.set i (some o))
  | _, _, _ => none
theorem backA_ok : ∀ {ls : List (Option Nat)} {os : List O} {e e' : En}, lentsOk ls = true → backA ls os e = some e' → e'.length = e.length ∧ (∀ i : Nat, (∀ j : Nat, ls[j]? ≠ some (some i)) → e'[i]? = e[i]?) ∧ ∀ (j i : Nat) (o : O), ls[j]? = some (some i) → os[j]? = some o → i < e.length → e'[i]? = some (some o)
  | [], [], e, e', _, h => by cases h; exact ⟨rfl, fun _ _ => rfl, fun j i o z => by simp at z⟩
  | [], _ :: _, e, e', _, h => nomatch h
  | none :: ls, [], e, e', _, h => nomatch h
  | some _ :: ls, [], e, e', _, h => nomatch h
  | none :: ls, o :: os, e, e', n, h => by
    obtain ⟨l, a, b⟩ := backA_ok (ls := ls) n h
    refine ⟨l, fun i z => a i fun j w => z (j + 1) (by simpa using w), fun j i o2 x y z => ?_⟩
    cases j with
    | zero => simp at x
    | succ j => exact b j i o2 (by simpa using x) (by simpa using y) z
  | some i0 :: ls, o :: os, e, e', n, h => by
    have n' : (!(ls.contains (some i0)) && lentsOk ls) = true := n
    rw [Bool.and_eq_true, Bool.not_eq_true'] at n'
    have no : ∀ m : Nat, ls[m]? ≠ some (some i0) := fun m z => by
      have : ls.contains (some i0) = true := List.contains_iff_mem.mpr (List.mem_of_getElem? z)
      rw [n'.1] at this
      cases this
    obtain ⟨l, a, b⟩ := backA_ok (ls := ls) n'.2 h
    rw [List.length_set] at l b
    refine ⟨l, fun i z => ?_, fun j i o2 x y z => ?_⟩
    · rw [a i fun j w => z (j + 1) (by simpa using w), List.getElem?_set_ne (fun w => z 0 (by rw [w]; rfl))]
    · cases j with
      | zero =>
        cases x; cases y
        rw [a i0 no, List.getElem?_set_self z]
      | succ j => exact b j i o2 (by simpa using x) (by simpa using y) z
def callP (pn : List Nat) (mf : MF) (ps : List P) (e : En) : Option (O × En) := match prepA pn 0 ps e with
  | some (os, ls, e2) => if lentsOk ls = true then match lendA ls os e2 with
    | some os1 => match mf os1 with
      | some (r, os') => match backA ls os' e2 with
        | some e3 => some (r, e3)
        | none => none
      | none => none
    | none => none else none
  | none => none
theorem call_core {F H : Hp} {σ : L2.St} {e1 e2 : En} {Sl : Nat → Addr → Prop} {vs : List V} {ps : List P} {pn : List Nat} {mf : MF} {r : O} {E : XK} (R1 : REnv F H σ e1 Sl) (r1 : relA F σ vs ps) (h : callP pn mf ps e1 = some (r, e2)) (Q : VK)
    (q : ∀ v F' H' Sl' T, Step F H Sl F' H' Sl' → REnv F' H' σ e2 Sl' → New F' H H' Sl' r v T → Q v H') : spOf pn mf vs H Q E := by
  unfold callP at h
  split at h
  case h_2 => cases h
  rename_i os ls e3 h3
  split at h
  case isFalse => cases h
  rename_i nd
  split at h
  case h_2 => cases h
  rename_i os1 h4
  split at h
  case h_2 => cases h
  rename_i r0 os' h5
  split at h
  case h_2 => cases h
  rename_i e4 h6
  cases h
  obtain ⟨F2, Sl2, s2, R2, l2, l3, sp⟩ := prepA_ok R1 r1 h3
  obtain ⟨la, aa⟩ := lendA_ok h4
  obtain ⟨lb, ab, bb⟩ := backA_ok nd h6
  have look : ∀ {j : Nat} {o : O}, os1[j]? = some o → ∃ v l, vs[j]? = some v ∧ ls[j]? = some l ∧ ((l = none ∧ plainO o = true ∧ ∀ H' T, Own F2 H' o v T) ∨ ∃ i, l = some i ∧ j ∈ pn ∧ σ[i]? = some (some v) ∧ e3[i]? = some (some o)) := fun {j o} hj => by
    have hl : j < vs.length := by rw [← l2, ← la]; exact (List.getElem?_eq_some_iff.mp hj).1
    have ho : os[j]? = some (os[j]'(by rw [l2]; exact hl)) := List.getElem?_eq_getElem _
    have hv : vs[j]? = some vs[j] := List.getElem?_eq_getElem hl
    have hls : ls[j]? = some (ls[j]'(by rw [l3]; exact hl)) := List.getElem?_eq_getElem _
    refine ⟨_, _, hv, hls, ?_⟩
    obtain ⟨c1, c2⟩ := sp j _ _ _ ho hv hls
    cases hc : ls[j]'(by rw [l3]; exact hl) with
    | none =>
      rw [hc] at hls
      rw [(aa j).1 hls, ho] at hj
      cases hj
      exact .inl ⟨rfl, c1 hc⟩
    | some i =>
      rw [hc] at hls
      obtain ⟨o2, x, y⟩ := (aa j).2 i hls
      rw [hj] at y
      cases y
      obtain ⟨d1, d2⟩ := c2 i hc
      exact .inr ⟨i, rfl, by rw [Nat.zero_add] at d1; exact d1, d2, x⟩
  refine ⟨F2, os1, fun k b => ∃ i, ls[k]? = some (some i) ∧ Sl2 i b, _, os', ⟨R2.ex, by rw [List.length_map, List.length_map, la, l2], fun j u hu => ?_, fun a b c ⟨i, x, y⟩ ⟨i', x', y'⟩ => ?_, fun k a ⟨i, _, z⟩ => R2.tr i a z⟩, fun k b ⟨i, x, z⟩ => ?_, fun k u hu n => ?_, h5, fun v F3 H3 Sl3 T s3 R3 hs3 n3 => ?_⟩
  · obtain ⟨v, l, hv, hls, c⟩ := look (args_at hu)
    refine ⟨v, by rw [List.getElem?_map, hv]; rfl, ?_⟩
    rcases c with ⟨_, _, w⟩ | ⟨i, rfl, _, hσ, he⟩
    · exact w _ _
    · obtain ⟨v2, e5, w⟩ := R2.at_ i u he
      rw [hσ] at e5
      cases e5
      exact w.sub fun a z => ⟨i, hls, z⟩
  · cases R2.dj i i' c y y'
    exact lents_inj nd x x'
  · have hk : k < vs.length := by rw [← l3]; exact (List.getElem?_eq_some_iff.mp x).1
    have := (sp k (os[k]'(by rw [l2]; exact hk)) vs[k] _ (List.getElem?_eq_getElem _) (List.getElem?_eq_getElem _) x).2 i rfl
    rw [Nat.zero_add] at this
    exact this.1
  · obtain ⟨v, l, hv, hls, c⟩ := look hu
    rcases c with ⟨_, p, _⟩ | ⟨i, _, hk, _⟩
    · exact p
    · exact absurd hk n
  · have R3l : vs.length = os'.length := by
      have := R3.len
      rw [List.length_map, List.length_map] at this
      exact this
    have s4 : Step F2 H Sl2 F3 H3 (fun i b => (∃ k, ls[k]? = some (some i) ∧ Sl3 k b) ∨ ((∀ k : Nat, ls[k]? ≠ some (some i)) ∧ Sl2 i b)) := by
      refine ⟨s3.exF, fun b u z n => s3.fr b u z fun k ⟨i, _, y⟩ => n i y, s3.tk, fun i b z => ?_, fun b u z => ?_⟩
      · rcases z with ⟨k, hk, z⟩ | ⟨_, z⟩
        · rcases s3.own k b z with ⟨i', hk', y⟩ | y
          · rw [hk] at hk'
            cases hk'
            exact .inl y
          · exact .inr y
        · exact .inl z
      · rcases s3.fz b u z with y | y | ⟨k, i, _, y⟩
        · exact .inl y
        · exact .inr (.inl y)
        · exact .inr (.inr ⟨i, y⟩)
    have apart : ∀ i k a, (∀ k : Nat, ls[k]? ≠ some (some i)) → Sl2 i a → ¬ Sl3 k a := fun i k a n x y => by
      rcases s3.own k a y with ⟨i', hk, z⟩ | z
      · cases R2.dj i i' a x z
        exact n k hk
      · obtain ⟨_, u, z'⟩ := R2.tr i a x
        rw [z] at z'
        cases z'
    have R4 : REnv F3 H3 σ e2 (fun i b => (∃ k, ls[k]? = some (some i) ∧ Sl3 k b) ∨ ((∀ k : Nat, ls[k]? ≠ some (some i)) ∧ Sl2 i b)) := by
      refine ⟨R3.ex, by rw [lb]; exact R2.len, fun i o hi => ?_, fun i j a x y => ?_, fun i a x => ?_⟩
      · by_cases hlt : ∃ k : Nat, ls[k]? = some (some i)
        · obtain ⟨k, hk⟩ := hlt
          have hkl : k < vs.length := by rw [← l3]; exact (List.getElem?_eq_some_iff.mp hk).1
          have hok : os'[k]? = some (os'[k]'(by rw [← R3l]; exact hkl)) := List.getElem?_eq_getElem _
          obtain ⟨o2, x, _⟩ := (aa k).2 i hk
          have := bb k i _ hk hok (List.getElem?_eq_some_iff.mp x).1
          rw [hi] at this
          cases this
          obtain ⟨v7, e8, w7⟩ := R3.at_ k _ (by rw [List.getElem?_map, hok]; rfl)
          have e9 := args_at e8
          obtain ⟨_, hσ⟩ := (sp k _ v7 _ (List.getElem?_eq_getElem (by rw [l2]; exact hkl)) e9 hk).2 i rfl
          exact ⟨v7, hσ, w7.sub fun a z => .inl ⟨k, hk, z⟩⟩
        · have n : ∀ k : Nat, ls[k]? ≠ some (some i) := fun k z => hlt ⟨k, z⟩
          rw [ab i n] at hi
          obtain ⟨v7, e8, w7⟩ := R2.at_ i o hi
          exact ⟨v7, e8, (w7.ext s3.exF fun a x s y => s3.fr a x y fun m ⟨i', hm, z⟩ => by cases R2.dj i i' a s z; exact n m hm).sub fun a s => .inr ⟨n, s⟩⟩
      · rcases x with ⟨k, hk, x⟩ | ⟨n1, x⟩
        · rcases y with ⟨k', hk', y⟩ | ⟨n2, y⟩
          · cases R3.dj k k' a x y
            rw [hk] at hk'
            cases hk'
            rfl
          · exact absurd x (apart j k a n2 y)
        · rcases y with ⟨k', hk', y⟩ | ⟨n2, y⟩
          · exact absurd y (apart i k' a n1 x)
          · exact R2.dj i j a x y
      · rcases x with ⟨k, hk, x⟩ | ⟨n1, x⟩
        · exact R3.tr k a x
        · obtain ⟨y1, u, y2⟩ := R2.tr i a x
          refine ⟨?_, s3.tk a u y2⟩
          cases z : F3 a with
          | none => rfl
          | some u' =>
            rcases s3.fz a u' z with y | y | ⟨k, i', hk, y⟩
            · rw [y1] at y; cases y
            · rw [y2] at y; cases y
            · cases R2.dj i i' a x y
              exact absurd hk (n1 k)
    refine q v F3 H3 _ T (s2.trans s4) R4 ⟨n3.own, fun i a x y => ?_, n3.tr, fun a x => s2.tkb (n3.nw a x)⟩
    rcases y with ⟨k, _, y⟩ | ⟨_, y⟩
    · exact n3.dj k a x y
    · obtain ⟨_, u, z⟩ := R2.tr i a y
      rw [n3.nw a x] at z
      cases z
/-- f(..): the lists that the names at the places pn alone hold may be changed -/
def mCall (pn : List Nat) (mf : MF) (ma : MA) : MO := bnd ma fun ps e => callP pn mf ps e
theorem ro_call {pu : Bool} {ta : TA} {ma : MA} {pn : List Nat} {mf : MF} {E : XK} (h : RA pu ta ma) : RO (tCall (spOf pn mf) [] E ta) (mCall pn mf ma) := by
  intro F H σ env Sl R o env' e Q q
  obtain ⟨ps, e1, h1, h2⟩ := bnd_of e
  refine h F H σ env Sl R ps _ h1 _ fun vs F1 H1 Sl1 s1 pu1 R1 r1 => ?_
  rw [List.append_nil]
  exact call_core R1 r1 h2 Q fun v F' H' Sl' T s R' n => q v F' H' Sl' T (s1.trans s) R' (n.mono0 fun _ z => s1.tkb z)
/-- what is new is fixed at once -/
def mFz (mo : MO) : ME := bnd mo fun o e => match o.dat with
  | some d => some (.val d, e)
  | none => none
theorem re_o {te : TE} {mo : MO} (h : RO te mo) : RE false te (mFz mo) := by
  intro F H σ env Sl R p env' e Q q
  obtain ⟨o, e1, h1, h2⟩ := bnd_of e
  split at h2
  · rename_i d hd
    cases h2
    refine h F H σ env Sl R o _ h1 Q fun v F1 H1 Sl1 T s1 R1 n => ?_
    have ex : Ex F1 (fixed F1 H1 T) := fun a u z => by
      rw [fixed_out fun y => by rw [(n.tr a y).1] at z; cases z]
      exact z
    refine q v (fixed F1 H1 T) H1 Sl1 ⟨s1.exF.trans ex, s1.fr, s1.tk, s1.own, fun b u z => ?_⟩ (fun z => nomatch z) ⟨fun b u z => ?_, R1.len, fun i u z => ?_, R1.dj, fun i a z => ?_⟩ (n.own.fix (fun a z => (n.tr a z).1) hd)
    · by_cases t : T b
      · exact .inr (.inl (n.nw b t))
      · rw [fixed_out t] at z; exact s1.fz b u z
    · by_cases t : T b
      · rw [fixed_in t] at z; exact z
      · rw [fixed_out t] at z; exact R1.ex b u z
    · obtain ⟨v2, e2, w2⟩ := R1.at_ i u z
      exact ⟨v2, e2, w2.ext ex fun _ _ _ y => y⟩
    · obtain ⟨y1, y2⟩ := R1.tr i a z
      refine ⟨?_, y2⟩
      rw [fixed_out fun t => n.dj i a t z]
      exact y1
  · cases h2
end Tr
namespace Tr
open PySem PySem.Spec PyProof.Rows L2

/-! ### powers of any base -/
/-- the result within 2 ^ 27 bits -/
def CPowX (i j : Int) : Prop := 0 ≤ j ∧ (Builtin.Int.intBits i : Int) * j ≤ 2 ^ 27
theorem op_powX {X : Cx} : OpR X (binaryOp .Pow) (rI CPowX fun i j => .int (i ^ j.toNat)) := opI fun _ _ _ _ _ _ _ hc q => pow_int hc.1 hc.2 q
theorem b_pow : BinK (rI CPowX fun i j => .int (i ^ j.toNat)) (gI (fun i j => decide (0 ≤ j ∧ (Builtin.Int.intBits i : Int) * j ≤ 2 ^ 27)) fun i j => .int (i ^ j.toNat)) := bin_I (fun i j h => show 0 ≤ j ∧ (Builtin.Int.intBits i : Int) * j ≤ 2 ^ 27 from of_decide_eq_true h) fun _ _ _ => rfl
/-! ### built-in functions -/
def gLen : En → List P → Option P := fun env ps => match ps with
  | [p] => match vw env p with
    | some (.list ds) => some (.val (.int (ds.length : Nat)))
    | some (.tuple ds) => some (.val (.int (ds.length : Nat)))
    | _ => none
  | _ => none
theorem f_len {K : PySem.W.Frag} : FnK (fun xs H Q => ∃ p ys, xs = [.ref p] ∧ (SqL K H p ys ∨ SqT K H p ys) ∧ Q (.int ys.length) H) gLen := by
  intro F H σ env Sl xs ps p R h e Q q
  unfold gLen at e
  split at e
  · rename_i p1
    cases h with
    | cons a t =>
      cases t
      split at e
      · rename_i ds h1
        cases e
        obtain ⟨b, ys, rfl, hs, hall⟩ := rp_list.mp (vw_rp R a h1)
        exact ⟨_, _, rfl, .inl (SqL.of hs), q _ F H (Ex.refl F) (Ex.refl H) R.ex (fun _ _ z => .inl z) (by show V.int _ = V.int _; rw [hall.len])⟩
      · rename_i ds h1
        cases e
        obtain ⟨b, ys, rfl, hs, hall⟩ := rp_tuple.mp (vw_rp R a h1)
        exact ⟨_, _, rfl, .inr (SqT.of hs), q _ F H (Ex.refl F) (Ex.refl H) R.ex (fun _ _ z => .inl z) (by show V.int _ = V.int _; rw [hall.len])⟩
      · cases e
  · cases e
def gInt : En → List P → Option P := fun _ ps => match ps with
  | [.val (.int i)] => some (.val (.int i))
  | [.val (.bool b)] => some (.val (.int (if b then 1 else 0)))
  | _ => none
theorem f_int : FnK (fun xs H Q => (∃ i, xs = [.int i] ∧ Q (.int i) H) ∨ ∃ k, xs = [.bl k] ∧ Q (.int (if k then 1 else 0)) H) gInt := by
  intro F H σ env Sl xs ps p R h e Q q
  unfold gInt at e
  split at e
  · cases e
    cases h with
    | cons a t => cases t; exact .inl ⟨_, by rw [pint a], q _ F H (Ex.refl F) (Ex.refl H) R.ex (fun _ _ z => .inl z) rfl⟩
  · cases e
    cases h with
    | cons a t => cases t; exact .inr ⟨_, by rw [pbool a], q _ F H (Ex.refl F) (Ex.refl H) R.ex (fun _ _ z => .inl z) rfl⟩
  · cases e
/-- all truth values -/
def allB : List PyData → Option (List Bool)
  | [] => some []
  | .bool b :: ds => (allB ds).map (b :: ·)
  | _ :: _ => none
theorem allB_ok {F : Hp} : ∀ {ds : List PyData} {vs : List V} {bs : List Bool}, All2 (Rp F) ds vs → allB ds = some bs → vs = bs.map V.bl
  | [], _, _, .nil, e => by cases e; rfl
  | .bool b :: ds, _, _, .cons r t, e => by
    unfold allB at e
    cases h : allB ds with
    | none => rw [h] at e; cases e
    | some bs' =>
      rw [h] at e
      cases e
      rw [allB_ok t h, rp_bool r]
      rfl
  | .none :: _, _, _, _, e => nomatch e
  | .int _ :: _, _, _, _, e => nomatch e
  | .str _ :: _, _, _, _, e => nomatch e
  | .list _ :: _, _, _, _, e => nomatch e
  | .tuple _ :: _, _, _, _, e => nomatch e
  | .dict _ :: _, _, _, _, e => nomatch e
def gAll : En → List P → Option P := fun env ps => match ps with
  | [p] => ((sq env p).bind allB).map fun bs => .val (.bool (bs.all id))
  | _ => none
theorem f_all {K : PySem.W.Frag} : FnK (rAll K) gAll := by
  intro F H σ env Sl xs ps p R h e Q q
  unfold gAll at e
  split at e
  · rename_i p1
    cases h with
    | cons a t =>
      cases t
      cases h1 : sq env p1 with
      | none => rw [h1] at e; cases e
      | some ds =>
        cases h2 : allB ds with
        | none => simp only [h1, Option.bind_some, h2] at e; cases e
        | some bs =>
          simp only [h1, Option.bind_some, h2, Option.map_some] at e
          cases e
          obtain ⟨l, vs, rfl, hl, r⟩ := sq_of R a h1
          have e2 := allB_ok r h2
          exact ⟨l, bs, rfl, SqL.of (by rw [← e2]; exact hl), q _ F H (Ex.refl F) (Ex.refl H) R.ex (fun _ _ z => .inl z) rfl⟩
  · cases e
/-- all whole numbers -/
def allI : List PyData → Option (List Int)
  | [] => some []
  | .int b :: ds => (allI ds).map (b :: ·)
  | _ :: _ => none
theorem allI_ok {F : Hp} : ∀ {ds : List PyData} {vs : List V} {bs : List Int}, All2 (Rp F) ds vs → allI ds = some bs → vs = bs.map V.int
  | [], _, _, .nil, e => by cases e; rfl
  | .int b :: ds, _, _, .cons r t, e => by
    unfold allI at e
    cases h : allI ds with
    | none => rw [h] at e; cases e
    | some bs' =>
      rw [h] at e
      cases e
      rw [allI_ok t h, rp_int r]
      rfl
  | .none :: _, _, _, _, e => nomatch e
  | .bool _ :: _, _, _, _, e => nomatch e
  | .str _ :: _, _, _, _, e => nomatch e
  | .list _ :: _, _, _, _, e => nomatch e
  | .tuple _ :: _, _, _, _, e => nomatch e
  | .dict _ :: _, _, _, _, e => nomatch e
theorem allI_map : ∀ ns : List Int, allI (ns.map .int) = some ns
  | [] => rfl
  | n :: ns => by show (allI (ns.map .int)).map _ = _; rw [allI_map ns]; rfl
theorem allB_map : ∀ ns : List Bool, allB (ns.map .bool) = some ns
  | [] => rfl
  | n :: ns => by show (allB (ns.map .bool)).map _ = _; rw [allB_map ns]; rfl
/-! isinstance(x, T), T a built-in class -/
def tyName : PyData → String
  | .none => "NoneType"
  | .bool _ => "bool"
  | .int _ => "int"
  | .str _ => "str"
  | .list _ => "list"
  | .tuple _ => "tuple"
  | .dict _ => "dict"
def isT (T : String) (d : PyData) : Bool := tyName d == T || (T == "int" && tyName d == "bool")
theorem kit_key : ∀ a ∈ ["NoneType", "bool", "int", "str", "list", "tuple", "dict"], ∀ T ∈ ["int", "bool", "list", "tuple", "str"], kitB a T = some (a == T || (T == "int" && a == "bool")) := by decide +kernel
theorem kit_is (T : String) (h : T ∈ ["int", "bool", "list", "tuple", "str"]) {K : PySem.W.Frag} (d : PyData) : PySem.W.kitOne K (.type (tyName d)) (.type T) = some (isT T d) := by
  refine kit_ty (kit_key (tyName d) ?_ T h)
  cases d <;> simp [tyName]
theorem tyx_of {K : PySem.W.Frag} {H : Hp} {d : PyData} {v : V} (h : Rp H d v) : TyX K H v (.type (tyName d)) := by
  cases d with
  | none => cases (show v = .non from h); exact .base .non
  | bool b => cases (show v = .bl b from h); exact .base (.bl _)
  | int i => cases (show v = .int i from h); exact .base (.int _)
  | str x => cases (show v = .str x from h); exact .base (.str _)
  | list ds =>
    obtain ⟨a, vs, rfl, h1, _⟩ := h
    exact .base (.lst h1)
  | tuple ds =>
    obtain ⟨a, vs, rfl, h1, _⟩ := h
    exact .base (.tup h1)
  | dict kvs =>
    obtain ⟨_, a, rfl, h1⟩ := h
    exact .base (.dK h1)
def mIsi (T : String) (me : ME) : ME := bnd me fun p e => (vw e p).map fun d => (.val (.bool (isT T d)), e)
theorem re_isi {K : PySem.W.Frag} {pu : Bool} {te : TE} {me : ME} (T : String) (h : RE pu te me) (hT : T ∈ ["int", "bool", "list", "tuple", "str"] := by simp) : RE pu (tCB (rIsi K) (tCons te (tCons (tC (.ty T)) tNil))) (mIsi T me) := by
  intro F H σ env Sl R p env' e Q q
  obtain ⟨p1, e1, h1, h2⟩ := bnd_of e
  cases h3 : vw e1 p1 with
  | none => rw [h3] at h2; cases h2
  | some d =>
    rw [h3] at h2
    cases h2
    refine h F H σ env Sl R p1 _ h1 _ fun r F1 H1 Sl1 s1 pu1 R1 r1 => ?_
    have t1 := tyx_of (K := K) (vw_rp R1 r1 h3)
    exact ⟨r, .ty T, .type (tyName d), .type T, isT T d, rfl, .ty T, t1, kit_is T hT d, q _ F1 H1 Sl1 s1 pu1 R1 rfl⟩
/-! x in xs, of things without parts -/
def flat : PyData → Bool
  | .none => true
  | .bool _ => true
  | .int _ => true
  | .str _ => true
  | _ => false
def gIn (neg : Bool) : En → P → P → Option P := fun env p q => match p with
  | .val d => match sqT env q with
    | some ds => if flat d && ds.all flat then some (.val (.bool (neg ^^ ds.any fun y => PyData.eqv y d))) else none
    | none => none
  | _ => none
theorem flat_v {F : Hp} {d : PyData} {v : V} (h : Rp F d v) (e : flat d = true) : flatV v = true := by
  cases d with
  | none => rw [rp_none h]; rfl
  | bool b => rw [rp_bool h]; rfl
  | int b => rw [rp_int h]; rfl
  | str b => rw [rp_str h]; rfl
  | list ds => cases e
  | tuple ds => cases e
  | dict _ => cases e
theorem flat_vs {F : Hp} {ds : List PyData} {vs : List V} (h : All2 (Rp F) ds vs) (e : ds.all flat = true) : vs.all flatV = true := by
  induction h with
  | nil => rfl
  | cons a t ih =>
    rw [List.all_cons, Bool.and_eq_true] at e ⊢
    exact ⟨flat_v a e.1, ih e.2⟩
theorem flat_eq {F F' : Hp} {d d' : PyData} {v v' : V} (h : Rp F d v) (h' : Rp F' d' v') (e : flat d = true) (e' : flat d' = true) : eqV v v' = PyData.eqv d d' := by
  cases d with
  | none => cases d' with
    | none => rw [rp_none h, rp_none h']; simp [eqV, PyData.eqv]
    | bool b => rw [rp_none h, rp_bool h']; simp [eqV, PyData.eqv]
    | int b => rw [rp_none h, rp_int h']; simp [eqV, PyData.eqv]
    | str b => rw [rp_none h, rp_str h']; simp [eqV, PyData.eqv]
    | list ds => cases e'
    | tuple ds => cases e'
    | dict _ => cases e'
  | bool a => cases d' with
    | none => rw [rp_bool h, rp_none h']; simp [eqV, PyData.eqv]
    | bool b => rw [rp_bool h, rp_bool h']; simp [eqV, PyData.eqv]
    | int b => rw [rp_bool h, rp_int h']; simp [eqV, PyData.eqv]
    | str b => rw [rp_bool h, rp_str h']; simp [eqV, PyData.eqv]
    | list ds => cases e'
    | tuple ds => cases e'
    | dict _ => cases e'
  | int a => cases d' with
    | none => rw [rp_int h, rp_none h']; simp [eqV, PyData.eqv]
    | bool b => rw [rp_int h, rp_bool h']; simp [eqV, PyData.eqv]
    | int b => rw [rp_int h, rp_int h']; simp [eqV, PyData.eqv]
    | str b => rw [rp_int h, rp_str h']; simp [eqV, PyData.eqv]
    | list ds => cases e'
    | tuple ds => cases e'
    | dict _ => cases e'
  | str a => cases d' with
    | none => rw [rp_str h, rp_none h']; simp [eqV, PyData.eqv]
    | bool b => rw [rp_str h, rp_bool h']; simp [eqV, PyData.eqv]
    | int b => rw [rp_str h, rp_int h']; simp [eqV, PyData.eqv]
    | str b => rw [rp_str h, rp_str h']; simp [eqV, PyData.eqv]
    | list ds => cases e'
    | tuple ds => cases e'
    | dict _ => cases e'
  | list ds => cases e
  | tuple ds => cases e
  | dict _ => cases e
theorem flat_any {F F' : Hp} {ds : List PyData} {vs : List V} {d : PyData} {v : V} (h : All2 (Rp F) ds vs) (h' : Rp F' d v) (e : ds.all flat = true) (e' : flat d = true) : inV v vs = ds.any fun y => PyData.eqv y d := by
  unfold inV
  induction h with
  | nil => rfl
  | cons a t ih =>
    rw [List.all_cons, Bool.and_eq_true] at e
    rw [List.any_cons, List.any_cons, flat_eq a h' e.1 e', ih e.2]
theorem b_in {K : PySem.W.Frag} (neg : Bool) : BinK (rIn K neg) (gIn neg) := by
  intro F H σ env Sl x y p1 p2 p R h1 h2 e Q q
  unfold gIn at e
  split at e
  · rename_i d
    split at e
    · rename_i ds h3
      split at e
      · rename_i hf
        cases e
        rw [Bool.and_eq_true] at hf
        have h1' : Rp F d x := h1
        have fin : ∀ (a : Addr) (vs : List V), (SqL K H a vs ∨ SqT K H a vs) → All2 (Rp F) ds vs → y = .ref a → rIn K neg x y H Q := fun a vs hs r ey => by
          refine ⟨a, vs, ey, hs, flat_v h1' hf.1, flat_vs r hf.2, ?_⟩
          rw [flat_any r h1' hf.2 hf.1]
          refine q _ F H (Ex.refl F) (Ex.refl H) R.ex (fun _ _ z => .inl z) ?_
          show V.bl _ = V.bl _
          cases neg
          · rw [Bool.false_xor]; rfl
          · rw [Bool.true_xor]; rfl
        unfold sqT at h3
        split at h3
        · cases h3
          obtain ⟨a, vs, rfl, hH, r⟩ := rp_tuple.mp (pr_val h2)
          exact fin a vs (.inr (SqT.of (R.ex _ _ hH))) r rfl
        · obtain ⟨a, vs, rfl, hH, r⟩ := sq_of R h2 h3
          exact fin a vs (.inl (SqL.of hH)) r rfl
      · cases e
    · cases e
  · cases e
/-! -x -/
def gNeg : En → P → Option P
  | _, .val (.int i) => some (.val (.int (-i)))
  | _, _ => none
theorem u_neg : UnK (rU fun i => .int (-i)) gNeg := by
  intro F H σ env Sl x p1 p R h e Q q
  unfold gNeg at e
  split at e
  · cases e
    exact ⟨_, pint h, q _ F H (Ex.refl F) (Ex.refl H) R.ex (fun _ _ z => .inl z) rfl⟩
  · cases e
/-! a < b < c -/
def mChain (g g' : En → P → P → Option P) (ma mb mc : ME) : ME := bnd ma fun p e => bnd mb (fun q e2 => match g e2 p q with
  | some (.val (.bool true)) => bnd mc (fun r e3 => (g' e3 q r).map fun z => (z, e3)) e2
  | some (.val (.bool false)) => some (.val (.bool false), e2)
  | _ => none) e
theorem re_chain {k k' : R2} {g g' : En → P → P → Option P} {pu pv pw : Bool} {ta tb tc : TE} {ma mb mc : ME} (hk : BinK k g) (hk' : BinK k' g') (ha : RE pu ta ma) (hb : RE pv tb mb) (hc : RE pw tc mc) : RE false (tChain k k' ta tb tc) (mChain g g' ma mb mc) := by
  intro F H σ env Sl R p env' e Q q
  obtain ⟨p1, e1, h1, h2⟩ := bnd_of e
  obtain ⟨p2, e2, h3, h4⟩ := bnd_of h2
  refine ha F H σ env Sl R p1 _ h1 _ fun x F1 H1 Sl1 s1 pu1 R1 r1 => ?_
  refine hb F1 H1 σ e1 Sl1 R1 p2 _ h3 _ fun y F2 H2 Sl2 s2 pu2 R2 r2 => ?_
  split at h4
  · rename_i h5
    refine hk F2 H2 σ e2 Sl2 x y p1 p2 _ R2 (r1.mono s2.exF) r2 h5 _ fun v F3 H3 f1 f2 f3 f4 r3 => ?_
    have R3 := R2.grow f1 f2 f3 f4
    have s3 := s1.trans (s2.trans (Step.grow (Sl := Sl2) f1 f2 f4))
    refine ⟨true, pbool r3, ?_⟩
    rw [if_pos rfl]
    obtain ⟨p3, e3, h6, h7⟩ := bnd_of h4
    cases h8 : g' e3 p2 p3 with
    | none => rw [h8] at h7; cases h7
    | some z =>
      rw [h8] at h7
      cases h7
      refine hc F3 H3 σ e2 Sl2 R3 p3 _ h6 _ fun w F4 H4 Sl4 s4 pu4 R4 r4 => ?_
      exact hk' F4 H4 σ _ Sl4 y w p2 p3 _ R4 ((r2.mono f1).mono s4.exF) r4 h8 Q fun v F5 H5 g1 g2 g3 g4 r5 => q v F5 H5 Sl4 (s3.trans (s4.trans (Step.grow g1 g2 g4))) (fun z => nomatch z) (R4.grow g1 g2 g3 g4) r5
  · rename_i h5
    cases h4
    refine hk F2 H2 σ _ Sl2 x y p1 p2 _ R2 (r1.mono s2.exF) r2 h5 _ fun v F3 H3 f1 f2 f3 f4 r3 => ?_
    refine ⟨false, pbool r3, ?_⟩
    rw [if_neg Bool.false_ne_true]
    exact q _ F3 H3 Sl2 (s1.trans (s2.trans (Step.grow f1 f2 f4))) (fun z => nomatch z) (R2.grow f1 f2 f3 f4) rfl
  · cases h4
end Tr
namespace Tr
open PySem PySem.Spec PyProof.Rows L2

/-! ### a list apart from all that is fixed and all that the names hold -/
structure Sd (F H : Hp) (Sl : Nat → Addr → Prop) (r : Addr) (vs : List V) : Prop where
  f : F r = none
  h : H r = some (.lst vs)
  s : ∀ i, ¬ Sl i r
theorem Sd.step {F H F' H' : Hp} {Sl Sl' : Nat → Addr → Prop} {r : Addr} {vs : List V} (d : Sd F H Sl r vs) (s : Step F H Sl F' H' Sl') : Sd F' H' Sl' r vs := by
  refine ⟨?_, s.fr r _ d.h d.s, fun i z => ?_⟩
  · cases q : F' r with
    | none => rfl
    | some o =>
      rcases s.fz r o q with y | y | ⟨j, y⟩
      · rw [d.f] at y; cases y
      · rw [d.h] at y; cases y
      · exact absurd y (d.s j)
  · rcases s.own i r z with y | y
    · exact d.s i y
    · rw [d.h] at y; cases y
theorem Sd.upd {F H : Hp} {Sl : Nat → Addr → Prop} {r p : Addr} {vs : List V} {u : HO} (d : Sd F H Sl r vs) (n : r ≠ p) : Sd F (upd H p u) Sl r vs := ⟨d.f, by rw [upd_ne n]; exact d.h, d.s⟩
/-- the rows that stand at rs, apart -/
def Rows (F H : Hp) (Sl : Nat → Addr → Prop) (rows : List (List PyData)) (rs : List Addr) : Prop := All2 (fun row r => ∃ vs, Sd F H Sl r vs ∧ All2 (Rp F) row vs) rows rs
theorem Rows.step {F H F' H' : Hp} {Sl Sl' : Nat → Addr → Prop} {rows : List (List PyData)} {rs : List Addr} (d : Rows F H Sl rows rs) (s : Step F H Sl F' H' Sl') : Rows F' H' Sl' rows rs :=
  d.mono fun _ _ ⟨vs, a, b⟩ => ⟨vs, a.step s, all_mono s.exF b⟩
theorem Rows.upd {F H : Hp} {Sl : Nat → Addr → Prop} {rows : List (List PyData)} {rs : List Addr} {p : Addr} {u : HO} (d : Rows F H Sl rows rs) (n : p ∉ rs) : Rows F (upd H p u) Sl rows rs :=
  d.monoM fun _ r _ hr ⟨vs, a, b⟩ => ⟨vs, a.upd (fun e => n (e ▸ hr)), b⟩
def mLc2Go (mg : PyData → En → Option En) (mt : MT) (mo : MO) (vs : List Nat) : List PyData → List (List PyData) → En → Option (List (List PyData) × En)
  | [], acc, env => some (acc, env)
  | d :: ds, acc, env => match mg d env with
    | some e1 => match mt e1 with
      | some (true, e2) => match mo e2 with
        | some (.ow row, e3) => if acc.length < sizeLine then mLc2Go mg mt mo vs ds (acc ++ [row]) (wipeE e3 vs) else none
        | _ => none
      | some (false, e2) => mLc2Go mg mt mo vs ds acc (wipeE e2 vs)
      | none => none
    | none => none
/-- a comprehension whose items are new lists: all held -/
def mLc2 (mi : ML) (mg : PyData → En → Option En) (mt : MT) (mo : MO) (vs : List Nat) : MO := bnd mi fun ds e => (mLc2Go mg mt mo vs ds [] (wipeE e vs)).map fun r => (.ow2 r.1, r.2)
theorem ro_lc2 {wi : TI} {g : TG} {tt : TT} {te : TE} {vs is : List Nat} {mi : ML} {mg : PyData → En → Option En} {mt : MT} {mo : MO} {pt : Bool} (hi : RI wi mi) (hg : RT' is g mg) (ht : RT pt tt mt) (he : RO te mo) (hs : ∀ i ∈ is, i ∈ vs := by decide) :
    RO (tLc wi g tt te vs) (mLc2 mi mg mt mo vs) := by
  intro F H σ env Sl R o env' e Q q
  obtain ⟨xs, e0, h1, h2⟩ := bnd_of e
  cases h3 : mLc2Go mg mt mo vs xs [] (wipeE e0 vs) with
  | none => rw [h3] at h2; cases h2
  | some re =>
    obtain ⟨rows, e9⟩ := re
    rw [h3] at h2
    cases h2
    refine hi F H σ env Sl R xs _ h1 _ fun J F1 H1 Sl1 s1 R1 hJ => ?_
    intro p np
    obtain ⟨Sl2, R2, k2⟩ := R1.wiped (vs := vs)
    have n2 : ∀ i, ¬ Sl2 i p := fun i z => fresh_notin R1 np i (k2 i p z)
    have R3 : REnv F1 (upd H1 p (.lst [])) (wipe σ vs) (wipeE e0 vs) Sl2 := R2.side (R1.ex.none np) n2
    have s3 : Step F1 H1 Sl1 F1 (upd H1 p (.lst [])) Sl2 := (Step.fewer k2).trans (Step.grow (Ex.refl F1) (Ex.new np) fun _ _ z => .inl z)
    refine ⟨fun i m Hi => ∃ Fi Sli envi acc rs, i ≤ xs.length ∧ m = xs.length - i ∧ REnv Fi Hi (wipe σ vs) envi Sli ∧ Step F1 H1 Sl1 Fi Hi Sli ∧ mLc2Go mg mt mo vs (xs.drop i) acc envi = some (rows, e9) ∧ Rows Fi Hi Sli acc rs ∧ Sd Fi Hi Sli p (rs.map V.ref) ∧ p ∉ rs ∧ rs.Nodup ∧ ∀ r ∈ rs, H1 r = none, ?_, ?_⟩
    · exact ⟨xs.length, F1, Sl2, wipeE e0 vs, [], [], Nat.zero_le _, by omega, R3, s3, h3, .nil, ⟨R1.ex.none np, upd_same, n2⟩, by simp, List.nodup_nil, by simp⟩
    · rintro i m Hi ⟨Fi, Sli, envi, acc, rs, hil, hm, Ri, si, go, ra, dp, prs, nd, nw⟩
      cases hx : xs[i]? with
      | none =>
        have hge : xs.length ≤ i := List.getElem?_eq_none_iff.mp hx
        rw [List.drop_eq_nil_of_le hge] at go
        have go' : some (acc, envi) = some (rows, e9) := go
        cases go'
        refine .inl ⟨(hJ Fi Hi si.exF Ri.ex i).2 hx, ?_⟩
        refine q _ Fi Hi Sli (fun a => a = p ∨ a ∈ rs) (s1.trans si) Ri.unwipe ⟨⟨p, rs, rfl, .inl rfl, dp.h, prs, nd, ra.monoM fun row r _ hr ⟨ws, a, b⟩ => ⟨.inr hr, ws, a.h, b⟩⟩, fun j a z y => ?_, fun a z => ?_, fun a z => ?_⟩
        · rcases z with rfl | z
          · exact dp.s j y
          · obtain ⟨k, hk⟩ := List.mem_iff_getElem?.mp z
            obtain ⟨row, _, ws, sd, _⟩ := ra.getR hk
            exact sd.s j y
        · rcases z with rfl | z
          · exact ⟨dp.f, _, dp.h⟩
          · obtain ⟨k, hk⟩ := List.mem_iff_getElem?.mp z
            obtain ⟨row, _, ws, sd, _⟩ := ra.getR hk
            exact ⟨sd.f, _, sd.h⟩
        · rcases z with rfl | z
          · exact s1.tkb np
          · exact s1.tkb (nw a z)
      | some d =>
        have hlt : i < xs.length := (List.getElem?_eq_some_iff.mp hx).1
        have hd : xs.drop i = d :: xs.drop (i + 1) := by
          rw [List.drop_eq_getElem_cons hlt]
          have := (List.getElem?_eq_some_iff.mp hx).2
          rw [this]
        rw [hd] at go
        unfold mLc2Go at go
        obtain ⟨jg, jy⟩ := (hJ Fi Hi si.exF Ri.ex i).1 d hx
        refine .inr ⟨jg, fun H' => ∃ Fi Sli envi acc rs, i + 1 ≤ xs.length ∧ REnv Fi H' (wipe σ vs) envi Sli ∧ Step F1 H1 Sl1 Fi H' Sli ∧ mLc2Go mg mt mo vs (xs.drop (i + 1)) acc envi = some (rows, e9) ∧ Rows Fi H' Sli acc rs ∧ Sd Fi H' Sli p (rs.map V.ref) ∧ p ∉ rs ∧ rs.Nodup ∧ ∀ r ∈ rs, H1 r = none,
          fun H' ⟨Fj, Slj, envj, accj, rsj, z1, z2⟩ => ⟨xs.length - (i + 1), by omega, Fj, Slj, envj, accj, rsj, z1, rfl, z2⟩, fun x H' hy => ?_⟩
        obtain ⟨Fj, f1, f2, f3, f4, f5⟩ := jy x H' hy
        have Rj : REnv Fj H' (wipe σ vs) envi Sli := Ri.grow f1 f2 f3 f4
        have sg : Step Fi Hi Sli Fj H' Sli := Step.grow f1 f2 f4
        cases hg1 : mg d envi with
        | none => rw [hg1] at go; cases go
        | some e1 =>
          rw [hg1] at go
          refine hg Fj H' (wipe σ vs) envi Sli x d Rj f5 e1 hg1 _ fun σ2 Sl4 R4 k4 p4 l4 => ?_
          have hl4 : σ2.length = σ.length := by rw [l4, wipe_length]
          have weq : wipe σ2 vs = wipe σ vs := wipe_eq p4 hl4 hs
          refine ⟨weq, ?_⟩
          have sg4 : Step Fi Hi Sli Fj H' Sl4 := sg.trans (Step.fewer k4)
          cases ht1 : mt e1 with
          | none => simp only [ht1] at go; cases go
          | some tb =>
            obtain ⟨b, e2⟩ := tb
            simp only [ht1] at go
            refine ht Fj H' σ2 e1 Sl4 R4 b e2 ht1 _ fun b' F5 H5 Sl5 s5 pu5 R5 rb => ?_
            cases rb
            have s5' := sg4.trans s5
            cases b with
            | false =>
              rw [if_neg Bool.false_ne_true]
              obtain ⟨Sl6, R6, k6⟩ := step_wiped (σ := σ) (vs := vs) R5 weq
              have s6 := s5'.trans (Step.fewer k6)
              exact ⟨F5, Sl6, _, acc, rs, hlt, R6, si.trans s6, go, ra.step s6, dp.step s6, prs, nd, nw⟩
            | true =>
              rw [if_pos rfl]
              cases he1 : mo e2 with
              | none => simp only [he1] at go; cases go
              | some pe3 =>
                obtain ⟨oo, e3⟩ := pe3
                simp only [he1] at go
                cases oo with
                | fz _ => cases go
                | rg _ _ => cases go
                | sc _ _ => cases go
                | kt _ _ => cases go
                | ob _ _ _ => cases go
                | tp _ => cases go
                | dk _ => cases go
                | dt _ => cases go
                | dd _ => cases go
                | ow2 _ => cases go
                | ow row =>
                  simp only at go
                  split at go
                  · rename_i hlen
                    refine he F5 H5 σ2 e2 Sl5 R5 _ e3 he1 _ fun v F6 H6 Sl6 T s6 R6 n6 => ?_
                    obtain ⟨a, ws, rfl, ta, ha, rr⟩ := n6.own
                    obtain ⟨Sl8, R8, k8⟩ := step_wiped (σ := σ) (vs := vs) R6 weq
                    have s8 := s5'.trans (s6.trans (Step.fewer k8))
                    have dp5 := dp.step s5'
                    have dp8 := dp.step s8
                    have na5 : H5 a = none := n6.nw a ta
                    have nap : a ≠ p := fun z => by rw [z, dp5.h] at na5; cases na5
                    have nar : a ∉ rs := fun z => by
                      obtain ⟨k, hk⟩ := List.mem_iff_getElem?.mp z
                      obtain ⟨row', _, ws', sd, _⟩ := (ra.step s5').getR hk
                      rw [sd.h] at na5
                      cases na5
                    have sda : Sd F6 H6 Sl8 a ws := ⟨(n6.tr a ta).1, ha, fun j z => n6.dj j a ta (k8 j a z)⟩
                    have ra8 : Rows F6 H6 Sl8 (acc ++ [row]) (rs ++ [a]) := (ra.step s8).snoc ⟨ws, sda, rr⟩
                    have prs8 : p ∉ rs ++ [a] := by
                      rw [List.mem_append]
                      rintro (z | z)
                      · exact prs z
                      · exact nap (List.mem_singleton.mp z).symm
                    refine ⟨rs.map V.ref, dp8.h, by rw [List.length_map, ← ra.len]; exact hlen, F6, Sl8, _, acc ++ [row], rs ++ [a], hlt, R8.side dp8.f dp8.s, (si.trans s8).side np, go, ra8.upd prs8, ⟨dp8.f, ?_, dp8.s⟩, prs8, ?_, fun r hr => ?_⟩
                    · rw [upd_same, List.map_append]; rfl
                    · exact List.nodup_append.mpr ⟨nd, by simp, fun x hx y hy => by
                        have : y = a := by simpa using hy
                        rw [this]
                        exact fun z => nar (z ▸ hx)⟩
                    · rcases List.mem_append.mp hr with z | z
                      · exact nw r z
                      · have : r = a := by simpa using z
                        rw [this]
                        exact si.tkb (s5'.tkb na5)
                  · cases go
/-! a loop that hands over the rows of a new list, one after the other -/
/-! a cut of the script -/
open Classical in
noncomputable def mSlS (K : PySem.W.Frag) (i : Nat) (ml mh : MP) : ML := fun env => match env[i]? with
  | some (some (.sc _ _)) => (bnd ml fun lo e2 => bnd mh (fun hi e3 => match e3[i]? with
    | some (some (.sc K' ns)) => if K' = K then some (cutD (ns.map .int) lo hi, e3) else none
    | _ => none) e2) env
  | _ => none
theorem all_ints {F : Hp} : ∀ ns : List Int, All2 (Rp F) (ns.map .int) (ns.map V.int)
  | [] => .nil
  | n :: ns => .cons rfl (all_ints ns)
theorem cut_all {R : PyData → V → Prop} {ds : List PyData} {vs : List V} (r : All2 R ds vs) (lo hi : Option Int) : All2 R (cutD ds lo hi) (cutV vs lo hi) := by
  unfold cutD cutV
  rw [r.len]
  exact (r.drop _).take _
theorem rl_slS {K : PySem.W.Frag} {pv pw : Bool} {i : Nat} {tl th : TO} {ml mh : MP} (hl : RQ pv tl ml) (hh : RQ pw th mh) : RL false (tSl (rSlL K) (tVar i) tl th) (mSlS K i ml mh) := by
  intro F H σ env Sl R ds env' e Q q
  unfold mSlS at e
  split at e
  · rename_i K0 ns0 h0
    obtain ⟨v, hv, _⟩ := R.at_ i _ h0
    obtain ⟨lo, e2, h3, h4⟩ := bnd_of e
    obtain ⟨hi, e3, h5, h6⟩ := bnd_of h4
    split at h6
    · rename_i K' ns h7
      split at h6
      · rename_i hK
        subst hK
        cases h6
        refine ⟨v, hv, ?_⟩
        refine hl F H σ env Sl R lo _ h3 _ fun r' F2 H2 Sl2 s2 pu2 R2 r2 => ?_
        cases r2
        refine hh F2 H2 σ e2 Sl2 R2 hi _ h5 _ fun r'' F3 H3 Sl3 s3 pu3 R3 r3 => ?_
        cases r3
        obtain ⟨v', hv', a, rfl, hs⟩ := R3.at_ i _ h7
        rw [hv] at hv'
        cases hv'
        exact ⟨a, _, rfl, ex_sq R3.ex hs, fun b nb => q b _ F3 H3 Sl3 (s2.trans s3) (fun z => nomatch z) R3 (cut_all (all_ints ns) lo hi) nb⟩
      · cases h6
    · cases h6
  · cases e
/-! lists of lists that a name alone holds: read and written by two places -/
end Tr
namespace Tr
open PySem PySem.Spec PyProof.Rows L2

abbrev gMul : En → P → P → Option P := gI (fun i j => decide (i.natAbs.log2 + j.natAbs.log2 < 1000000)) fun i j => .int (i * j)
abbrev gFdiv : En → P → P → Option P := gI (fun _ j => decide (j ≠ 0 ∧ j.natAbs < 1073741824)) fun i j => .int (i.fdiv j)
abbrev gMod : En → P → P → Option P := gI (fun _ j => decide (j ≠ 0)) fun i j => .int (i.fmod j)
abbrev gPow : En → P → P → Option P := gI (fun i j => decide (0 ≤ j ∧ (Builtin.Int.intBits i : Int) * j ≤ 2 ^ 27)) fun i j => .int (i ^ j.toNat)
/-! list(range(..)), list(xs) -/
theorem rgV_all {F : Hp} {a b : Int} : All2 (Rp F) (rgD a (b - a).toNat) (rgV a b) := by
  unfold rgD rgV
  generalize List.range (b - a).toNat = l
  induction l with
  | nil => exact .nil
  | cons x t ih => exact .cons rfl ih
def okRg (a b : Int) : Bool := decide (-(2 ^ 62) ≤ a ∧ a < 2 ^ 62 ∧ -(2 ^ 62) ≤ b ∧ b < 2 ^ 62 ∧ (b - a).toNat ≤ 2 ^ 24)
theorem okRg_of {a b : Int} (h : okRg a b = true) : RgOk a b := show -(2 ^ 62) ≤ a ∧ a < 2 ^ 62 ∧ -(2 ^ 62) ≤ b ∧ b < 2 ^ 62 ∧ (b - a).toNat ≤ 2 ^ 24 from of_decide_eq_true h
def mLRg1 (ma : ME) : ML := bnd ma fun p e => match p with
  | .val (.int n) => if okRg 0 n then some (rgD 0 n.toNat, e) else none
  | _ => none
theorem rl_rg1 {pu : Bool} {ta : TE} {ma : ME} (h : RE pu ta ma) : RL pu (tLstRg (tRg1 ta)) (mLRg1 ma) := by
  intro F H σ env Sl R ds env' e Q q
  obtain ⟨p, e1, h1, h2⟩ := bnd_of e
  split at h2
  · rename_i n
    split at h2
    · rename_i ok
      cases h2
      refine h F H σ env Sl R _ _ h1 _ fun r F1 H1 Sl1 s1 pu1 R1 r1 => ?_
      refine ⟨n, pint r1, okRg_of ok, fun b nb => q b _ F1 H1 Sl1 s1 pu1 R1 ?_ nb⟩
      have := rgV_all (F := F1) (a := 0) (b := n)
      rw [Int.sub_zero] at this
      exact this
    · cases h2
  · cases h2
end Tr
namespace Tr
open PySem PySem.Spec PyProof.Rows L2
/-! the rules that speak of the written part, by its name -/
section
variable {X : Cx} {K : PySem.W.Frag}
theorem ixK (h : X.K = K := by rfl) : IxR X (rIx K) := by subst h; exact ix_seq
theorem slK (h : X.K = K := by rfl) : SlR X (rSlL K) := by subst h; exact sl_list
theorem inK (h : X.K = K := by rfl) : OpR X (compareOp .In) (rIn K false) := by subst h; exact op_in_seq
theorem notInK (h : X.K = K := by rfl) : OpR X (compareOp .NotIn) (rIn K true) := by subst h; exact op_notIn_seq
theorem eqK (hu : X.A.units + 64 < cLine) (h : X.K = K := by rfl) : OpR X (compareOp .Eq) (rEqD K) := by subst h; exact op_eqD hu
theorem neK (hu : X.A.units + 64 < cLine) (h : X.K = K := by rfl) : OpR X (compareOp .NotEq) (rNeD K) := by subst h; exact op_neD hu
theorem lenK (h : X.K = K := by rfl) : CallR X (.builtin "len") (fun xs H Q => ∃ p ys, xs = [.ref p] ∧ (SqL K H p ys ∨ SqT K H p ys) ∧ Q (.int ys.length) H) := by subst h; exact call_len_seq
theorem isiK (h : X.K = K := by rfl) : CallR X (.builtin "isinstance") (rIsi K) := by subst h; exact call_isi
theorem allK (hc : X.calm = true) (h : X.K = K := by rfl) : CallR X (.builtin "all") (rAll K) := by subst h; exact cr_all hc
theorem sumK (hc : X.calm = true) (h : X.K = K := by rfl) : CallR X (.builtin "sum") (rSum K) := by subst h; exact cr_sum hc
variable {tg l e : Expr} {tl : TE} {ta : TA} {p pos tpos : Pos} {elts : List Expr} {kk : Nat}
theorem pi_listK (hl : PE X l tl) (h : X.K = K := by rfl) : PI X tg l (iList K tl) := by subst h; exact pi_list hl
theorem pi_enumK (hg : Gl X "enumerate") (hm : X.mg "enumerate" = none) (ha : PA X [e] ta) (hs : starEach [e] X.env = [(false, eval e X.env)] := by rfl) (h : X.K = K := by rfl) : PI X (.Tuple elts kk tpos) (.Call (.Name "enumerate" p) [e] [] pos) (iEnum K ta) := by
  subst h; exact pi_enum hg hm ha hs
variable {k n : Nat} {t : TGs} {es : List Expr}
theorem pg_tupK (hc : X.calm = true) (h : PGs X es t) (hn : (assignEach es X.env).length = n := by rfl) (hst : (assignEach es X.env).findIdx? (·.1) = none := by rfl) (hK : X.K = K := by rfl) : PG X (.Tuple es k pos) (gTup K n t) := by
  subst hK; exact pg_tup hc h hn hst
variable {o : Expr} {es : List Expr} {to : TE} {t : TA} {name : Str} {apos cpos : Pos} {T id : String} {r : V → List V → Hp → VK → Prop}
theorem bmK {e : Expr} (h : PE X e (tBM X.K T r to t)) (hK : X.K = K := by rfl) : PE X e (tBM K T r to t) := by subst hK; exact h
end
end Tr
namespace Tr
open PySem PySem.Spec PyProof.Rows L2
/-! ### range objects kept in a name -/
section
variable {X : Cx}
theorem rg1_call : CallR X (.type "range") (fun vs H Q => ∃ j, vs = [V.int j] ∧ ∀ p, H p = none → Q (.ref p) (upd H p (.rng 0 j))) := by
  intro pins s σ H vs us Q I r h
  obtain ⟨j, rfl, q⟩ := h
  cases r with
  | cons a t =>
    cases t
    obtain ⟨t, rfl⟩ := a
    refine call_range_1 ⟨.ref s.heap.objs.size, _, I.laid (o := .rng 0 j) (t' := s.toks + 1 + 1) (fun b o e => Heap.get?_push_of_some _ e) (Nat.le_refl _) ?_, rfl, q _ (I.hok.fresh (Nat.le_refl _))⟩
    exact ⟨s.toks, t, s.toks + 1, Heap.get?_push_size _ rfl⟩
/-- a name that holds a range is walked -/
def iRgv (i : Nat) : TI := fun σ H R => ∃ a lo hi, σ[i]? = some (some (.ref a)) ∧ H a = some (.rng lo hi) ∧ (-(2 ^ 62) ≤ lo ∧ lo < 2 ^ 62 ∧ -(2 ^ 62) ≤ hi ∧ hi < 2 ^ 62) ∧ R (Itr lo (hi - lo).toNat) H
theorem pi_rgv {tg : Expr} (i : Nat) {x : Str} {pos : Pos} (hN : X.N[i]? = some x := by rfl) (hv : Vis X.env.scope x := by first | exact Or.inl rfl | exact Or.inr (Or.inl rfl) | exact Or.inr (Or.inr rfl)) (hd : (x == ("__debug__" : Str)) = false := by decide)
    (hcd : (x == ("__classdict__" : Str)) = false := by decide) : PI X tg (.Name x pos) (iRgv i) := by
  refine ⟨fun pins s σ H R I h => ?_⟩
  obtain ⟨a, lo, hi, hs, hH, hb, q⟩ := h
  refine thn ((pe_var hN hv hd hcd).run pins s σ H (fun v H' => v = .ref a ∧ H' = H) I ⟨_, hs, rfl, rfl⟩) fun v s1 ⟨x1, H1, I1, r1, e1, e2⟩ => ?_
  subst e2
  subst e1
  cases r1
  obtain ⟨t, u, w, ho⟩ := I1.hok a _ hH
  refine wpAny_pyIter_range ho (small_one hb.1 hb.2.1 hb.2.2.1 hb.2.2.2) ?_
  refine ⟨s1.heap.objs.size, [s1.heap.objs.size], _, _, H1, rfl, I1.kept (t' := s1.toks) fun b o e => Heap.get?_push_of_some _ e, turn_range _ lo (hi - lo).toNat, ?_, fun b hb => ?_, q⟩
  · have e1 : lo + ((0 : Nat) : Int) * 1 = lo := by simp
    have e2 : (((hi - lo).toNat : Nat) : Int) - ((0 : Nat) : Int) = Builtin.Range.rangeSize lo hi 1 := by rw [rangeSize_one]; split <;> omega
    show IsRangeIter _ _ (lo + ((0 : Nat) : Int) * 1) ((((hi - lo).toNat : Nat) : Int) - ((0 : Nat) : Int)) 1
    rw [e1, e2]
    exact Heap.get?_push_size _ rfl
  · have e : b = s1.heap.objs.size := by simpa using hb
    subst e
    exact I1.fpOk (Nat.le_refl _) (I1.hok.fresh (Nat.le_refl _))
end
def mRg1 (ma : MA) : MO := bnd ma fun ps e => match ps with
  | [.val (.int j)] => some (.rg 0 j, e)
  | _ => none
theorem ro_rg1 {pu : Bool} {ta : TA} {ma : MA} (h : RA pu ta ma) : RO (tCB (fun vs H Q => ∃ j, vs = [V.int j] ∧ ∀ p, H p = none → Q (.ref p) (upd H p (.rng 0 j))) ta) (mRg1 ma) := by
  intro F H σ env Sl R o env' e Q q
  obtain ⟨ps, e1, h1, h2⟩ := bnd_of e
  split at h2
  · rename_i j
    cases h2
    refine h F H σ env Sl R _ _ h1 _ fun r F1 H1 Sl1 s1 pu1 R1 r1 => ?_
    cases r1 with
    | cons x t =>
      cases t
      refine ⟨j, by rw [pint x], fun p np => ?_⟩
      have fp := R1.ex.none np
      have n : ∀ b u, upd F1 p (.rng 0 j) b = some u → F1 b = some u ∨ H1 b = none := fun b u z => by
        by_cases hb : b = p
        · subst hb; exact .inr np
        · rw [upd_ne hb] at z; exact .inl z
      have ex : Ex (upd F1 p (.rng 0 j)) (upd H1 p (.rng 0 j)) := fun b u z => by
        by_cases hb : b = p
        · subst hb; rw [upd_same] at z ⊢; exact z
        · rw [upd_ne hb] at z ⊢; exact R1.ex b u z
      exact q _ _ _ Sl1 (fun _ => False) (s1.trans (Step.grow (Ex.new fp) (Ex.new np) n)) (R1.grow (Ex.new fp) (Ex.new np) ex n) ⟨⟨p, rfl, upd_same⟩, fun _ _ z => z.elim, fun _ z => z.elim, fun _ z => z.elim⟩
  · cases h2
def mRgv (i : Nat) : ML := fun env => match env[i]? with
  | some (some (.rg lo hi)) => if -(2 ^ 62) ≤ lo ∧ lo < 2 ^ 62 ∧ -(2 ^ 62) ≤ hi ∧ hi < 2 ^ 62 then some (rgD lo (hi - lo).toNat, env) else none
  | _ => none
theorem ri_rgv {i : Nat} : RI (iRgv i) (mRgv i) := by
  intro F H σ env Sl R ds env' e Q q
  unfold mRgv at e
  split at e
  · rename_i lo hi h0
    split at e
    · rename_i hb
      cases e
      obtain ⟨v, hv, a, rfl, ha⟩ := R.at_ i _ h0
      exact ⟨a, lo, hi, hv, R.ex _ _ ha, hb, q _ F H Sl Step.refl R it_r⟩
    · cases e
  · cases e
end Tr
namespace Tr
open PySem PySem.Spec PyProof.Rows L2
/-! ### defs that are called where no repr is under way -/
structure FnG (P : Program) (w : World) (K : PySem.W.Frag) (mg : Str → Option Value) (base : Heap) (k : Nat) (f : Addr) (fd : FuncData) (ps : List Str) (sp : Sp) : Prop where
  len : ∀ vs H Q E, sp vs H Q E → vs.length = ps.length
  go : ∀ (A : Around) (ou : List Env) (s : Shared) (H : Hp) (ar : Args) (us : List Value) (vs : List V) (Q : VK) (E : XK), Room k A → A.guards = some [] → Env0 P w K mg base A ou s H → BindsTo s fd ar (ps.zip us) → Vals vs us → sp vs H Q E →
    codeAny (model P w) A (.call (.ref f) ar) (CR CX0 ou P w H s Q E) s
section
variable {P : Program} {w : World} {K : PySem.W.Frag} {mg : Str → Option Value} {base : Heap}
theorem FnG.mono {j k : Nat} {f : Addr} {fd : FuncData} {ps : List Str} {sp : Sp} (F : FnG P w K mg base j f fd ps sp) (h : j ≤ k) : FnG P w K mg base k f fd ps sp :=
  ⟨F.len, fun A ou s H ar us vs Q E r => F.go A ou s H ar us vs Q E (r.mono h)⟩
theorem FnG.of {k : Nat} {f : Addr} {fd : FuncData} {ps : List Str} {sp : Sp} (F : FnOk P w K mg base CX0 k f fd ps sp) : FnG P w K mg base k f fd ps sp :=
  ⟨F.len, fun A ou s H ar us vs Q E r _ => F.run A ou s H ar us vs Q E r⟩
/-- a def by its body -/
theorem okG {x qual : Str} {st : Stmt} {f : Addr} {fd : FuncData} {N ps : List Str} {k : Nat} {sp : Sp} (F : Fun K x qual st f fd) (S : FnScope N ps (defScope st)) (len : ∀ vs H Q E, sp vs H Q E → vs.length = ps.length)
    (body : ∀ (cdv : Value) (A : Around) (ou : List Env) (s : Shared) (H : Hp) (vs : List V) (Q : VK) (E : XK), Room k (A.deeper (envOfC qual (defScope st) s.heap.objs.size f cdv)) → A.guards = some [] → sp vs H Q E →
      ∃ t, PSs (cxOf CX0 P w K mg base N qual (defScope st) f cdv A ou s H E).nox (defBody st) t ∧ t { nx := fun _ H' => Q .non H', rt := Q } (L2.start N vs) H) : FnG P w K mg base (k + 1) f fd ps sp := by
  obtain ⟨oc, od, kV, doc, pm, an, cdv, ct, osl, rfl, lk, hcd⟩ := F.ex
  constructor
  · exact len
  intro A ou s H ar us vs Q E room gu e0 bi rv want
  have hl := len vs H Q E want
  have here : ∀ b o, base.get? b = some o → s.heap.get? b = some o := fun b o z => (e0.bs b o z).1
  have inK : K.In s.heap := e0.mod.kin.keeps here
  have nol : s.heap.NoLimit := e0.mod.nolimit.keeps here
  have kinds : ∀ y ∈ ps.zip us, (defScope st).names.lookup y.1 = some .local ∨ ((defScope st).names.lookup y.1 = some .cell ∧ ((cellsFrom (s.heap.objs.size + 1) (defScope st).names []).lookup y.1).isSome = true) := by
    rintro ⟨nm, u⟩ hy
    cases S.par nm (List.of_mem_zip hy).1 with
    | inl z => exact .inl z
    | inr z => exact .inr ⟨z, PySem.W.cellsFrom_some _ _ _ (.inl z)⟩
  apply codeAny_call_function room.depth (inK _ _ lk) rfl S.co S.gen rfl (PySem.W.codeRec_of inK hcd)
  refine bi _ _ _ _ (wpAny_newFunctionEnv_cells S.kind kinds ?_)
  intro env eenv s1 made
  subst eenv
  refine ⟨nol.keeps made.toInCall.keep, ?_⟩
  apply codeAny_func
  obtain ⟨t, pt, qt⟩ := body cdv A ou s H vs Q E (room.deeper _) gu want
  have inv0 : Inv (cxOf CX0 P w K mg base N qual (defScope st) f cdv A ou s H E) [] (L2.start N vs) H s1 := inv_start S room.hd e0 hl rv made
  have done : ∀ {σ1 : L2.St} {H1 : Hp} {v : V} {u : Value} {s2 : Shared}, Inv (cxOf CX0 P w K mg base N qual (defScope st) f cdv A ou s H E) [] σ1 H1 s2 → RelV v u → Q v H1 → CE ou P w H s Q u s2 := by
    intro σ1 H1 v u s2 J r q
    exact ⟨v, H1, J.os, J.bare, J.base, J.hok, r, q⟩
  refine wpAny_mono (PSs.run (PSs.nox pt) [] s1 (L2.start N vs) H _ inv0 qt) ?_ fun e s2 z => z
  intro fl s2 z
  match fl, z with
  | .ret u, ⟨v, σ1, H1, J, r, q⟩ => exact done J r q
  | .next, ⟨σ1, H1, J, q⟩ => exact done (v := V.non) (u := Value.none) J rfl q
  | .brk, ⟨_, _, _, q⟩ => exact False.elim q
  | .cont, ⟨_, _, _, q⟩ => exact False.elim q
end
section
variable {X : Cx} {k n : Nat} {f : Addr} {fd : FuncData} {ps ks : List Str} {sp : Sp} {x : Str} {p pos : Pos} {e : Expr} {es : List Expr} {t tk : TA} {ds : List Value} {dvs : List V} {kws : List Keyword} {g : List Value → List Value → List Value} {gV : List V → List V → List V}
/-- behind the call: nothing but a value comes back -/
theorem backG {pins : List (Addr × Obj)} {σ : L2.St} {H : Hp} {s : Shared} {Q : VK} {u : List Value} {v : List V} {ar : Args} (F : FnG X.prog X.w X.K X.mg X.base k f fd ps sp) (room : Room k X.A) (gu : X.A.guards = some []) (I : Inv X pins σ H s)
    (bi : BindsTo s fd ar (ps.zip u)) (rv : Vals v u) (want : sp v H Q E0) : codeAny (model X.prog X.w) X.A (.call (.ref f) ar) (fun r s' => match r with | .ok (.ret u) => EP X pins σ Q u s' | .ok _ => False | .error _ => False) s := by
  refine codeAny_mono (F.go X.A X.stack s H ar u v Q E0 room gu I.env0 bi rv want) ?_
  intro r s' z
  match r, z with
  | .ok (.ret _), z => exact I.after z
  | .ok .next, z => exact z
  | .ok .brk, z => exact z
  | .ok .cont, z => exact z
  | .error _, z => exact z
theorem pe_callG (F : FnG X.prog X.w X.K X.mg X.base k f fd ps sp) (room : Room k X.A) (gu : X.A.guards = some []) (hg : Gl X x) (hm : X.mg x = some (.ref f)) (hk : PySem.W.keepIn X.K (.ref f) = true) (hb : Binds X.K fd ps ds) (hd : Vals dvs ds)
    (ha : PA X (e :: es) t) (nd : (x == ("__debug__" : Str)) = false := by decide) (st : starEach (e :: es) X.env = (false, eval e X.env) :: starEach es X.env := by rfl) (pl : (backTo pos (starEach es X.env)).any (·.1) = false := by rfl) :
    PE X (.Call (.Name x p) (e :: es) [] pos) (tCall sp dvs E0 t) := by
  constructor
  intro pins s σ H Q I h
  apply wpAny_Call_Name_kw
  refine ld_glob I hg hm ?_ nd
  refine PySem.W.callWith_K (h₀ := X.base) I.ok.mod.kin hk (thn (ha.run pos pins s σ H _ I h) ?_) st pl
  rintro us s1 ⟨vs, H1, I1, rv, q⟩
  have rv2 := Vals.append rv hd
  have len2 : (us ++ ds).length = ps.length := rv2.length.symm.trans (F.len _ _ _ _ q)
  refine ⟨I1.kIn, wpAny_call (codeAny_mono (backG F room gu I1 (hb s1 us I1.kIn len2) rv2 q) ?_)⟩
  intro r s' z
  match r, z with
  | .ok (.ret _), z => exact z
  | .ok .next, z => exact z.elim
  | .ok .brk, z => exact z.elim
  | .ok .cont, z => exact z.elim
  | .error _, z => exact z.elim
end
/-! the same over trees -/
end Tr
namespace Tr
open PySem PySem.Spec PyProof.Rows L2
/-! ### repr of data -/
mutual
def reprD : PyData → Str
  | .none => "None"
  | .bool b => if b then "True" else "False"
  | .int i => toString i
  | .str s => reprText s
  | .list ds => listText (reprDs ds)
  | .tuple ds => tupleText (reprDs ds)
  | .dict _ => ""
def reprDs : List PyData → List Str
  | [] => []
  | d :: ds => reprD d :: reprDs ds
end
mutual
/-- what repr is asked of each part -/
def reprOk : PyData → Bool
  | .none => true
  | .bool _ => true
  | .int i => decide (i.natAbs.log2 < 1920)
  | .str s => decide ((reprText s).length ≤ sizeLine)
  | .list ds => reprOks ds
  | .tuple ds => reprOks ds
  | .dict _ => false
def reprOks : List PyData → Bool
  | [] => true
  | d :: ds => reprOk d && reprOks ds
end
mutual
/-- how deep -/
def deepD : PyData → Nat
  | .list ds => deepDs ds + 1
  | .tuple ds => deepDs ds + 1
  | _ => 0
def deepDs : List PyData → Nat
  | [] => 0
  | d :: ds => max (deepD d) (deepDs ds)
end
/-! one value is one datum -/
/-! what repr says of data that stand in the heap -/
end Tr
namespace Tr
open PySem PySem.Spec PyProof.Rows L2
section
variable {X : Cx}
def isTup : PyData → Bool
  | .tuple _ => true
  | _ => false
end
end Tr
namespace Tr
open PySem PySem.Spec PyProof.Rows L2
/-! ### the law's call behind the top -/
section
variable {P : Program} {w : World} {K : PySem.W.Frag} {mg mb : Str → Option Value} {k : Nat} {fa a : Addr} {fd : FuncData} {x : Str} {sp : Sp} {s1 : Shared} {vs : List Value} {ns : List Int}
/-- from an abstract heap that tracks the script at most -/
theorem from_heap {H : Hp} (KX : K.In s1.heap) (hns : s1.heap.Ns mainGlobals mg) (hb : s1.heap.Ns builtinsNs mb) (hbb : ∀ x : Str, x ≠ "__name__" → mb x = bootBuiltins x) (hlim : s1.heap.NoLimit) (hg : s1.gens = #[])
    (ha : s1.heap.get? a = some { cls := .type "list", data := .seq vs.toArray }) (room : Room k callerA) (F : ∀ base : Heap, K.In base → base.Ns mainGlobals mg → FnG P w K mg base k fa fd [x] sp)
    (bi : ∀ (s : Shared) (u : Value), BindsTo s fd ⟨[u], []⟩ [(x, u)]) (only : Only H) (want : sp [.ref a] H (fun v _ => v = .bl true) fun _ _ _ => False) (hok : HOk P w H s1.heap) (hA : ∀ b, H b ≠ none → b = a) (hK : H a ≠ none → K.lookup a = none) :
    codeAny (model P w) callerA (.call (.ref fa) ⟨[.ref a], []⟩) (fun r s' => r = .ok (.ret (.bool true)) ∧ OldK s1.heap s'.heap ∧ s'.os = s1.os ∧ AllBare s'.gens) s1 := by
  -- the base: what is not tracked
  have low : ∀ {b : Addr} {o : Obj}, s1.heap.get? b = some o → H b = none → (hidT s1.heap H).get? b = some o := fun e n => hidT_get e n
  have nsLow : ∀ {b : Addr} {m : Str → Option Value}, s1.heap.Ns b m → (hidT s1.heap H).Ns b m := by
    rintro b m ⟨o, es, ep, e, d, r⟩
    refine ⟨o, es, ep, low e ?_, d, r⟩
    cases q : H b with
    | none => rfl
    | some u =>
      have eb : b = a := hA b (by simp [q])
      rw [eb, ha] at e
      cases e
      cases (show Data.seq vs.toArray _ = Data.dict es ep from d)
  have KL : K.In (hidT s1.heap H) := by
    intro b o e
    refine low (KX b o e) ?_
    cases q : H b with
    | none => rfl
    | some u =>
      have eb : b = a := hA b (by simp [q])
      subst eb
      have := hK (by simp [q])
      rw [this] at e
      cases e
  have md : Mod K mg (hidT s1.heap H) := by
    obtain ⟨mc, h1, h2⟩ := hlim
    exact ⟨KL, nsLow hns, ⟨mb, nsLow hb, hbb⟩, ⟨mc, nsLow h1, h2⟩⟩
  have en : Env0 P w K mg (hidT s1.heap H) callerA [] s1 H := by
    refine ⟨rfl, md, fun b o e => of_hidT e, Nat.le_of_eq (hidT_size _ _), trivial, ?_, hok, .of_eq hg⟩
    intro b hb
    exact absurd (show b ∈ ([] : List Addr) from hb) (by simp)
  refine codeAny_mono ((F _ KL (nsLow hns)).go callerA [] s1 H ⟨[.ref a], []⟩ [.ref a] [.ref a] _ _ room rfl en (bi s1 (.ref a)) (.cons rfl .nil) want) ?_
  intro r s' z
  match r, z with
  | .error _, z => exact False.elim z
  | .ok .next, z => exact False.elim z
  | .ok .brk, z => exact False.elim z
  | .ok .cont, z => exact False.elim z
  | .ok (.ret u), z =>
    obtain ⟨v, H2, os, bare, un, hok2, rel, q⟩ := z
    cases (show v = .bl true from q)
    cases (show u = Value.bool true from rel)
    refine ⟨rfl, OldK.of_keep ?_, os, bare⟩
    intro b o e
    cases q : H b with
    | none => exact un.keep b o e q (fun z => absurd (show b ∈ ([] : List Addr) from z) (by simp)) (by simp)
    | some u =>
      cases only b with
      | inl z => rw [q] at z; cases z
      | inr z =>
        obtain ⟨ob, xs, z⟩ := z
        have y1 := (hok b _ z).1
        have y2 := (hok2 b _ (un.frzs b ob _ z)).1
        rw [e] at y1
        cases y1
        exact y2
/-- the law's def, called with the script -/
theorem law_go (KX : K.In s1.heap) (hns : s1.heap.Ns mainGlobals mg) (hb : s1.heap.Ns builtinsNs mb) (hbb : ∀ x : Str, x ≠ "__name__" → mb x = bootBuiltins x) (hlim : s1.heap.NoLimit) (hg : s1.gens = #[])
    (ha : s1.heap.get? a = some { cls := .type "list", data := .seq vs.toArray }) (hi : IntsAre vs ns) (hl : ns.length ≤ sizeLine) (room : Room k callerA) (F : ∀ base : Heap, K.In base → base.Ns mainGlobals mg → FnG P w K mg base k fa fd [x] sp)
    (bi : ∀ (s : Shared) (u : Value), BindsTo s fd ⟨[u], []⟩ [(x, u)]) (want : ∀ H : Hp, Only H → SqL K H a (ns.map V.int) → sp [.ref a] H (fun v _ => v = .bl true) fun _ _ _ => False) :
    codeAny (model P w) callerA (.call (.ref fa) ⟨[.ref a], []⟩) (fun r s' => r = .ok (.ret (.bool true)) ∧ OldK s1.heap s'.heap ∧ s'.os = s1.os ∧ AllBare s'.gens) s1 := by
  have rv : Vals (ns.map V.int) vs := vals_ints hi
  have lv : vs.length = ns.length := hi.length
  by_cases hk : K.lookup a = none
  · have at_ : ∀ {b : Addr} {u : HO}, (if b = a then some (HO.frz { cls := .type "list", data := .seq vs.toArray } (.lst (ns.map V.int))) else none) = some u → b = a ∧ u = HO.frz { cls := .type "list", data := .seq vs.toArray } (.lst (ns.map V.int)) := by
      intro b u z
      split at z
      · rename_i e; exact ⟨e, (Option.some.inj z).symm⟩
      · cases z
    refine from_heap (H := fun b => if b = a then some (.frz { cls := .type "list", data := .seq vs.toArray } (.lst (ns.map V.int))) else none) KX hns hb hbb hlim hg ha room F bi ?_ (want _ ?_ (.inl (.inr ⟨_, if_pos rfl⟩))) ?_ ?_ fun _ => hk
    · intro b
      by_cases e : b = a
      · exact .inr ⟨_, _, if_pos e⟩
      · exact .inl (if_neg e)
    · intro b
      by_cases e : b = a
      · exact .inr ⟨_, _, if_pos e⟩
      · exact .inl (if_neg e)
    · intro b u z
      obtain ⟨e1, e2⟩ := at_ z
      rw [e1, e2]
      exact ⟨ha, by rw [List.length_map]; exact hl, vs, _, rv, ha⟩
    · intro b z
      by_cases e : b = a
      · exact e
      · exact absurd (if_neg e) z
  · obtain ⟨o, ho⟩ := Option.ne_none_iff_exists'.mp hk
    have ho2 := KX a o ho
    rw [ha] at ho2
    cases ho2
    have no : ∀ b, ((fun _ => none : Hp) b) = none := fun _ => rfl
    refine from_heap (H := fun _ => none) KX hns hb hbb hlim hg ha room F bi (fun b => .inl rfl) (want _ (fun b => .inl rfl) (.inr ⟨_, vs.toArray, _, ho, rfl, rfl, rfl, by rw [List.size_toArray, lv]; exact hl, by simpa using rv⟩)) ?_ (fun b z => absurd rfl z) fun z => absurd rfl z
    intro b u z
    cases (show (none : Option HO) = some u from z)
end
end Tr
namespace Tr
open PySem PySem.Spec L2
/-! ### loops as plain functions: invariants by the turn -/
end Tr
namespace Tr
open PySem PySem.Spec PyProof.Rows L2
/-! ### sum, max and min of a list of whole numbers -/
def gSum : En → List P → Option P := fun env ps => match ps with
  | [p] => ((sq env p).bind allI).map fun ns => .val (.int ns.sum)
  | _ => none
theorem f_sum {K : PySem.W.Frag} : FnK (rSum K) gSum := by
  intro F H σ env Sl xs ps p R h e Q q
  unfold gSum at e
  split at e
  · rename_i p1
    cases h with
    | cons a t =>
      cases t
      cases h1 : sq env p1 with
      | none => rw [h1] at e; cases e
      | some ds =>
        cases h2 : allI ds with
        | none => simp only [h1, Option.bind_some, h2] at e; cases e
        | some ns =>
          simp only [h1, Option.bind_some, h2, Option.map_some] at e
          cases e
          obtain ⟨l, vs, rfl, hl, r⟩ := sq_of R a h1
          have e2 := allI_ok r h2
          exact ⟨l, ns, rfl, SqL.of (by rw [← e2]; exact hl), q _ F H (Ex.refl F) (Ex.refl H) R.ex (fun _ _ z => .inl z) rfl⟩
  · cases e
/-! ### sorted, whole numbers -/
end Tr
namespace Tr
open PySem PySem.Spec PyProof.Rows L2
/-! ### xs[i][j] = e, where xs holds lists of its own -/
theorem all_at {α β : Type} {R R' : α → β → Prop} : ∀ {l1 : List α} {l2 : List β}, All2 R l1 l2 → (∀ (i : Nat) a b, l2[i]? = some b → R a b → R' a b) → All2 R' l1 l2
  | _, _, .nil, _ => .nil
  | _, _, .cons r t, h => .cons (h 0 _ _ rfl r) (all_at t fun i a b e x => h (i + 1) a b (by rw [List.getElem?_cons_succ]; exact e) x)
theorem all_put {α β : Type} {R R' : α → β → Prop} : ∀ {l1 : List α} {l2 : List β}, All2 R l1 l2 → ∀ (n : Nat) (x : α) (y : β), l2[n]? = some y → R' x y → (∀ (i : Nat) a b, i ≠ n → l2[i]? = some b → R a b → R' a b) → All2 R' (l1.set n x) l2
  | _, _, .nil, _, _, _, h, _, _ => by simp at h
  | _, _, .cons _ t, 0, _, _, h, h2, h3 => by
    cases h
    exact .cons h2 (all_at t fun i a b e r => h3 (i + 1) a b (by omega) (by rw [List.getElem?_cons_succ]; exact e) r)
  | _, _, .cons r t, n + 1, x, y, h, h2, h3 => .cons (h3 0 _ _ (by omega) rfl r) (all_put t n x y (by rw [List.getElem?_cons_succ] at h; exact h) h2 fun i a b ne e r => h3 (i + 1) a b (by omega) (by rw [List.getElem?_cons_succ]; exact e) r)
theorem refs_inj : ∀ {xs ys : List Addr}, xs.map V.ref = ys.map V.ref → xs = ys
  | [], [], _ => rfl
  | [], _ :: _, h => by cases h
  | _ :: _, [], h => by cases h
  | x :: xs, y :: ys, h => by
    rw [List.map_cons, List.map_cons] at h
    have h1 := List.cons.inj h
    rw [V.ref.inj h1.1, refs_inj h1.2]
theorem REnv.held2 {F H : Hp} {σ : L2.St} {env : En} {Sl : Nat → Addr → Prop} {j : Nat} {rows : List (List PyData)} (R : REnv F H σ env Sl) (hj : env[j]? = some (some (.ow2 rows))) :
    ∃ a rs, σ[j]? = some (some (.ref a)) ∧ H a = some (.lst (rs.map V.ref)) ∧ a ∉ rs ∧ rs.Nodup ∧ Sl j a ∧ All2 (fun row r => Sl j r ∧ ∃ vs, H r = some (.lst vs) ∧ All2 (Rp F) row vs) rows rs := by
  obtain ⟨v, e1, a, rs, e2, sa, hH, n, nd, r⟩ := R.at_ j _ hj
  subst e2
  exact ⟨a, rs, e1, hH, n, nd, sa, r⟩
theorem REnv.write2 {F H : Hp} {σ : L2.St} {env : En} {Sl : Nat → Addr → Prop} {j n : Nat} {a r : Addr} {rows : List (List PyData)} {row' : List PyData} {rs : List Addr} {vs' : List V} (R : REnv F H σ env Sl) (hj : env[j]? = some (some (.ow2 rows)))
    (hv : σ[j]? = some (some (.ref a))) (hH : H a = some (.lst (rs.map V.ref))) (na : a ∉ rs) (nd : rs.Nodup) (sa : Sl j a) (all : All2 (fun row r => Sl j r ∧ ∃ vs, H r = some (.lst vs) ∧ All2 (Rp F) row vs) rows rs) (hn : rs[n]? = some r) (w : All2 (Rp F) row' vs') :
    Step F H Sl F (upd H r (.lst vs')) Sl ∧ REnv F (upd H r (.lst vs')) σ (env.set j (some (.ow2 (rows.set n row')))) Sl := by
  obtain ⟨row0, _, sr, vs0, hr0, _⟩ := all.getR hn
  have ar : a ≠ r := fun z => na (by rw [z]; exact List.mem_of_getElem? hn)
  have ns : ∀ i, i ≠ j → ¬ Sl i r := fun i n z => n (R.dj i j r z sr)
  have fr := (R.tr j r sr).1
  refine ⟨⟨Ex.refl F, fun b o h n => ?_, fun b o h => ?_, fun _ _ z => .inl z, fun _ _ z => .inl z⟩, ⟨fun b o h => ?_, by rw [List.length_set]; exact R.len, fun i o h => ?_, R.dj, fun i b z => ?_⟩⟩
  · rw [upd_ne (fun z => n j (by rw [z]; exact sr))]; exact h
  · by_cases z : b = r
    · subst z; exact ⟨_, upd_same⟩
    · exact ⟨o, by rw [upd_ne z]; exact h⟩
  · rw [upd_ne (fun z => by rw [z, fr] at h; cases h)]; exact R.ex b o h
  · rcases set_at h with ⟨rfl, e2, _⟩ | ⟨ne, h'⟩
    · cases e2
      refine ⟨_, hv, a, rs, rfl, sa, by rw [upd_ne ar]; exact hH, na, nd, all_put all n row' r hn ⟨sr, vs', upd_same, w⟩ fun k x y kn hy hx => ?_⟩
      obtain ⟨s1, vs, h1, h2⟩ := hx
      have yr : y ≠ r := fun z => kn ((List.getElem?_inj (List.getElem?_eq_some_iff.mp hy).1 nd).mp (by rw [hy, hn, z]))
      exact ⟨s1, vs, by rw [upd_ne yr]; exact h1, h2⟩
    · obtain ⟨v2, e2, w2⟩ := R.at_ i o h'
      exact ⟨v2, e2, w2.ext (Ex.refl F) fun b u s q => by rw [upd_ne (fun z => ns i ne (by rw [← z]; exact s))]; exact q⟩
  · obtain ⟨y1, u, y2⟩ := R.tr i b z
    refine ⟨y1, ?_⟩
    by_cases e : b = r
    · subst e; exact ⟨_, upd_same⟩
    · exact ⟨u, by rw [upd_ne e]; exact y2⟩
/-- xs[i][k] = e -/
def mSet2 (j : Nat) (mi mk me : ME) : MS := bnd me fun p e1 => match fzP e1 p with
  | some (d, e2) => match e2[j]? with
    | some (some (.ow2 rows)) => match mi e2 with
      | some (.val (.int x), _) => match ixN rows.length x with
        | some n => match mk e2 with
          | some (.val (.int y), _) => match rows[n]? with
            | some row => match ixN row.length y with
              | some m => some (.nx, e2.set j (some (.ow2 (rows.set n (row.set m d)))))
              | none => none
            | none => none
          | _ => none
        | none => none
      | _ => none
    | _ => none
  | none => none
theorem rs_set2 {K : PySem.W.Frag} {pn : List Nat} {pu : Bool} {te ti tk : TE} {me mi mk : ME} {j : Nat} (h : RE pu te me) (hi : RE true ti mi) (hk : RE true tk mk) : RS pn (tAsg te (gSub (tOp (rIx K) (tVar j) ti) tk rSetL)) (mSet2 j mi mk me) := by
  intro F H σ env Sl R c env' e D q
  obtain ⟨p, e1, h1, h2⟩ := bnd_of e
  split at h2
  · rename_i d e2 h3
    split at h2
    · rename_i rows h0
      split at h2
      · rename_i x e3 h4
        split at h2
        · rename_i n h5
          split at h2
          · rename_i y e4 h6
            split at h2
            · rename_i row h7
              split at h2
              · rename_i m h8
                cases h2
                refine h F H σ env Sl R p _ h1 _ fun r F1 H1 Sl1 s1 pu1 R1 r1 => ?_
                obtain ⟨F2, Sl2, s2, R2, r2⟩ := fz_ok R1 r1 h3
                obtain ⟨a, rs, ha, hH, na, nd, sa, all⟩ := R2.held2 h0
                refine ⟨_, ha, ?_⟩
                refine hi F2 H1 σ e2 Sl2 R2 _ _ h4 _ fun r' F3 H3 Sl3 s3 pu3 R3 r3 => ?_
                obtain ⟨rfl, x3, rfl⟩ := pu3 rfl
                have hl : rows.length = rs.length := all.len
                obtain ⟨r0, hr0, sr0, vs, hv0, rr0⟩ := all.get h7
                have at0 : atI (rs.map V.ref) x = some (.ref r0) := by
                  unfold atI
                  rw [List.length_map, ← hl, h5]
                  show (rs.map V.ref)[n]? = _
                  rw [List.getElem?_map, hr0]
                  rfl
                refine .inl ⟨a, rs.map V.ref, x, .ref r0, rfl, pint r3, SqL.of (x3 _ _ hH), at0, ?_⟩
                refine hk F3 H3 σ e3 Sl3 R3 _ _ h6 _ fun r' F4 H4 Sl4 s4 pu4 R4 r4 => ?_
                obtain ⟨rfl, x4, rfl⟩ := pu4 rfl
                obtain ⟨a', rs', ha', hH', na', nd', sa', all'⟩ := R4.held2 h0
                rw [ha] at ha'
                cases ha'
                have hH4 := x4 _ _ (x3 _ _ hH)
                rw [hH4] at hH'
                have ers : rs = rs' := refs_inj (HO.lst.inj (Option.some.inj hH'))
                subst ers
                obtain ⟨r1', hr1, sr1, vs1, hv1, rr1⟩ := all'.get h7
                rw [hr0] at hr1
                cases hr1
                have w := rr1.set m (Rp.mono (s3.exF.trans s4.exF) r2)
                obtain ⟨s5, R5⟩ := R4.write2 h0 ha hH4 na nd sa' all' hr0 w
                refine ⟨r0, vs1, y, m, rfl, pint r4, hv1, by rw [← rr1.len]; exact h8, ?_⟩
                exact q _ _ σ _ (s1.trans (s2.trans (s3.trans (s4.trans s5)))) R5 fun _ _ => rfl
              · cases h2
            · cases h2
          · cases h2
        · cases h2
      · cases h2
    · cases h2
  · cases h2
/-! ### y = xs[i]; y.append(e), where xs holds lists of its own and y is not read again -/
theorem REnv.other {F H : Hp} {σ : L2.St} {env : En} {Sl : Nat → Addr → Prop} {i : Nat} (v : Option V) (R : REnv F H σ env Sl) : REnv F H (σ.set i v) (env.set i none) (lose Sl i) := by
  refine ⟨R.ex, by rw [List.length_set, List.length_set]; exact R.len, fun j u h => ?_, fun j k a x y => R.dj j k a x.2 y.2, fun j a x => R.tr j a x.2⟩
  rcases set_at h with ⟨rfl, e2, _⟩ | ⟨ne, h'⟩
  · cases e2
  · obtain ⟨v2, e2, w2⟩ := R.at_ j u h'
    refine ⟨v2, ?_, w2.sub fun a s => ⟨ne, s⟩⟩
    rw [List.getElem?_set_ne (Ne.symm ne)]
    exact e2
end Tr
/-! Defs that may raise an own exception with one field. -/
namespace Tr
open PySem PySem.Spec PyProof.Rows L2

/-! ### what a def gives: a thing, or an exception of the n-th class with the field d -/
inductive Xr where | ok (o : O) | ex (n : Nat) (d : PyData)
inductive Xc where | c (c : Ctl) | ex (n : Nat) (d : PyData)
/-- classes: where they stand, and their field -/
abbrev Cl := Nat → Addr × Str
def XEnds (cl : Cl) (D : Ends) (W : WX) (F0 H0 : Hp) (Sl0 : Nat → Addr → Prop) (σ0 : L2.St) (c : Xc) (env' : En) : Prop := match c with
  | .c c => EndsAt [] D F0 H0 Sl0 σ0 c env'
  | .ex n d => ∀ F' H' σ' Sl' dx v, Step F0 H0 Sl0 F' H' Sl' → Ex F' H' → Rp F' d v → F' dx = none → H0 dx = none → H' dx = some (.xd [((cl n).2, v)]) → W (.ref (cl n).1) (some dx) σ' H'
section
variable {cl : Cl} {W : WX}
theorem XEnds.step {D : Ends} {F H F1 H1 : Hp} {Sl Sl1 : Nat → Addr → Prop} {σ σ1 : L2.St} {c : Xc} {env' : En} (h : XEnds cl D W F H Sl σ c env') (s : Step F H Sl F1 H1 Sl1) : XEnds cl D W F1 H1 Sl1 σ1 c env' := by
  cases c with
  | c c => exact EndsAt.step (pn := []) h s fun _ z => by simp at z
  | ex n d => exact fun F' H' σ' Sl' dx v s' e r f n0 hd => h F' H' σ' Sl' dx v (s.trans s') e r f (s.tkb n0) hd
/-! ### raise X(e) -/
end
end Tr
namespace Tr
open PySem PySem.Spec PyProof.Rows L2
/-! ### defs that may raise -/
structure FnX (P : Program) (w : World) (K : PySem.W.Frag) (mg : Str → Option Value) (base : Heap) (k : Nat) (f : Addr) (fd : FuncData) (ps : List Str) (sp : Sp) : Prop where
  len : ∀ vs H Q E, sp vs H Q E → vs.length = ps.length
  go : ∀ (A : Around) (ou : List Env) (s : Shared) (H : Hp) (ar : Args) (us : List Value) (vs : List V) (Q : VK) (E : XK), Room k A → A.guards = some [] → Env0 P w K mg base A ou s H → BindsTo s fd ar (ps.zip us) → Vals vs us → sp vs H Q E →
    codeAny (model P w) A (.call (.ref f) ar) (CR (L2.CX P w) ou P w H s Q E) s
section
variable {P : Program} {w : World} {K : PySem.W.Frag} {mg : Str → Option Value} {base : Heap}
theorem FnX.mono {j k : Nat} {f : Addr} {fd : FuncData} {ps : List Str} {sp : Sp} (F : FnX P w K mg base j f fd ps sp) (h : j ≤ k) : FnX P w K mg base k f fd ps sp :=
  ⟨F.len, fun A ou s H ar us vs Q E r => F.go A ou s H ar us vs Q E (r.mono h)⟩
end
section
variable {X : Cx} {k : Nat} {f : Addr} {fd : FuncData} {ps : List Str} {sp : Sp} {x : Str} {p pos : Pos} {e : Expr} {es : List Expr} {t : TA} {E : L2.St → XK}
end

end Tr
namespace Tr
open PySem PySem.Spec PyProof.Rows L2
/-! ### an exception that is kept behind its except suite -/
section
variable {X : Cx} {pins : List (Addr × Obj)} {σ : L2.St} {H : Hp} {s : Shared}
end
section
variable {X : Cx} {x n : Str} {c : Value} {i : Nat} {body suite : List Stmt} {b₀ : Stmt} {np pos pos' : Pos} {tb : WX → TS} {ts : Addr → Value → Option Addr → TS} {Wout : WX}
end
/-! ### kept.f; isinstance(kept, T) -/
/-- what the written part says of the class -/
structure KcC (K : PySem.W.Frag) (C : Addr) (f : Str) : Prop where
  ga : PySem.W.findIn K (.ref C) "__getattribute__" = some (some (.builtin "BaseException.__getattribute__"))
  gg : PySem.W.findIn K (.ref C) "__getattr__" = some none
  exC : PySem.W.subIn K (.ref C) (.type "BaseException") = some true
  hdC : PySem.W.hasDictIn K C = true
  noF : PySem.W.findIn K (.ref C) f = some none
  clC : (PySem.W.clsIn K C).isSome = true
  ca : PySem.W.findIn K (.ref C) "__class__" = some (some (.builtin "object.__class__"))
  cn : PySem.W.specialIn K (.builtin "object.__class__") "__get__" = some (some (.builtin "getset_descriptor.__get__"))
  ct : PySem.W.takesIn K (.builtin "object.__class__") = some true
  cm : PySem.W.mroIn K C (.type "object") = some true
end Tr
namespace Tr
open PySem PySem.Spec PyProof.Rows L2
end Tr
namespace Tr
open PySem PySem.Spec PyProof.Rows L2
/-! ### {} -/
/-! ### tuple(xs), str(n) -/
/-! ### [a, b] == [c, d] of names, none of which is fixed by it -/
/-! ### a, b = e, e' where both hold what is new -/
end Tr
namespace Tr
open PySem PySem.Spec PyProof.Rows L2
end Tr
namespace Tr
open PySem PySem.Spec PyProof.Rows L2
/-! ### a comprehension over two -/
/-- the list at p is being made -/
structure Acc (p : Addr) (F1 H1 : Hp) (Sl1 : Nat → Addr → Prop) (F H : Hp) (Sl : Nat → Addr → Prop) (σ : L2.St) (env : En) (acc : List PyData) (ys : List V) : Prop where
  R : REnv F H σ env Sl
  st : Step F1 H1 Sl1 F H Sl
  ra : All2 (Rp F) acc ys
  fp : F p = none
  nsp : ∀ i, ¬ Sl i p
  hp : H p = some (.lst ys)
theorem Acc.more {p : Addr} {F1 H1 F H F' H' : Hp} {Sl1 Sl Sl' : Nat → Addr → Prop} {σ σ' : L2.St} {env env' : En} {acc : List PyData} {ys : List V} (A : Acc p F1 H1 Sl1 F H Sl σ env acc ys) (s : Step F H Sl F' H' Sl') (R' : REnv F' H' σ' env' Sl') : Acc p F1 H1 Sl1 F' H' Sl' σ' env' acc ys := by
  refine ⟨R', A.st.trans s, all_mono s.exF A.ra, ?_, fun i z => ?_, s.fr _ _ A.hp A.nsp⟩
  · cases z : F' p with
    | none => rfl
    | some o =>
      rcases s.fz p o z with y | y | ⟨j, y⟩
      · rw [A.fp] at y; cases y
      · rw [A.hp] at y; cases y
      · exact absurd y (A.nsp j)
  · rcases s.own i p z with y | y
    · exact A.nsp i y
    · rw [A.hp] at y; cases y
/-! ### is a list empty -/
/-! ### abs(n) -/
def gAbs : En → List P → Option P := fun _ ps => match ps with
  | [.val (.int i)] => some (.val (.int (if i < 0 then -i else i)))
  | _ => none
theorem f_abs : FnK (fun xs H Q => ∃ i : Int, xs = [.int i] ∧ Q (.int (if i < 0 then -i else i)) H) gAbs := by
  intro F H σ env Sl xs ps p R h e Q q
  unfold gAbs at e
  split at e
  · rename_i i
    cases e
    cases h with
    | cons a t =>
      cases t
      exact ⟨i, by rw [show _ = V.int i from a], q _ F H (Ex.refl F) (Ex.refl H) R.ex (fun _ _ z => .inl z) rfl⟩
  · cases e
/-! ### sorted, pairs of whole numbers -/
/-! ### a default that fills up -/
end Tr
namespace Tr
open PySem PySem.Spec PyProof.Rows L2
/-! ### a def that calls itself: no promise at depth 0 -/
/-! ### zip of two lists -/
def zipD : List PyData → List PyData → List PyData
  | a :: as, b :: bs => .tuple [a, b] :: zipD as bs
  | _, _ => []
theorem zipD_get : ∀ (as bs : List PyData) (i : Nat), (zipD as bs)[i]? = match as[i]?, bs[i]? with | some a, some b => some (.tuple [a, b]) | _, _ => none
  | [], bs, i => by simp [zipD]
  | a :: as, [], i => by
    simp only [zipD, List.getElem?_nil]
    split <;> first | rfl | simp_all
  | a :: as, b :: bs, 0 => by simp [zipD]
  | a :: as, b :: bs, i + 1 => by
    show (zipD as bs)[i]? = _
    rw [zipD_get as bs i, List.getElem?_cons_succ, List.getElem?_cons_succ]
def mZip (ma : MA) : ML := bnd ma fun ps e => match ps with
  | [p, q] => match fzP e p with
    | some (.list as, e2) => match fzP e2 q with
      | some (.list bs, e3) => some (zipD as bs, e3)
      | _ => none
    | _ => none
  | _ => none
theorem it_z {K : PySem.W.Frag} {F : Hp} {a b : Addr} {vs us : List V} {as bs : List PyData} (h : F a = some (.lst vs)) (r : All2 (Rp F) as vs) (h' : F b = some (.lst us)) (r' : All2 (Rp F) bs us) : ItOk (Itz K a b) F (zipD as bs) := by
  intro F1 H1 e1 e2 i
  have hs : SqL K H1 a vs := SqL.of (e2 _ _ (e1 _ _ h))
  have hs' : SqL K H1 b us := SqL.of (e2 _ _ (e1 _ _ h'))
  rw [zipD_get]
  refine ⟨fun d hd => ?_, fun hd => ⟨vs, us, hs, hs', ?_⟩⟩
  · cases ha : as[i]? with
    | none => rw [ha] at hd; cases hd
    | some d1 =>
      cases hb : bs[i]? with
      | none => rw [ha, hb] at hd; cases hd
      | some d2 =>
        rw [ha, hb] at hd
        cases hd
        obtain ⟨v, hv, rv⟩ := r.get ha
        obtain ⟨u, hu, ru⟩ := r'.get hb
        refine ⟨⟨vs, us, v, u, hs, hs', hv, hu⟩, fun x H' y => ?_⟩
        obtain ⟨T, x', y', rfl, nT, rfl, f, f'⟩ := y
        have ex : x' = v := Option.some.inj ((f vs hs).symm.trans hv)
        have ey : y' = u := Option.some.inj ((f' us hs').symm.trans hu)
        subst ex
        subst ey
        obtain ⟨y1, y2, y3, y4, y5⟩ := new_tup (ds := [d1, d2]) (vs := [x', y']) e2 nT (.cons (Rp.mono e1 rv) (.cons (Rp.mono e1 ru) .nil))
        exact ⟨_, y1, y2, y3, y4, y5⟩
  · cases ha : as[i]? with
    | none =>
      left
      rw [← r.len]
      exact List.getElem?_eq_none_iff.mp ha
    | some d1 =>
      cases hb : bs[i]? with
      | none =>
        right
        rw [← r'.len]
        exact List.getElem?_eq_none_iff.mp hb
      | some d2 => rw [ha, hb] at hd; cases hd
theorem ri_zip {K : PySem.W.Frag} {pu : Bool} {ta : TA} {ma : MA} (h : RA pu ta ma) : RI (iZip K ta) (mZip ma) := by
  intro F H σ env Sl R ds env' e Q q
  obtain ⟨ps, e1, h1, h2⟩ := bnd_of e
  split at h2
  · split at h2
    · rename_i as e2 h3
      split at h2
      · rename_i bs e3 h4
        cases h2
        refine h F H σ env Sl R _ _ h1 _ fun r F1 H1 Sl1 s1 pu1 R1 r1 => ?_
        cases r1 with
        | cons x t =>
          cases t with
          | cons y t =>
            cases t
            obtain ⟨F2, Sl2, s2, R2, r2⟩ := fz_ok R1 x h3
            obtain ⟨F3, Sl3, s3, R3, r3⟩ := fz_ok R2 (RP.mono s2.exF y) h4
            obtain ⟨a, vs, rfl, hF, rr⟩ := rp_list.mp (Rp.mono s3.exF r2)
            obtain ⟨b, us, rfl, hF', rr'⟩ := rp_list.mp r3
            exact ⟨a, b, vs, us, rfl, SqL.of (R3.ex _ _ hF), SqL.of (R3.ex _ _ hF'), q _ F3 H1 Sl3 (s1.trans (s2.trans s3)) R3 (it_z hF rr hF' rr')⟩
      · cases h2
    · cases h2
  · cases h2
theorem pi_zipK {X : Cx} {K : PySem.W.Frag} {e e2 : Expr} {ta : TA} {p pos tpos : Pos} {elts : List Expr} {kk : Nat} (hg : Gl X "zip") (hm : X.mg "zip" = none) (ha : PA X [e, e2] ta)
    (hs : starEach [e, e2] X.env = (false, eval e X.env) :: starEach [e2] X.env := by rfl) (hpl : (backTo pos (starEach [e2] X.env)).any (·.1) = false := by rfl) (h : X.K = K := by rfl) :
    PI X (.Tuple elts kk tpos) (.Call (.Name "zip" p) [e, e2] [] pos) (iZip K ta) := by subst h; exact pi_zip hg hm ha hs hpl
/-! ### xs[::-1] -/
/-! ### max, min of two whole numbers -/
/-! ### any value into a name, as what a pair of names takes -/
/-! ### a tuple of texts of the module's top -/
/-! ### a default that is a text -/
end Tr
namespace Tr
open PySem PySem.Spec PyProof.Rows L2
/-! ### instances of own classes -/
end Tr
namespace Tr
open PySem PySem.Spec PyProof.Rows L2
/-! ### xs.insert(i, e), xs.remove(k), xs.pop() -/
/-! xs.index(x) -/
/-! a, b = a list -/
/-! range(i, j, -1) -/
/-! xs[i], xs[k] = a, b -/
/-! repr([a, b]), names that may still be changed afterwards -/
/-! ### a dict of defs at the module's top -/
/-- of several defs that a name may hold -/
structure HeldG (P : Program) (w : World) (K : PySem.W.Frag) (mg : Str → Option Value) (base : Heap) (k : Nat) (f : Addr) (sp : Sp) : Prop where
  ex : ∃ (fd : FuncData) (ps : List Str), FnG P w K mg base k f fd ps sp ∧ PySem.W.keepIn K (.ref f) = true ∧ Binds K fd ps []
end Tr
namespace Tr
open PySem PySem.Spec PyProof.Rows L2
section
variable {X : Cx} {k : Nat} {f C : Addr} {fd : FuncData} {ps : List Str} {sp : Sp} {x m : Str} {p pos apos : Pos} {o e : Expr} {es : List Expr} {t ta : TA} {te : TE} {ds : List Value} {dvs : List V}
end
section
variable {X : Cx} {K : PySem.W.Frag} {e o : Expr} {f : Str} {pos pos' : Pos} {te tv : TE} {value : Expr}
end
end Tr
namespace Tr
open PySem PySem.Spec PyProof.Rows L2
/-! ### typed: plain functions over typed values that the functions over trees keep to -/
/-- where t gives b, m gives av b and leaves st b -/
def XV {α β : Type} (m : En → Option (α × En)) (env : En) (t : Option β) (av : β → α) (st : β → En) : Prop := ∀ b, t = some b → m env = some (av b, st b)
section
variable {α β γ δ : Type} {env : En} {m : En → Option (α × En)} {k : α → En → Option (γ × En)}
theorem xv_PV' {a : α} {e2 : En} {t : Option β} {cv : β → γ} {st : β → En} (h : m env = some (a, e2)) (hk : XV (k a) e2 t cv st) : XV (bnd m k) env t cv st := fun b hb => (bnd_eq h).trans (hk b hb)
theorem xv_VP {t : Option β} {av : β → α} {st : β → En} {cv : β → γ} {st2 : β → En} (h : XV m env t av st) (hk : ∀ b, k (av b) (st b) = some (cv b, st2 b)) : XV (bnd m k) env t cv st2 := fun b hb => (bnd_eq (h b hb)).trans (hk b)
theorem xv_VV {t : Option β} {av : β → α} {st : β → En} {t2 : β → Option δ} {cv : β × δ → γ} {st2 : β × δ → En} (h : XV m env t av st) (hk : ∀ b, XV (k (av b)) (st b) (t2 b) (fun c => cv (b, c)) (fun c => st2 (b, c))) :
    XV (bnd m k) env (t.bind fun b => (t2 b).map fun c => (b, c)) cv st2 := fun p hp => by
  cases ht : t with
  | none => rw [ht] at hp; cases hp
  | some b =>
    rw [ht] at hp
    cases h2 : t2 b with
    | none =>
      have hp' : (t2 b).map (fun c => (b, c)) = some p := hp
      rw [h2] at hp'
      cases hp'
    | some c =>
      have hp' : (t2 b).map (fun c => (b, c)) = some p := hp
      rw [h2] at hp'
      cases hp'
      exact (bnd_eq (h b ht)).trans (hk b c h2)
/-- told in other words -/
theorem xv_map {t : Option β} {f : β → δ} {av : δ → α} {st : δ → En} (h : XV m env t (fun b => av (f b)) (fun b => st (f b))) : XV m env (t.map f) av st := fun d hd => by
  cases ht : t with
  | none => rw [ht] at hd; cases hd
  | some b => rw [ht] at hd; cases hd; exact h b ht
theorem xv_some {av : β → α} {st : β → En} {b : β} (h : m env = some (av b, st b)) : XV m env (some b) av st := fun c hc => by cases hc; exact h
end
/-! ### operators that may fail -/
def modI (i j : Int) : Option Int := if j = 0 then none else some (i.fmod j)
def fdivI (i j : Int) : Option Int := if j ≠ 0 ∧ j.natAbs < 1073741824 then some (i.fdiv j) else none
def mulI (i j : Int) : Option Int := if i.natAbs.log2 + j.natAbs.log2 < 1000000 then some (i * j) else none
def powI (i j : Int) : Option Int := if 0 ≤ j ∧ (Builtin.Int.intBits i : Int) * j ≤ 2 ^ 27 then some (i ^ j.toNat) else none
section
variable {env : En}
theorem xo_mod {i j : Int} : XV (fun e => (gMod e (.val (.int i)) (.val (.int j))).map fun r => (r, e)) env (modI i j) (fun r => .val (.int r)) (fun _ => env) := fun b hb => by
  unfold modI at hb
  split at hb
  · cases hb
  · rename_i h
    cases hb
    simp only [gMod, gI, decide_eq_true h, if_true]
    rfl
theorem xo_fdiv {i j : Int} : XV (fun e => (gFdiv e (.val (.int i)) (.val (.int j))).map fun r => (r, e)) env (fdivI i j) (fun r => .val (.int r)) (fun _ => env) := fun b hb => by
  unfold fdivI at hb
  split at hb
  · rename_i h
    cases hb
    simp only [gFdiv, gI, decide_eq_true h, if_true]
    rfl
  · cases hb
theorem xo_mul {i j : Int} : XV (fun e => (gMul e (.val (.int i)) (.val (.int j))).map fun r => (r, e)) env (mulI i j) (fun r => .val (.int r)) (fun _ => env) := fun b hb => by
  unfold mulI at hb
  split at hb
  · rename_i h
    cases hb
    simp only [gMul, gI, decide_eq_true h, if_true]
    rfl
  · cases hb
theorem xo_pow {i j : Int} : XV (fun e => (gPow e (.val (.int i)) (.val (.int j))).map fun r => (r, e)) env (powI i j) (fun r => .val (.int r)) (fun _ => env) := fun b hb => by
  unfold powI at hb
  split at hb
  · rename_i h
    cases hb
    simp only [gPow, gI, decide_eq_true h, if_true]
    rfl
  · cases hb
theorem atI_map {α : Type} {en : α → PyData} {xs : List α} {i : Int} : atI (xs.map en) i = (atI xs i).map en := by
  unfold atI
  rw [List.length_map]
  cases ixN xs.length i with
  | none => rfl
  | some k => exact List.getElem?_map ..
/-- xs[i] -/
theorem xo_ix {α : Type} {en : α → PyData} {xs : List α} {p : P} {i : Int} (hs : sqT env p = some (xs.map en)) : XV (fun e => (gIx e p (.val (.int i))).map fun r => (r, e)) env (atI xs i) (fun a => .val (en a)) (fun _ => env) := fun a ha => by
  have h : gIx env p (.val (.int i)) = (sqT env p).bind fun ds => (atI ds i).map .val := by
    unfold gIx
    split
    · cases hs
    · rename_i h; cases h; rfl
    · rename_i h1 h2; first | exact absurd rfl (h1 i) | exact absurd rfl (h1 _ i) | exact absurd rfl (h2 i) | exact absurd rfl (h2 _ i) | (exfalso; simp_all)
  show (gIx env p (.val (.int i))).map _ = _
  rw [h, hs, Option.bind_some, atI_map, ha]
  rfl
end
/-! ### typed values as data -/
def encI (i : Int) : PyData := .int i
def encB (b : Bool) : PyData := .bool b
def encD (d : PyData) : PyData := d
def encL {α : Type} (en : α → PyData) (xs : List α) : PyData := .list (xs.map en)
def encT {α β : Type} (ea : α → PyData) (eb : β → PyData) (p : α × β) : PyData := .tuple [ea p.1, eb p.2]
/-! ### equal -/
/-- == of such data is equality, and it may be asked -/
structure EncOk {α : Type} (en : α → PyData) (n : Nat) : Prop where
  eq : ∀ a b, PyData.eqv (en a) (en b) = true ↔ a = b
  can : ∀ a, (en a).canLay0 = true
  dep : ∀ a, (en a).depth ≤ n
theorem eo_I : EncOk encI 0 := ⟨fun a b => by simp [encI, PyData.eqv], fun _ => rfl, fun _ => Nat.le_refl _⟩
theorem eqvAll_map {α : Type} {en : α → PyData} (h : ∀ a b, PyData.eqv (en a) (en b) = true ↔ a = b) : ∀ xs ys : List α, PyData.eqvAll (xs.map en) (ys.map en) = true ↔ xs = ys
  | [], [] => by simp [PyData.eqvAll]
  | [], _ :: _ => by simp [PyData.eqvAll]
  | _ :: _, [] => by simp [PyData.eqvAll]
  | x :: xs, y :: ys => by
    show (PyData.eqv (en x) (en y) && PyData.eqvAll (xs.map en) (ys.map en)) = true ↔ _
    rw [Bool.and_eq_true, h, eqvAll_map h, List.cons.injEq]
theorem canAll_map {α : Type} {en : α → PyData} (h : ∀ a, (en a).canLay0 = true) : ∀ xs : List α, PyData.canLayAll0 (xs.map en) = true
  | [] => rfl
  | x :: xs => by
    show ((en x).canLay0 && PyData.canLayAll0 (xs.map en)) = true
    rw [h, canAll_map h]; rfl
theorem depAll_map {α : Type} {en : α → PyData} {n : Nat} (h : ∀ a, (en a).depth ≤ n) : ∀ xs : List α, PyData.depthAll (xs.map en) ≤ n
  | [] => Nat.zero_le _
  | x :: xs => by
    show max (en x).depth (PyData.depthAll (xs.map en)) ≤ n
    exact Nat.max_le.mpr ⟨h x, depAll_map h xs⟩
theorem eo_L {α : Type} {en : α → PyData} {n : Nat} (h : EncOk en n) : EncOk (encL en) (n + 1) := ⟨fun a b => eqvAll_map h.eq a b, fun a => canAll_map h.can a, fun a => Nat.succ_le_succ (depAll_map h.dep a)⟩
theorem shaped_enc {α : Type} {en : α → PyData} {n : Nat} (h : EncOk en n) (hn : n ≤ 64) (a : α) : SeqAt.shaped (en a) = true := by
  unfold SeqAt.shaped
  rw [h.can, Bool.true_and]
  exact decide_eq_true (Nat.le_trans (h.dep a) hn)
section
variable {env : En}
def sg : Bool → Bool → Bool | true, b => !b | false, b => b
theorem sg_xor {n b : Bool} : sg n b = (n ^^ b) := by cases n <;> cases b <;> rfl
theorem oe_eq0 {α : Type} [DecidableEq α] {en : α → PyData} {n : Nat} {neg : Bool} {p q : P} {a b : α} (h : EncOk en n) (hp : vw env p = some (en a)) (hq : vw env q = some (en b)) (hn : n ≤ 64 := by decide) : (gEq neg env p q).map (fun r => (r, env)) = some (.val (.bool (neg ^^ decide (a = b))), env) := by
  unfold gEq
  rw [hp, hq]
  simp only [shaped_enc h hn, Bool.and_self, if_true]
  rw [show PyData.eqv (en a) (en b) = decide (a = b) from by rw [Bool.eq_iff_iff, h.eq, decide_eq_true_eq]]
  rfl
theorem oe_eq {α : Type} [DecidableEq α] {en : α → PyData} {n : Nat} {neg : Bool} {p q : P} {a b : α} (h : EncOk en n) (hp : vw env p = some (en a)) (hq : vw env q = some (en b)) (hn : n ≤ 64 := by decide) : (gEq neg env p q).map (fun r => (r, env)) = some (.val (.bool (sg neg (decide (a = b)))), env) := by
  have h0 := oe_eq0 (neg := neg) h hp hq hn
  simp only [sg_xor]
  exact h0
theorem flat_I {xs : List Int} : (xs.map encI).all flat = true := by
  rw [List.all_eq_true]
  intro d hd
  obtain ⟨x, _, rfl⟩ := List.mem_map.mp hd
  rfl
theorem oe_inI0 {neg : Bool} {p : P} {x : Int} {xs : List Int} (hs : sqT env p = some (xs.map encI)) : (gIn neg env (.val (.int x)) p).map (fun r => (r, env)) = some (.val (.bool (neg ^^ decide (x ∈ xs))), env) := by
  unfold gIn
  simp only [hs]
  rw [if_pos (by rw [flat_I]; rfl)]
  rw [show ((xs.map encI).any fun y => PyData.eqv y (.int x)) = decide (x ∈ xs) from by
    rw [Bool.eq_iff_iff, List.any_eq_true, decide_eq_true_eq]
    constructor
    · rintro ⟨d, hd, h⟩
      obtain ⟨y, hy, rfl⟩ := List.mem_map.mp hd
      rw [← (eo_I.eq y x).mp h]; exact hy
    · intro h
      exact ⟨_, List.mem_map.mpr ⟨x, h, rfl⟩, (eo_I.eq x x).mpr rfl⟩]
  rfl
theorem oe_inI {neg : Bool} {p : P} {x : Int} {xs : List Int} (hs : sqT env p = some (xs.map encI)) : (gIn neg env (.val (.int x)) p).map (fun r => (r, env)) = some (.val (.bool (sg neg (decide (x ∈ xs)))), env) := by
  have h0 := oe_inI0 (neg := neg) (x := x) hs
  simp only [sg_xor]
  exact h0
theorem oe_len {α : Type} {en : α → PyData} {p : P} {xs : List α} (hp : vw env p = some (.list (xs.map en))) : (gLen env [p]).map (fun r => (r, env)) = some (.val (.int (xs.length : Nat)), env) := by
  unfold gLen
  simp only [hp, List.length_map]
  rfl
theorem oe_chain {i j k : Int} {f g : Int → Int → Bool} {ma mb mc : ME} (h1 : ma env = some (.val (.int i), env)) (h2 : mb env = some (.val (.int j), env)) (h3 : mc env = some (.val (.int k), env)) :
    mChain (gI0 fun i j => .bool (f i j)) (gI0 fun i j => .bool (g i j)) ma mb mc env = some (.val (.bool (f i j && g j k)), env) := by
  unfold mChain bnd
  simp only [h1, h2, gI0]
  cases h : f i j with
  | true => simp only [h3]; rfl
  | false => rfl
theorem oe_not {m : MT} {c : Bool} {e : En} (h : m env = some (c, e)) : mNot m env = some (!c, e) := by
  unfold mNot bnd
  simp only [h]
theorem xv_not {m : MT} {β : Type} {t : Option β} {av : β → Bool} {st : β → En} (h : XV m env t av st) : XV (mNot m) env t (fun b => !av b) st := fun b hb => oe_not (h b hb)
/-- the second part is only asked where the first holds; s: what may have changed -/
theorem xv_andP {σ : Type} {m n : MT} {c : Bool} {t : Option (Bool × σ)} {s : σ} {E : σ → En} (h : m (E s) = some (c, E s)) (h' : XV n (E s) t (fun p => p.1) (fun p => E p.2)) : XV (mAnd m n) (E s) (if c = true then t else some (false, s)) (fun p => p.1) (fun p => E p.2) := fun p hp => by
  unfold mAnd bnd
  simp only [h]
  cases c with
  | true => exact h' p hp
  | false => cases hp; rfl
theorem xv_orP {σ : Type} {m n : MT} {c : Bool} {t : Option (Bool × σ)} {s : σ} {E : σ → En} (h : m (E s) = some (c, E s)) (h' : XV n (E s) t (fun p => p.1) (fun p => E p.2)) : XV (mOr m n) (E s) (if c = true then some (true, s) else t) (fun p => p.1) (fun p => E p.2) := fun p hp => by
  unfold mOr bnd
  simp only [h]
  cases c with
  | true => cases hp; rfl
  | false => exact h' p hp
theorem xv_orV {σ : Type} {m n : MT} {t : Option (Bool × σ)} {t2 : σ → Option (Bool × σ)} {E : σ → En} (h : XV m env t (fun p => p.1) (fun p => E p.2)) (h' : ∀ s, XV n (E s) (t2 s) (fun p => p.1) (fun p => E p.2)) : XV (mOr m n) env (t.bind fun p => if p.1 = true then some (true, p.2) else t2 p.2) (fun p => p.1) (fun p => E p.2) := fun p hp => by
  cases ht : t with
  | none => rw [ht] at hp; cases hp
  | some q =>
    rw [ht] at hp
    obtain ⟨c, s⟩ := q
    unfold mOr bnd
    simp only [h _ ht]
    cases c with
    | true => cases hp; rfl
    | false => exact h' s p hp
theorem oe_andV {ma mb : ME} {c d : Bool} (h : ma env = some (.val (.bool c), env)) (h' : mb env = some (.val (.bool d), env)) : mAndV ma mb env = some (.val (.bool (c && d)), env) := by
  unfold mAndV mT bnd
  simp only [h, gB, Option.map_some]
  cases c with
  | true => exact h'
  | false => rfl
theorem xv_orVP {σ : Type} {ma mb : ME} {c : Bool} {t : Option (Bool × σ)} {s : σ} {E : σ → En} (h : ma (E s) = some (.val (.bool c), E s)) (h' : XV mb (E s) t (fun p => .val (.bool p.1)) (fun p => E p.2)) : XV (mOrV ma mb) (E s) (if c = true then some (true, s) else t) (fun p => .val (.bool p.1)) (fun p => E p.2) := fun p hp => by
  unfold mOrV mT bnd
  simp only [h, gB, Option.map_some]
  cases c with
  | true => cases hp; rfl
  | false => exact h' p hp
theorem xv_andVV {σ : Type} {ma mb : ME} {t : Option (Bool × σ)} {t2 : σ → Option (Bool × σ)} {E : σ → En} (h : XV ma env t (fun p => .val (.bool p.1)) (fun p => E p.2)) (h' : ∀ s, XV mb (E s) (t2 s) (fun p => .val (.bool p.1)) (fun p => E p.2)) : XV (mAndV ma mb) env (t.bind fun p => if p.1 = true then t2 p.2 else some (false, p.2)) (fun p => .val (.bool p.1)) (fun p => E p.2) := fun p hp => by
  cases ht : t with
  | none => rw [ht] at hp; cases hp
  | some q =>
    rw [ht] at hp
    obtain ⟨c, s⟩ := q
    unfold mAndV mT bnd
    simp only [h _ ht, gB, Option.map_some]
    cases c with
    | true => exact h' s p hp
    | false => cases hp; rfl
/-! ### lists -/
def cutG {α : Type} (xs : List α) (lo hi : Option Int) : List α := (xs.drop (HT.sIx xs.length 0 lo)).take (HT.sIx xs.length xs.length hi - HT.sIx xs.length 0 lo)
theorem cut_map {α : Type} {en : α → PyData} {xs : List α} {lo hi : Option Int} : cutD (xs.map en) lo hi = (cutG xs lo hi).map en := by
  unfold cutD cutG
  rw [List.length_map, List.map_take, List.map_drop]
theorem oe_cut {α : Type} {en : α → PyData} {xs : List α} {p : P} {lo hi : Option Int} (hs : sq env p = some (xs.map en)) : (sq env p).map (fun ds => (cutD ds lo hi, env)) = some ((cutG xs lo hi).map en, env) := by
  rw [hs]
  show some (cutD (xs.map en) lo hi, env) = _
  rw [cut_map]
def catG {α : Type} (xs ys : List α) : Option (List α) := if xs.length + ys.length ≤ sizeLine then some (xs ++ ys) else none
theorem xo_cat {α : Type} {en : α → PyData} {xs ys : List α} {p q : P} (hp : sq env p = some (xs.map en)) (hq : sq env q = some (ys.map en)) : XV (fun e => (gCat e p q).map fun r => (r, e)) env (catG xs ys) (fun r => r.map en) (fun _ => env) := fun r hr => by
  unfold catG at hr
  split at hr
  · rename_i h
    cases hr
    show (gCat env p q).map _ = _
    unfold gCat
    simp only [hp, hq, List.length_map]
    rw [if_pos h, List.map_append]
    rfl
  · cases hr
def repG {α : Type} (xs : List α) (k : Int) : Option (List α) := if -(2 ^ 63) ≤ k ∧ k < 2 ^ 63 ∧ xs.length * k.toNat ≤ sizeLine then some (List.replicate k.toNat xs).flatten else none
theorem rep_map {α : Type} {en : α → PyData} {xs : List α} : ∀ n : Nat, (List.replicate n (xs.map en)).flatten = ((List.replicate n xs).flatten).map en
  | 0 => rfl
  | n + 1 => by rw [List.replicate_succ, List.replicate_succ, List.flatten_cons, List.flatten_cons, List.map_append, rep_map n]
theorem xo_rep {α : Type} {en : α → PyData} {xs : List α} {p : P} {k : Int} (hp : sq env p = some (xs.map en)) : XV (fun e => (gRep e p (.val (.int k))).map fun r => (r, e)) env (repG xs k) (fun r => r.map en) (fun _ => env) := fun r hr => by
  unfold repG at hr
  split at hr
  · rename_i h
    cases hr
    show (gRep env p (.val (.int k))).map _ = _
    unfold gRep
    simp only [hp, List.length_map]
    rw [if_pos h, rep_map]
    rfl
  · cases hr
def rangeL (lo : Int) (n : Nat) : List Int := (List.range n).map fun k => lo + (k : Nat)
theorem range_map {lo : Int} {n : Nat} : rgD lo n = (rangeL lo n).map encI := by
  unfold rgD rangeL
  rw [List.map_map]; rfl
def rng1 (j : Int) : Option (List Int) := if -(2 ^ 62) ≤ j ∧ j < 2 ^ 62 then some (rangeL 0 j.toNat) else none
def rng2 (i j : Int) : Option (List Int) := if -(2 ^ 62) ≤ i ∧ i < 2 ^ 62 ∧ -(2 ^ 62) ≤ j ∧ j < 2 ^ 62 then some (rangeL i (j - i).toNat) else none
def rngV (i j : Int) : Option (List Int) := if (-(2 ^ 62) ≤ i ∧ i < 2 ^ 62 ∧ -(2 ^ 62) ≤ j ∧ j < 2 ^ 62) ∧ (j - i).toNat ≤ 2 ^ 24 then some (rangeL i (j - i).toNat) else none
theorem xo_rng1 {j : Int} : XV (fun e => (match [P.val (.int j)] with | [.val (.int j)] => if -(2 ^ 62) ≤ j ∧ j < 2 ^ 62 then some (rgD 0 j.toNat, e) else none | _ => none : Option (List PyData × En))) env (rng1 j) (fun r => r.map encI) (fun _ => env) := fun r hr => by
  unfold rng1 at hr
  split at hr
  · rename_i h
    cases hr
    show (if _ then _ else _) = _
    rw [if_pos h, range_map]
  · cases hr
theorem xo_rng2 {i j : Int} : XV (fun e => (match [P.val (.int i), P.val (.int j)] with | [.val (.int i), .val (.int j)] => if -(2 ^ 62) ≤ i ∧ i < 2 ^ 62 ∧ -(2 ^ 62) ≤ j ∧ j < 2 ^ 62 then some (rgD i (j - i).toNat, e) else none | _ => none : Option (List PyData × En))) env (rng2 i j) (fun r => r.map encI) (fun _ => env) := fun r hr => by
  unfold rng2 at hr
  split at hr
  · rename_i h
    cases hr
    show (if _ then _ else _) = _
    rw [if_pos h, range_map]
  · cases hr
/-- list(range(..)) -/
theorem xo_lrg1 {j : Int} : XV (fun e => (match P.val (.int j) with | .val (.int n) => if okRg 0 n = true then some (rgD 0 n.toNat, e) else none | _ => none : Option (List PyData × En))) env (rngV 0 j) (fun r => r.map encI) (fun _ => env) := fun r hr => by
  unfold rngV at hr
  split at hr
  · rename_i h
    cases hr
    show (if _ then _ else _) = _
    rw [if_pos (show okRg 0 j = true from decide_eq_true ⟨by omega, by omega, h.1.2.2.1, h.1.2.2.2, h.2⟩), range_map, Int.sub_zero]
  · cases hr
/-! enumerate, zip -/
def enL {α : Type} (xs : List α) : List (Int × α) := xs.mapIdx fun i x => ((i : Nat), x)
theorem en_map {α : Type} {en : α → PyData} {xs : List α} : enD (xs.map en) = (enL xs).map (encT encI en) := by
  refine List.ext_getElem? fun i => ?_
  rw [enD_get, List.getElem?_map, List.getElem?_map]
  unfold enL
  rw [List.getElem?_mapIdx]
  cases xs[i]? <;> rfl
theorem oe_enum {α : Type} {en : α → PyData} {xs : List α} {ma : MA} {p : P} {e1 e2 : En} (h : ma env = some ([p], e1)) (hs : fzP e1 p = some (.list (xs.map en), e2)) : mEnum ma env = some ((enL xs).map (encT encI en), e2) := by
  unfold mEnum bnd
  simp only [h, hs, en_map]
theorem zip_map {α β : Type} {ea : α → PyData} {eb : β → PyData} : ∀ {xs : List α} {ys : List β}, zipD (xs.map ea) (ys.map eb) = (xs.zip ys).map (encT ea eb)
  | [], ys => by cases ys <;> rfl
  | x :: xs, [] => rfl
  | x :: xs, y :: ys => by
    show _ :: zipD (xs.map ea) (ys.map eb) = _
    rw [zip_map]; rfl
end
/-! ### comprehensions -/
section
variable {α β σ : Type} {mi : ML} {mg : PyData → En → Option En} {mt : MT} {me : ME} {vs : List Nat} {en : α → PyData} {en' : β → PyData}
def cmpGo (cond : α → σ → Option (Bool × σ)) (elt : α → σ → Option (β × σ)) : List α → σ → Option (List β × σ)
  | [], s => some ([], s)
  | a :: as, s => (cond a s).bind fun r => if r.1 = true then (elt a r.2).bind fun y => (cmpGo cond elt as y.2).map fun ys => (y.1 :: ys.1, ys.2) else cmpGo cond elt as r.2
def cmpG (cond : α → σ → Option (Bool × σ)) (elt : α → σ → Option (β × σ)) (xs : List α) (s : σ) : Option (List β × σ) := if xs.length ≤ sizeLine then cmpGo cond elt xs s else none
theorem lc_go {cond : α → σ → Option (Bool × σ)} {elt : α → σ → Option (β × σ)} {E : σ → En} {E1 : α → σ → En} (hg : ∀ a s, mg (en a) (E s) = some (E1 a s)) (ht : ∀ a s, XV mt (E1 a s) (cond a s) (fun p => p.1) (fun p => E1 a p.2))
    (he : ∀ a s, XV me (E1 a s) (elt a s) (fun p => .val (en' p.1)) (fun p => E1 a p.2)) (hw : ∀ a s, wipeE (E1 a s) vs = E s) : ∀ (xs : List α) (s : σ) (acc : List PyData), acc.length + xs.length ≤ sizeLine → ∀ r, cmpGo cond elt xs s = some r → mLcGo mg mt me vs (xs.map en) acc (E s) = some (acc ++ r.1.map en', E r.2)
  | [], s, acc, hz, r, hr => by cases hr; simp [mLcGo]
  | a :: as, s, acc, hz, r, hr => by
    rw [List.length_cons] at hz
    unfold cmpGo at hr
    cases hc : cond a s with
    | none => rw [hc] at hr; cases hr
    | some c =>
      rw [hc, Option.bind_some] at hr
      have h2 := ht a s c hc
      show mLcGo mg mt me vs (en a :: as.map en) acc (E s) = _
      unfold mLcGo
      simp only [hg, h2]
      split at hr
      · rename_i hc1
        cases hy : elt a c.2 with
        | none => rw [hy] at hr; cases hr
        | some y =>
          rw [hy, Option.bind_some] at hr
          cases hys : cmpGo cond elt as y.2 with
          | none => rw [hys] at hr; cases hr
          | some ys =>
            rw [hys] at hr
            cases hr
            have h3 := he a c.2 y hy
            have ih := lc_go hg ht he hw as y.2 (acc ++ [en' y.1]) (by rw [List.length_append, List.length_singleton]; omega) ys hys
            simp only [hc1, h3, fzP, hw]
            rw [if_pos (by omega), ih, List.append_assoc]
            rfl
      · rename_i hc1
        have hc2 : c.1 = false := by simpa using hc1
        have ih := lc_go hg ht he hw as c.2 acc (by omega) r hr
        simp only [hc2, hw]
        exact ih
/-- any comprehension: what it changes is s -/
theorem lc_G {cond : α → σ → Option (Bool × σ)} {elt : α → σ → Option (β × σ)} {E : σ → En} {E1 : α → σ → En} {xs : List α} {s : σ} {e0 : En} (hw0 : wipeE e0 vs = E s) (hg : ∀ a s, mg (en a) (E s) = some (E1 a s)) (ht : ∀ a s, XV mt (E1 a s) (cond a s) (fun p => p.1) (fun p => E1 a p.2))
    (he : ∀ a s, XV me (E1 a s) (elt a s) (fun p => .val (en' p.1)) (fun p => E1 a p.2)) (hw : ∀ a s, wipeE (E1 a s) vs = E s) : XV (fun e => mLcGo mg mt me vs (xs.map en) [] (wipeE e vs)) e0 (cmpG cond elt xs s) (fun r => r.1.map en') (fun r => E r.2) := fun r hr => by
  unfold cmpG at hr
  split at hr
  · rename_i hz
    have := lc_go (E := E) (E1 := E1) hg ht he hw xs s [] (by simpa using hz) r hr
    show mLcGo _ _ _ _ _ _ (wipeE e0 vs) = _
    rw [hw0, this]
    rfl
  · cases hr
/-- nothing changes, nothing fails -/
def cmpT (f : α → β) (xs : List α) : Option (List β) := if xs.length ≤ sizeLine then some (xs.map f) else none
def cmpF (c : α → Bool) (f : α → β) (xs : List α) : Option (List β) := if xs.length ≤ sizeLine then some ((xs.filter c).map f) else none
theorem lc_F {c : α → Bool} {f : α → β} {env : En} {E1 : α → En} {xs : List α} {e0 : En} (hw0 : wipeE e0 vs = env) (hg : ∀ a, mg (en a) env = some (E1 a)) (ht : ∀ a, mt (E1 a) = some (c a, E1 a)) (he : ∀ a, me (E1 a) = some (.val (en' (f a)), E1 a)) (hw : ∀ a, wipeE (E1 a) vs = env) : XV (fun e => mLcGo mg mt me vs (xs.map en) [] (wipeE e vs)) e0 (cmpF c f xs) (fun r => r.map en') (fun _ => env) := fun r hr => by
  have go : ∀ (xs : List α) (acc : List PyData), acc.length + xs.length ≤ sizeLine → mLcGo mg mt me vs (xs.map en) acc env = some (acc ++ ((xs.filter c).map f).map en', env) := by
    intro xs
    induction xs with
    | nil => intro acc _; simp [mLcGo]
    | cons a as ih =>
      intro acc hz
      rw [List.length_cons] at hz
      show mLcGo mg mt me vs (en a :: as.map en) acc env = _
      unfold mLcGo
      simp only [hg, ht]
      cases hc : c a with
      | true =>
        simp only [he, fzP, hw]
        rw [if_pos (by omega), ih _ (by rw [List.length_append, List.length_singleton]; omega), List.filter_cons_of_pos hc, List.append_assoc]
        rfl
      | false =>
        simp only [hw]
        rw [ih _ (by omega), List.filter_cons_of_neg (by rw [hc]; exact Bool.false_ne_true)]
  unfold cmpF at hr
  split at hr
  · rename_i hz
    cases hr
    show mLcGo _ _ _ _ _ _ (wipeE e0 vs) = _
    rw [hw0, go xs [] (by simpa using hz)]
    rfl
  · cases hr
theorem lc_T {f : α → β} {env : En} {E1 : α → En} {xs : List α} {e0 : En} (hw0 : wipeE e0 vs = env) (hg : ∀ a, mg (en a) env = some (E1 a)) (he : ∀ a, me (E1 a) = some (.val (en' (f a)), E1 a)) (hw : ∀ a, wipeE (E1 a) vs = env) : XV (fun e => mLcGo mg mYes me vs (xs.map en) [] (wipeE e vs)) e0 (cmpT f xs) (fun r => r.map en') (fun _ => env) := fun r hr => by
  refine lc_F (c := fun _ => true) (f := f) hw0 hg (fun a => rfl) he hw r ?_
  unfold cmpT at hr
  unfold cmpF
  rw [List.filter_eq_self.mpr (fun _ _ => rfl)]
  exact hr
/-- nothing changes -/
def cmpOGo (cond : α → Option Bool) (elt : α → Option β) : List α → Option (List β)
  | [] => some []
  | a :: as => (cond a).bind fun r => if r = true then (elt a).bind fun y => (cmpOGo cond elt as).map fun ys => y :: ys else cmpOGo cond elt as
def cmpO (cond : α → Option Bool) (elt : α → Option β) (xs : List α) : Option (List β) := if xs.length ≤ sizeLine then cmpOGo cond elt xs else none
theorem cmpO_G {cond : α → Option Bool} {elt : α → Option β} : ∀ xs : List α, cmpGo (σ := Unit) (fun a s => (cond a).map fun c => (c, s)) (fun a s => (elt a).map fun y => (y, s)) xs () = (cmpOGo cond elt xs).map fun ys => (ys, ())
  | [] => rfl
  | a :: as => by
    unfold cmpGo cmpOGo
    cases cond a with
    | none => rfl
    | some c =>
      simp only [Option.map_some, Option.bind_some]
      cases c with
      | true =>
        simp only [if_true]
        cases elt a with
        | none => rfl
        | some y =>
          simp only [Option.map_some, Option.bind_some]
          rw [cmpO_G as]
          cases cmpOGo cond elt as <;> rfl
      | false =>
        simp only [Bool.false_eq_true, if_false]
        exact cmpO_G as
theorem lc_O {cond : α → Option Bool} {elt : α → Option β} {env : En} {E1 : α → En} {xs : List α} {e0 : En} (hw0 : wipeE e0 vs = env) (hg : ∀ a, mg (en a) env = some (E1 a)) (ht : ∀ a, XV mt (E1 a) (cond a) (fun c => c) (fun _ => E1 a)) (he : ∀ a, XV me (E1 a) (elt a) (fun y => .val (en' y)) (fun _ => E1 a)) (hw : ∀ a, wipeE (E1 a) vs = env) : XV (fun e => mLcGo mg mt me vs (xs.map en) [] (wipeE e vs)) e0 (cmpO cond elt xs) (fun r => r.map en') (fun _ => env) := fun r hr => by
  refine (lc_G (σ := Unit) (s := ()) (E := fun _ => env) (E1 := fun a _ => E1 a) (cond := fun a s => (cond a).map fun c => (c, s)) (elt := fun a s => (elt a).map fun y => (y, s)) hw0 (fun a _ => hg a) (fun a s => xv_map (ht a)) (fun a s => xv_map (he a)) (fun a _ => hw a)) (r, ()) ?_
  unfold cmpO at hr
  unfold cmpG
  split at hr
  · rename_i hz
    rw [if_pos hz, cmpO_G, hr]
    rfl
  · cases hr
end
/-! ### statements -/
inductive Rs (ρ σ : Type) where | nx (s : σ) | bk (s : σ) | rt (r : ρ)
def Rs.on {ρ σ τ : Type} (r : Rs ρ σ) (f : ρ → τ) (g : σ → τ) : τ := match r with
  | .nx s => g s
  | .bk s => g s
  | .rt r => f r
def SV {β : Type} (m : MS) (env : En) (t : Option β) (post : β → Ctl → En → Prop) : Prop := ∀ b, t = some b → ∃ c e, m env = some (c, e) ∧ post b c e
section
variable {α β γ δ σ ρ : Type} {env e : En} {m n : MS} {t : Option β} {post : β → Ctl → En → Prop}
theorem seq_next {m : MS} {env : En} : mSeq m mNext env = m env := by
  unfold mSeq mNext
  split
  · rename_i h; rw [h]
  · rfl
theorem sv_last (h : SV (mSeq m mNext) env t post) : SV m env t post := fun b hb => by
  obtain ⟨c, e, h1, h2⟩ := h b hb
  rw [seq_next] at h1
  exact ⟨c, e, h1, h2⟩
theorem sv_assoc {a b c : MS} (h : SV (mSeq a (mSeq b c)) env t post) : SV (mSeq (mSeq a b) c) env t post := fun x hx => by
  obtain ⟨k, e, h1, h2⟩ := h x hx
  refine ⟨k, e, ?_, h2⟩
  rw [← h1]
  unfold mSeq
  cases a env with
  | none => rfl
  | some r =>
    obtain ⟨k1, e1⟩ := r
    cases k1 <;> rfl
theorem sv_nx (h : m env = some (.nx, e)) (k : SV n e t post) : SV (mSeq m n) env t post := fun b hb => by
  obtain ⟨c, e', h1, h2⟩ := k b hb
  refine ⟨c, e', ?_, h2⟩
  unfold mSeq
  rw [h]
  exact h1
theorem sv_V {t1 : Option γ} {st : γ → En} {t2 : γ → Option β} (h : XV m env t1 (fun _ => Ctl.nx) st) (k : ∀ c, SV n (st c) (t2 c) post) : SV (mSeq m n) env (t1.bind t2) post := fun b hb => by
  cases ht : t1 with
  | none => rw [ht] at hb; cases hb
  | some c => rw [ht] at hb; exact sv_nx (h c ht) (k c) b hb
/-- a value gets a name -/
theorem sv_let {v : γ} {E : γ → En} {f : γ → Option β} (h : ∀ x, SV m (E x) (f x) post) : SV m (E v) ((some v).bind f) post := h v
theorem sv_exit {ct : Ctl} (h : m env = some (ct, e)) (hx : ct ≠ .nx) {b : β} (hp : post b ct e) : SV (mSeq m n) env (some b) post := fun b' hb => by
  cases hb
  refine ⟨ct, e, ?_, hp⟩
  unfold mSeq
  split
  · rename_i e1 h1; rw [h] at h1; cases h1; exact absurd rfl hx
  · exact h
theorem sv_exitV {t1 : Option γ} {ct : γ → Ctl} {st : γ → En} {f : γ → β} (h : XV m env t1 ct st) (hx : ∀ c, ct c ≠ .nx) (hp : ∀ c, post (f c) (ct c) (st c)) : SV (mSeq m n) env (t1.map f) post := fun b hb => by
  cases ht : t1 with
  | none => rw [ht] at hb; cases hb
  | some c => rw [ht] at hb; cases hb; exact sv_exit (h c ht) (hx c) (hp c) _ rfl
theorem sv_end {b : β} (hp : post b .nx env) : SV mNext env (some b) post := fun b' hb => by cases hb; exact ⟨_, _, rfl, hp⟩
theorem sv_never : SV m env (none : Option β) post := fun _ h => nomatch h
theorem sv_if {mc : MT} {mA mB : MS} {c : Bool} {tA tB : Option β} (h : mc env = some (c, e)) (ha : SV (mSeq mA n) e tA post) (hb : SV (mSeq mB n) e tB post) : SV (mSeq (mIf mc mA mB) n) env (if c = true then tA else tB) post := fun b hx => by
  have e1 : mSeq (mIf mc mA mB) n env = if c = true then mSeq mA n e else mSeq mB n e := by
    unfold mSeq mIf bnd
    rw [h]
    cases c <;> rfl
  rw [e1]
  cases c with
  | true => exact ha b hx
  | false => exact hb b hx
theorem sv_ifV {mc : MT} {mA mB : MS} {t1 : Option γ} {cv : γ → Bool} {st : γ → En} {tA tB : γ → Option β} (h : XV mc env t1 cv st) (ha : ∀ c, SV (mSeq mA n) (st c) (tA c) post) (hb : ∀ c, SV (mSeq mB n) (st c) (tB c) post) : SV (mSeq (mIf mc mA mB) n) env (t1.bind fun c => if cv c = true then tA c else tB c) post := fun b hx => by
  cases ht : t1 with
  | none => rw [ht] at hx; cases hx
  | some c => rw [ht] at hx; exact sv_if (h c ht) (ha c) (hb c) b hx
theorem sv_seq {t1 : Option γ} {Q : γ → En → Prop} {t2 : γ → Option β} (h : SV m env t1 (fun c k e => k = .nx ∧ Q c e)) (k : ∀ c e, Q c e → SV n e (t2 c) post) : SV (mSeq m n) env (t1.bind t2) post := fun b hb => by
  cases ht : t1 with
  | none => rw [ht] at hb; cases hb
  | some c =>
    rw [ht] at hb
    obtain ⟨_, e, h1, rfl, h2⟩ := h c ht
    exact sv_nx h1 (k c e h2) b hb
/-! loops -/
def forN (body : α → σ → Option σ) : List α → σ → Option σ
  | [], s => some s
  | a :: as, s => (body a s).bind (forN body as)
def forR (body : α → σ → Option (Rs ρ σ)) : List α → σ → Option (Rs ρ σ)
  | [], s => some (.nx s)
  | a :: as, s => (body a s).bind fun r => match r with
    | .nx s' => forR body as s'
    | .bk s' => some (.nx s')
    | .rt r => some (.rt r)
theorem sv_goN {en : α → PyData} {P : σ → En → Prop} {body : α → σ → Option σ} {mg : PyData → En → Option En} {mb : MS} (hb : ∀ a s e, P s e → ∃ e1, mg (en a) e = some e1 ∧ SV mb e1 (body a s) (fun s' c e' => (c = .nx ∨ c = .ct) ∧ P s' e')) :
    ∀ (xs : List α) (s : σ) (e : En), P s e → SV (mForGo mg mb (xs.map en)) e (forN body xs s) (fun s' c e' => c = .nx ∧ P s' e')
  | [], s, e, h, s', hs => by cases hs; exact ⟨.nx, e, rfl, rfl, h⟩
  | a :: as, s, e, h, s', hs => by
    unfold forN at hs
    cases h1 : body a s with
    | none => rw [h1] at hs; cases hs
    | some s1 =>
      rw [h1] at hs
      obtain ⟨e1, g1, sv⟩ := hb a s e h
      obtain ⟨c, e2, g2, gc, p2⟩ := sv s1 h1
      obtain ⟨c', e3, g3, g4⟩ := sv_goN hb as s1 e2 p2 s' hs
      refine ⟨c', e3, ?_, g4⟩
      show mForGo mg mb (en a :: as.map en) e = _
      unfold mForGo
      rcases gc with rfl | rfl
      · simp only [g1, g2, g3]
      · simp only [g1, g2, g3]
theorem sv_goR {en : α → PyData} {P : σ → En → Prop} {PR : ρ → Ctl → En → Prop} {body : α → σ → Option (Rs ρ σ)} {mg : PyData → En → Option En} {mb : MS} (hb : ∀ a s e, P s e → ∃ e1, mg (en a) e = some e1 ∧ SV mb e1 (body a s) (fun r c e' => match r with | .nx s' => (c = .nx ∨ c = .ct) ∧ P s' e' | .bk s' => c = .bk ∧ P s' e' | .rt r => (∃ o, c = .rt o) ∧ PR r c e')) :
    ∀ (xs : List α) (s : σ) (e : En), P s e → SV (mForGo mg mb (xs.map en)) e (forR body xs s) (fun r c e' => match r with | .nx s' => c = .nx ∧ P s' e' | .bk _ => False | .rt r => (∃ o, c = .rt o) ∧ PR r c e')
  | [], s, e, h, s', hs => by cases hs; exact ⟨.nx, e, rfl, rfl, h⟩
  | a :: as, s, e, h, s', hs => by
    unfold forR at hs
    cases h1 : body a s with
    | none => rw [h1] at hs; cases hs
    | some r =>
      rw [h1] at hs
      obtain ⟨e1, g1, sv⟩ := hb a s e h
      obtain ⟨c, e2, g2, gp⟩ := sv r h1
      cases r with
      | nx s1 =>
        obtain ⟨gc, p2⟩ := gp
        obtain ⟨c', e3, g3, g4⟩ := sv_goR (PR := PR) hb as s1 e2 p2 s' hs
        refine ⟨c', e3, ?_, g4⟩
        show mForGo mg mb (en a :: as.map en) e = _
        unfold mForGo
        rcases gc with rfl | rfl
        · simp only [g1, g2, g3]
        · simp only [g1, g2, g3]
      | bk s1 =>
        obtain ⟨rfl, p2⟩ := gp
        cases hs
        refine ⟨.nx, e2, ?_, rfl, p2⟩
        show mForGo mg mb (en a :: as.map en) e = _
        unfold mForGo
        simp only [g1, g2]
      | rt r =>
        obtain ⟨⟨o, rfl⟩, p2⟩ := gp
        cases hs
        refine ⟨.rt o, e2, ?_, ⟨o, rfl⟩, p2⟩
        show mForGo mg mb (en a :: as.map en) e = _
        unfold mForGo
        simp only [g1, g2]
theorem sv_forN {en : α → PyData} {Q : σ → En → Prop} {body : α → σ → Option σ} {mi : ML} {mg : PyData → En → Option En} {mb : MS} {xs : List α} {s0 : σ} {t2 : σ → Option β} (hi : mi env = some (xs.map en, e)) (h0 : Q s0 e)
    (hb : ∀ a s e, Q s e → ∃ e1, mg (en a) e = some e1 ∧ SV mb e1 (body a s) (fun s' c e' => (c = .nx ∨ c = .ct) ∧ Q s' e')) (k : ∀ s e, Q s e → SV n e (t2 s) post) : SV (mSeq (mFor mi mg mb) n) env ((forN body xs s0).bind t2) post :=
  sv_seq (Q := Q) (fun s' hs => by
    obtain ⟨c, e', h1, h2⟩ := sv_goN hb xs s0 e h0 s' hs
    exact ⟨c, e', (bnd_eq hi).trans h1, h2⟩) k
theorem sv_forNV {en : α → PyData} {Q : γ → σ → En → Prop} {body : γ → α → σ → Option σ} {mi : ML} {mg : PyData → En → Option En} {mb : MS} {t1 : Option γ} {xs : γ → List α} {st : γ → En} {s0 : γ → σ} {t2 : γ → σ → Option β} (hi : XV mi env t1 (fun c => (xs c).map en) st) (h0 : ∀ c, Q c (s0 c) (st c))
    (hb : ∀ c a s e, Q c s e → ∃ e1, mg (en a) e = some e1 ∧ SV mb e1 (body c a s) (fun s' k e' => (k = .nx ∨ k = .ct) ∧ Q c s' e')) (k : ∀ c s e, Q c s e → SV n e (t2 c s) post) : SV (mSeq (mFor mi mg mb) n) env (t1.bind fun c => (forN (body c) (xs c) (s0 c)).bind (t2 c)) post := fun b hx => by
  cases ht : t1 with
  | none => rw [ht] at hx; cases hx
  | some c => rw [ht] at hx; exact sv_forN (hi c ht) (h0 c) (hb c) (k c) b hx
theorem sv_forR {en : α → PyData} {Q : σ → En → Prop} {body : α → σ → Option (Rs ρ σ)} {mi : ML} {mg : PyData → En → Option En} {mb : MS} {xs : List α} {s0 : σ} {f : ρ → Option β} {t2 : σ → Option β} {PR : ρ → Ctl → En → Prop} (hi : mi env = some (xs.map en, e)) (h0 : Q s0 e)
    (hb : ∀ a s e, Q s e → ∃ e1, mg (en a) e = some e1 ∧ SV mb e1 (body a s) (fun r c e' => match r with | .nx s' => (c = .nx ∨ c = .ct) ∧ Q s' e' | .bk s' => c = .bk ∧ Q s' e' | .rt r => (∃ o, c = .rt o) ∧ PR r c e')) (hr : ∀ r c e b, (∃ o, c = .rt o) → PR r c e → f r = some b → post b c e) (k : ∀ s e, Q s e → SV n e (t2 s) post) :
    SV (mSeq (mFor mi mg mb) n) env ((forR body xs s0).bind fun r => r.on f t2) post := fun b hx => by
  cases ht : forR body xs s0 with
  | none => rw [ht] at hx; cases hx
  | some r =>
    rw [ht] at hx
    obtain ⟨c, e', h1, h2⟩ := sv_goR (PR := PR) hb xs s0 e h0 r ht
    have h3 : mFor mi mg mb env = some (c, e') := (bnd_eq hi).trans h1
    cases r with
    | nx s =>
      obtain ⟨rfl, h2⟩ := h2
      exact sv_nx h3 (k s e' h2) b hx
    | bk s => exact h2.elim
    | rt r =>
      obtain ⟨⟨o, rfl⟩, h2⟩ := h2
      exact sv_exit h3 (fun z => nomatch z) (hr r _ e' b ⟨o, rfl⟩ h2 hx) b rfl
theorem sv_forRV {en : α → PyData} {Q : γ → σ → En → Prop} {body : γ → α → σ → Option (Rs ρ σ)} {mi : ML} {mg : PyData → En → Option En} {mb : MS} {t1 : Option γ} {xs : γ → List α} {st : γ → En} {s0 : γ → σ} {f : γ → ρ → Option β} {t2 : γ → σ → Option β} {PR : γ → ρ → Ctl → En → Prop} (hi : XV mi env t1 (fun c => (xs c).map en) st) (h0 : ∀ c, Q c (s0 c) (st c))
    (hb : ∀ d a s e, Q d s e → ∃ e1, mg (en a) e = some e1 ∧ SV mb e1 (body d a s) (fun r c e' => match r with | .nx s' => (c = .nx ∨ c = .ct) ∧ Q d s' e' | .bk s' => c = .bk ∧ Q d s' e' | .rt r => (∃ o, c = .rt o) ∧ PR d r c e')) (hr : ∀ d r c e b, (∃ o, c = .rt o) → PR d r c e → f d r = some b → post b c e) (k : ∀ d s e, Q d s e → SV n e (t2 d s) post) :
    SV (mSeq (mFor mi mg mb) n) env (t1.bind fun d => (forR (body d) (xs d) (s0 d)).bind fun r => r.on (f d) (t2 d)) post := fun b hx => by
  cases ht : t1 with
  | none => rw [ht] at hx; cases hx
  | some d => rw [ht] at hx; exact sv_forR (hi d ht) (h0 d) (hb d) (hr d) (k d) b hx
/-! ### defs and calls -/
theorem def_T {N np : Nat} {pn : List Nat} {m : MS} {os : List O} {t : Option β} {ro : β → O} {ios : β → List O} (h1 : os.length = np) (h : SV m (os.map some ++ List.replicate (N - os.length) none) t (fun b c e => (c = .rt (ro b) ∨ (c = .nx ∧ ro b = .fz .none)) ∧ mDef.finL pn os e = some (ios b))) : ∀ b, t = some b → mDef N np pn m os = some (ro b, ios b) := fun b hb => by
  obtain ⟨c, e, h2, h3, h4⟩ := h b hb
  unfold mDef
  rw [if_pos h1, h2]
  rcases h3 with rfl | ⟨rfl, h5⟩
  · show mDef.fin pn os e (ro b) = _
    unfold mDef.fin
    rw [h4]; rfl
  · show mDef.fin pn os e (.fz .none) = _
    unfold mDef.fin
    rw [h4, h5]; rfl
theorem xo_call {pn : List Nat} {mf : MF} {ps : List P} {os os1 : List O} {ls : List (Option Nat)} {e2 : En} {t : Option γ} {ro : γ → O} {ios : γ → List O} {e3 : γ → En} (tk : ∀ c, t = some c → mf os1 = some (ro c, ios c)) (h1 : prepA pn 0 ps env = some (os, ls, e2)) (h2 : lentsOk ls = true) (h3 : lendA ls os e2 = some os1) (h4 : ∀ c, backA ls (ios c) e2 = some (e3 c)) :
    XV (fun e => callP pn mf ps e) env t ro e3 := fun c hc => by
  show callP pn mf ps env = _
  unfold callP
  rw [h1]
  simp only [h2, if_true, h3, tk c hc, h4 c]
end
/-! ### more words -/
section
variable {env : En} {α β γ : Type}
theorem oe_all {p : P} {bs : List Bool} (hs : sq env p = some (bs.map encB)) : (gAll env [p]).map (fun r => (r, env)) = some (.val (.bool (bs.all id)), env) := by
  have e : allB (bs.map encB) = some bs := allB_map bs
  unfold gAll
  simp only [hs, Option.bind_some, e, Option.map_some]
/-! instances -/
def appG (xs : List α) (x : α) : Option (List α) := if xs.length < sizeLine then some (xs ++ [x]) else none
/-! lists that a name alone holds -/
theorem xo_app_0 {en : α → PyData} {j : Nat} {ma : MA} {xs : List α} {x : α} {p : P} {e1 e2 : En} (h0 : ∃ ds, env[j]? = some (some (.ow ds))) (hm : ma env = some ([p], e1)) (hf : fzP e1 p = some (en x, e2)) (h : e2[j]? = some (some (.ow (xs.map en)))) : XV (mApp j ma) env (appG xs x) (fun _ => .nx) (fun r => e2.set j (some (.ow (r.map en)))) := fun r hr => by
  unfold appG at hr
  split at hr
  · rename_i hz
    cases hr
    obtain ⟨ds, h0⟩ := h0
    unfold mApp
    simp only [h0, hm, hf, h, List.length_map]
    rw [if_pos hz, List.map_append]
    rfl
  · cases hr
theorem xv_app_0 {en : α → PyData} {j : Nat} {ma : MA} {t : Option β} {xs : β → List α} {x : β → α} {p : β → P} {e1 e2 : β → En} (h0 : ∃ ds, env[j]? = some (some (.ow ds))) (hm : XV ma env t (fun b => [p b]) e1) (hf : ∀ b, fzP (e1 b) (p b) = some (en (x b), e2 b)) (h : ∀ b, (e2 b)[j]? = some (some (.ow ((xs b).map en)))) : XV (mApp j ma) env (t.bind fun b => (appG (xs b) (x b)).map fun r => (b, r)) (fun _ => .nx) (fun q => (e2 q.1).set j (some (.ow (q.2.map en)))) := fun q hq => by
  cases ht : t with
  | none => rw [ht] at hq; cases hq
  | some b =>
    rw [ht] at hq
    have hq' : (appG (xs b) (x b)).map (fun r => (b, r)) = some q := hq
    cases ha : appG (xs b) (x b) with
    | none => rw [ha] at hq'; cases hq'
    | some r =>
      rw [ha] at hq'
      cases hq'
      exact xo_app_0 h0 (hm b ht) (hf b) (h b) r ha
theorem xv_app {en : α → PyData} {j : Nat} {ma : MA} {t : Option β} {xs : β → List α} {x : β → α} {p : β → P} {e1 e2 : β → En} (h0 : ∃ ds, env[j]? = some (some (.ow ds))) (hm : XV ma env t (fun b => [p b]) e1) (hf : ∀ b, fzP (e1 b) (p b) = some (en (x b), e2 b)) (h : ∀ b, (e2 b)[j]? = some (some (.ow ((xs b).map en)))) {E0 : _ → En} (hE : ∀ q, (e2 q.1).set j (some (.ow (q.2.map en))) = E0 q) : XV (mApp j ma) env (t.bind fun b => (appG (xs b) (x b)).map fun r => (b, r)) (fun _ => .nx) E0 := by
  obtain rfl : (fun q => (e2 q.1).set j (some (.ow (q.2.map en)))) = E0 := funext hE
  exact xv_app_0 h0 hm hf h
theorem set_map {en : α → PyData} {xs : List α} {n : Nat} {x : α} : (xs.map en).set n (en x) = (xs.set n x).map en := by rw [List.map_set]
/-- xs[i][k] = x -/
def set2G (xs : List (List α)) (i k : Int) (x : α) : Option (List (List α)) := (ixN xs.length i).bind fun n => (xs[n]?).bind fun row => (ixN row.length k).map fun m => xs.set n (row.set m x)
theorem xo_set2_0 {en : α → PyData} {j : Nat} {mi mk me : ME} {xs : List (List α)} {x : α} {i k : Int} {p : P} {e1 e2 e3 e4 : En} (hm : me env = some (p, e1)) (hf : fzP e1 p = some (en x, e2)) (h : e2[j]? = some (some (.ow2 (xs.map fun r => r.map en)))) (hi : mi e2 = some (.val (.int i), e3)) (hk : mk e2 = some (.val (.int k), e4)) : XV (mSet2 j mi mk me) env (set2G xs i k x) (fun _ => .nx) (fun r => e2.set j (some (.ow2 (r.map fun r => r.map en)))) := fun r hr => by
  unfold set2G at hr
  cases ha : ixN xs.length i with
  | none => rw [ha] at hr; cases hr
  | some n =>
    rw [ha, Option.bind_some] at hr
    cases hb : xs[n]? with
    | none => rw [hb] at hr; cases hr
    | some row =>
      rw [hb, Option.bind_some] at hr
      cases hc : ixN row.length k with
      | none => rw [hc] at hr; cases hr
      | some m =>
        rw [hc] at hr
        cases hr
        unfold mSet2 bnd
        simp only [hm, hf, h, hi, hk, List.length_map, ha, List.getElem?_map, hb, Option.map_some, hc]
        rw [set_map, ← List.map_set (f := fun r : List α => r.map en)]
theorem xo_set2 {en : α → PyData} {j : Nat} {mi mk me : ME} {xs : List (List α)} {x : α} {i k : Int} {p : P} {e1 e2 e3 e4 : En} (hm : me env = some (p, e1)) (hf : fzP e1 p = some (en x, e2)) (h : e2[j]? = some (some (.ow2 (xs.map fun r => r.map en)))) (hi : mi e2 = some (.val (.int i), e3)) (hk : mk e2 = some (.val (.int k), e4)) {E0 : _ → En} (hE : ∀ r, e2.set j (some (.ow2 (r.map fun r => r.map en))) = E0 r) : XV (mSet2 j mi mk me) env (set2G xs i k x) (fun _ => .nx) E0 := by
  obtain rfl : (fun r => e2.set j (some (.ow2 (r.map fun r => r.map en)))) = E0 := funext hE
  exact xo_set2_0 hm hf h hi hk
/-- a cut of the script -/
theorem xo_slS {K : PySem.W.Frag} {i : Nat} {ml mh : MP} {ns : List Int} {lo hi : Option Int} (h : env[i]? = some (some (.sc K ns))) (hl : ml env = some (lo, env)) (hh : mh env = some (hi, env)) : mSlS K i ml mh env = some ((cutG ns lo hi).map encI, env) := by
  unfold mSlS bnd
  simp only [h, hl, hh, if_true]
  rw [show (ns.map PyData.int) = ns.map encI from rfl, cut_map]
/-- rows that a name alone holds -/
theorem lc_2 {mg : PyData → En → Option En} {mo : MO} {vs : List Nat} {en : γ → PyData} {en' : β → PyData} {elt : γ → Option (List β)} {E1 : γ → En} {xs : List γ} {e0 : En} (hw0 : wipeE e0 vs = env) (hg : ∀ a, mg (en a) env = some (E1 a)) (he : ∀ a, XV mo (E1 a) (elt a) (fun y => .ow (y.map en')) (fun _ => E1 a)) (hw : ∀ a, wipeE (E1 a) vs = env) :
    XV (fun e => (mLc2Go mg mYes mo vs (xs.map en) [] (wipeE e vs)).map fun r => (O.ow2 r.1, r.2)) e0 (cmpO (fun _ => some true) elt xs) (fun r => O.ow2 (r.map fun y => y.map en')) (fun _ => env) := fun r hr => by
  have go : ∀ (xs : List γ) (acc : List (List PyData)) (r : List (List β)), acc.length + xs.length ≤ sizeLine → cmpOGo (fun _ => some true) elt xs = some r → mLc2Go mg mYes mo vs (xs.map en) acc env = some (acc ++ r.map fun y => y.map en', env) := by
    intro xs
    induction xs with
    | nil => intro acc r _ h; cases h; simp [mLc2Go]
    | cons a as ih =>
      intro acc r hz h
      rw [List.length_cons] at hz
      unfold cmpOGo at h
      simp only [Option.bind_some, if_true] at h
      cases hy : elt a with
      | none => rw [hy] at h; cases h
      | some y =>
        rw [hy, Option.bind_some] at h
        cases hys : cmpOGo (fun _ => some true) elt as with
        | none => rw [hys] at h; cases h
        | some ys =>
          rw [hys] at h
          cases h
          have h3 := he a y hy
          show mLc2Go mg mYes mo vs (en a :: as.map en) acc env = _
          unfold mLc2Go mYes
          simp only [hg, h3, hw]
          have ih' := ih (acc ++ [y.map en']) ys (by rw [List.length_append, List.length_singleton]; omega) hys
          unfold mYes at ih'
          rw [if_pos (by omega), ih', List.append_assoc]
          rfl
  unfold cmpO at hr
  split at hr
  · rename_i hz
    show (mLc2Go _ _ _ _ _ _ (wipeE e0 vs)).map _ = _
    rw [hw0, go xs [] r (by simpa using hz) hr]
    rfl
  · cases hr
theorem os_ret2 {en : α → PyData} {i : Nat} {xs : List (List α)} {e2 : En} (h : env[i]? = some (some (.ow2 (xs.map fun r => r.map en)))) (he : env.set i (some (.fz (encL (encL en) xs))) = e2) : mRet (mVar i) env = some (Ctl.rt (.fz (encL (encL en) xs)), e2) := by
  have e : (xs.map fun r => r.map en).map PyData.list = xs.map (encL en) := by rw [List.map_map]; rfl
  subst he
  unfold mRet mVar bnd fzP
  simp only [h, e]
  rfl
end
end Tr
namespace Tr
open PySem PySem.Spec PyProof.Rows L2
/-! ### more typed words -/
section
variable {α β γ δ : Type} {env : En}
theorem zip_M {ea : α → PyData} {eb : β → PyData} {ma : MA} {p q : P} {xs : List α} {ys : List β} {e0 e1 e2 : En} (ha : ma env = some ([p, q], e0)) (hp : fzP e0 p = some (.list (xs.map ea), e1)) (hq : fzP e1 q = some (.list (ys.map eb), e2)) : mZip ma env = some ((List.zip xs ys).map (encT ea eb), e2) := by
  unfold mZip bnd
  simp only [ha, hp, hq, zip_map]
/-! a comprehension over two -/
/-! a range that has a name -/
def rgN (lo hi : Int) : Option (List Int) := if -(2 ^ 62) ≤ lo ∧ lo < 2 ^ 62 ∧ -(2 ^ 62) ≤ hi ∧ hi < 2 ^ 62 then some (rangeL lo (hi - lo).toNat) else none
theorem xo_rgv {i : Nat} {lo hi : Int} (h : env[i]? = some (some (.rg lo hi))) : XV (mRgv i) env (rgN lo hi) (fun r => r.map encI) (fun _ => env) := fun r hr => by
  unfold rgN at hr
  split at hr
  · rename_i hb
    cases hr
    unfold mRgv
    simp only [h]
    rw [if_pos hb, range_map]
  · cases hr
end
/-! what may not be there -/
/-! in, over pairs and the like -/
/-! places that are looked up -/
section
variable {α : Type} {env : En}
end
/-! names of ranges, lists unpacked, tuple(..) -/
section
variable {env : En}
theorem os_rg {i : Nat} {ma : MA} {j : Int} {e1 E0 : En} (h : ma env = some ([.val (.int j)], e1)) (hE : e1.set i (some (.rg 0 j)) = E0) : mAsgO i (mRg1 ma) env = some (.nx, E0) := by
  unfold mAsgO mRg1 bnd
  simp only [h]
  rw [← hE]
end
end Tr
namespace Tr
open PySem PySem.Spec PyProof.Rows L2
/-! ### a property, read -/
section
variable {X : Cx} {k : Nat} {g C p : Addr} {fd : FuncData} {ps : List Str} {sp : Sp} {m : Str} {apos : Pos} {o : Expr} {te : TE} {ds : List Value} {dvs : List V}
end
/-! ### trees -/
inductive Tre where
  | nil
  | node (l : Tre) (x : Int) (r : Tre)
  deriving DecidableEq
end Tr
namespace Tr
open PySem PySem.Spec PyProof.Rows L2
/-! ### in a list, or in a tuple of texts of the top -/
/-! ### xs.pop(i) -/
section
variable {α β : Type} {env : En}
end
/-! ### a loop over lists that the loop alone holds -/
section
variable {α β γ σ ρ : Type} {env e : En} {n : MS} {post : β → Ctl → En → Prop}
end
section
variable {α β : Type} {env : En}
end
end Tr
namespace Tr
open PySem PySem.Spec PyProof.Rows L2
/-! ### zip, each pair in one name -/
section
variable {prog : Program} {w : World} {A : Around} {E : Value → Shared → Prop} {s : Shared}
end

/-! ### t[::-1] of a pair -/
section
variable {prog : Program} {w : World} {A : Around} {E : Value → Shared → Prop} {s : Shared}
end
/-! ### is, is not of bools -/
end Tr
namespace Tr
open PySem PySem.Spec PyProof.Rows L2
/-! ### a dict that a name alone holds: keys are ints or texts -/
end Tr
namespace Tr
open PySem PySem.Spec PyProof.Rows L2
end Tr
namespace Tr
open PySem PySem.Spec PyProof.Rows L2
section
variable {α β : Type} {env : En}
theorem oe_sum {p : P} {xs : List Int} (h : sq env p = some (xs.map encI)) : (gSum env [p]).map (fun r => (r, env)) = some (.val (.int xs.sum), env) := by
  have e : allI (xs.map encI) = some xs := allI_map xs
  unfold gSum
  simp only [h, Option.bind_some, e, Option.map_some]
end
end Tr
namespace Tr
open PySem PySem.Spec PyProof.Rows L2 TS
/-! ### sorted(d), d a dict whose keys are tuples of ints -/
section
variable {prog : Program} {w : World} {A : Around} {E : Value → Shared → Prop} {s : Shared}
end
end Tr
namespace Tr
open PySem PySem.Spec PyProof.Rows L2 TS
end Tr
namespace Tr
open PySem PySem.Spec PyProof.Rows L2 TS
/-! ### [list(t) for t in sorted(d)], d a dict whose keys are tuples of ints -/
end Tr
namespace Tr
open PySem PySem.Spec PyProof.Rows L2 TS
section
variable {α : Type} {env : En}
end
end Tr
namespace Tr
open PySem PySem.Spec PyProof.Rows L2
/-! ### sum(lists, []) -/
theorem args_sum2' (a c : Value) : argsOk "sum" ⟨[a, c], []⟩ := by unfold argsOk; kernel_rfl
theorem ls_str : isSubtype (.type "list") (.type "str") = pure false := by rw [isSubtype_type]; kernel_rfl
theorem ls_bytes : isSubtype (.type "list") (.type "bytes") = pure false := by rw [isSubtype_type]; kernel_rfl
theorem ls_barr : isSubtype (.type "list") (.type "bytearray") = pure false := by rw [isSubtype_type]; kernel_rfl
section
variable {prog : Program} {w : World} {A : Around} {E : Value → Shared → Prop} {R : Result → Shared → Prop}
abbrev SumEnd (S : Addr) (wr : List Addr) (a : Addr) (acc tot : List Value) (last : Bool) (s : Shared) (R : Result → Shared → Prop) : Prop :=
  ∀ (s' : Shared) (D : Addr) (n : Nat), (∀ b o, b ∉ S :: wr → s.heap.get? b = some o → s'.heap.get? b = some o) → s'.gens = s.gens → s'.os = s.os → s'.drawn = s.drawn → s'.heap.get? D = some { cls := .type "list", data := .seq tot.toArray n } →
    (last = true → D = a) → (last = false → S < D) → R (.ok (.ret (.ref D))) s'
theorem sum_lists_loop {I : Addr} {fp wr : List Addr} {bs : List Addr} {cs : List (List Value)} {Pv : Nat → Value → Prop} {St : Nat → Heap → Prop} (W : Walks prog w A.in1 I fp wr bs.length Pv St) (hP : ∀ i v, Pv i v → ∃ b, bs[i]? = some b ∧ v = .ref b) (S : Addr) (hSf : S ∉ fp) (hlen : cs.length = bs.length)
    (hbs : ∀ b ∈ bs, b ∉ S :: wr) (hal : ∀ i h, St i h → ∀ x ∈ wr, x < h.objs.size) :
    ∀ (k i : Nat) (s : Shared) (a : Addr) (acc : List Value) (n0 c : Nat) (st : Int), bs.length - i = k → i ≤ bs.length → St i s.heap → s.heap.get? S = some { cls := .type "list", dict := none, data := .seq #[.ref a] c, slots := #[] } →
      a ∉ S :: wr → s.heap.get? a = some { cls := .type "list", data := .seq acc.toArray n0 } → (∀ (j : Nat) (b : Addr) (us : List Value), bs[j]? = some b → cs[j]? = some us → ∃ n, s.heap.get? b = some { cls := .type "list", data := .seq us.toArray n }) →
      (acc ++ (cs.drop i).flatten).length ≤ sizeLine → SumEnd S wr a acc (acc ++ (cs.drop i).flatten) (decide (i = bs.length)) s R →
      codeAny (model prog w) A (.builtin "sum.loop" ⟨[.ref I, .ref S, rawInt st, rawInt 0], []⟩) R s := by
  have hSw : S ∉ wr := fun h => hSf (W.sub _ h)
  intro k
  induction k with
  | zero =>
    intro i s a acc n0 c st hk hi hst hS ha hA hB hz hR
    have hin : i = bs.length := by omega
    subst hin
    have e0 : acc ++ (cs.drop bs.length).flatten = acc := by rw [List.drop_of_length_le (by omega), List.flatten_nil, List.append_nil]
    rw [e0] at hR
    refine codeAny_builtin F.entry_sum_loop ?_; rw [Around.under_plainId F.plain_sum_loop _]
    show wpAny _ A.in1 (seqItems? (.ref S) >>= _) _ _ s
    refine wpAny_bind (wpAny_seqItems hS rfl ?_)
    show wpAny _ A.in1 (tryCatch (pyNext (.ref I)) _ >>= _) _ _ s
    refine wpAny_bind (wpAny_tryCatch (W.done s _ _ hst fun h' tk kk => ?_))
    exact wpAny_pure (hR { s with heap := h', toks := tk } a n0 (fun b o hb e => kk b o (fun z => hb (List.mem_cons_of_mem _ z)) e) rfl rfl rfl (kk a _ (fun z => ha (List.mem_cons_of_mem _ z)) hA) (fun _ => rfl) fun z => by simp at z)
  | succ k ih =>
    intro i s a acc n0 c st hk hi hst hS ha hA hB hz hR
    have hlt : i < bs.length := by omega
    have hcs : i < cs.length := by omega
    have hd : cs.drop i = cs[i] :: cs.drop (i + 1) := List.drop_eq_getElem_cons hcs
    refine codeAny_builtin F.entry_sum_loop ?_; rw [Around.under_plainId F.plain_sum_loop _]
    show wpAny _ A.in1 (seqItems? (.ref S) >>= _) _ _ s
    refine wpAny_bind (wpAny_seqItems hS rfl ?_)
    show wpAny _ A.in1 (tryCatch (pyNext (.ref I)) _ >>= _) _ _ s
    refine wpAny_bind (wpAny_tryCatch (W.item i s _ _ hlt hst fun v h' tk hp hst' kk => ?_))
    obtain ⟨b, hb, rfl⟩ := hP i v hp
    have hbm : b ∈ bs := List.mem_of_getElem? hb
    obtain ⟨n1, hbo⟩ := hB i b _ hb (List.getElem?_eq_getElem hcs)
    have kk' : ∀ x o, x ∉ S :: wr → s.heap.get? x = some o → h'.get? x = some o := fun x o hx e => kk x o (fun z => hx (List.mem_cons_of_mem _ z)) e
    have hA' := kk' a _ ha hA
    have hb' := kk' b _ (hbs b hbm) hbo
    have hS' : h'.get? S = some { cls := .type "list", dict := none, data := .seq #[.ref a] c, slots := #[] } := kk S _ hSw hS
    · show wpAny _ A.in1 ((holding [Value.ref b] (binaryOp .Add (.ref a) (.ref b))).attempt >>= _) _ _ { s with heap := h', toks := tk }
      refine wpAny_bind (wpAny_attempt (wpAny_holding ?_))
      refine P.add_list (s := { s with heap := h', toks := tk }) hA' hb' ?_ (by
        rw [hd, List.flatten_cons, List.length_append, List.length_append] at hz
        rw [List.size_toArray, List.size_toArray]
        omega)
      have hSz : S < h'.objs.size := Heap.lt_size hS'
      have hS1 : (h'.push { cls := .type "list", data := .seq (acc.toArray ++ cs[i].toArray) }).get? S = some { cls := .type "list", dict := none, data := .seq #[.ref a] c, slots := #[] } := Heap.get?_push_of_some _ hS'
      show wpAny _ A.in1 (updateSeq S (fun _ => #[.ref h'.objs.size]) >>= _) _ _ { s with heap := h'.push { cls := .type "list", data := .seq (acc.toArray ++ cs[i].toArray) }, toks := tk }
      refine wpAny_bind (wpAny_updateSeq hS1 rfl ?_)
      have hS2 := Heap.get?_update_self (Obj.mapSeq fun _ => #[Value.ref h'.objs.size]) hS1 rfl
      refine wpAny_bind (wpAny_letGo ?_)
      show wpAny _ A.in1 (updateSeq S (fun _ => #[.ref h'.objs.size]) >>= _) _ _ _
      refine wpAny_bind (wpAny_updateSeq hS2 rfl ?_)
      have hS3 := Heap.get?_update_self (Obj.mapSeq fun _ => #[Value.ref h'.objs.size]) hS2 rfl
      have oth : ∀ x o, x ≠ S → h'.get? x = some o → (((h'.push { cls := .type "list", data := .seq (acc.toArray ++ cs[i].toArray) }).update S (Obj.mapSeq fun _ => #[Value.ref h'.objs.size])).update S (Obj.mapSeq fun _ => #[Value.ref h'.objs.size])).get? x = some o := fun x o hx e =>
        (Heap.get?_update_other _ _ (Ne.symm hx)).trans ((Heap.get?_update_other _ _ (Ne.symm hx)).trans (Heap.get?_push_of_some _ e))
      have nD : h'.objs.size ∉ S :: wr := fun z => by
        rcases List.mem_cons.mp z with z | z
        · exact Nat.ne_of_gt hSz z
        · exact Nat.lt_irrefl _ (hal _ _ hst' _ z)
      refine wpAny_pure ⟨plainId_quiet F.plain_sum_loop _, ih (i + 1) _ h'.objs.size (acc ++ cs[i]) 0 _ _ (by omega) hlt (W.frame _ _ _ hst' fun x hx o e => oth x o (fun z => hSf (by rw [← z]; exact hx)) e) hS3 nD ?_ (fun j x us h1 h2 => ?_) ?_ ?_⟩
      · rw [Heap.get?_update_other _ _ (Nat.ne_of_lt hSz), Heap.get?_update_other _ _ (Nat.ne_of_lt hSz), Heap.get?_push_size _ rfl]
        simp
      · obtain ⟨n, e⟩ := hB j x us h1 h2
        have hx : x ∉ S :: wr := hbs x (List.mem_of_getElem? h1)
        exact ⟨n, oth x _ (fun z => hx (by rw [z]; exact List.mem_cons_self ..)) (kk' x _ hx e)⟩
      · rw [hd, List.flatten_cons, ← List.append_assoc] at hz
        exact hz
      · intro s' D n k2 g2 o2 d2 hD l1 l2
        rw [hd, List.flatten_cons, ← List.append_assoc] at hR
        refine hR s' D n (fun x o hx e => k2 x o hx (oth x o (fun z => hx (by rw [z]; exact List.mem_cons_self ..)) (kk' x o hx e))) g2 o2 d2 hD (fun z => ?_) fun _ => ?_
        · have := of_decide_eq_true z
          omega
        · by_cases c2 : i + 1 = bs.length
          · rw [l1 (decide_eq_true c2)]
            exact hSz
          · exact l2 (decide_eq_false c2)
theorem nn2 {a n : Nat} (h : a < n) : a ≠ n + 1 ∧ a ≠ n := ⟨by omega, by omega⟩
theorem nn3 {a n : Nat} (h : a < n) : n + 1 ≠ n ∧ n + 1 ≠ a := ⟨by omega, by omega⟩
theorem call_sum_lists {s : Shared} {l p0 : Addr} {bs : List Addr} {cs : List (List Value)} {n0 : Nat} {Q : Value → Shared → Prop} (hh : A.handled = none) (hl : s.heap.IsList l (bs.map Value.ref).toArray) (hp : s.heap.get? p0 = some { cls := .type "list", data := .seq ([] : List Value).toArray n0 }) (hlen : cs.length = bs.length)
    (hB : ∀ (j : Nat) (b : Addr) (us : List Value), bs[j]? = some b → cs[j]? = some us → ∃ n, s.heap.get? b = some { cls := .type "list", data := .seq us.toArray n }) (hz : cs.flatten.length ≤ sizeLine)
    (h : ∀ (h' : Heap) (tk : Nat) (D : Addr) (n : Nat), (∀ b o, s.heap.get? b = some o → h'.get? b = some o) → h'.get? D = some { cls := .type "list", data := .seq cs.flatten.toArray n } → (bs = [] → D = p0) → (bs ≠ [] → s.heap.objs.size ≤ D) → Q (.ref D) { s with heap := h', toks := tk }) :
    wpAny (model prog w) A (call (.builtin "sum") [.ref l, .ref p0]) Q E s := by
  refine call_function_tree F.kind_sum F.plain_sum F.entry_sum (args_sum2' _ _) ?_
  unfold Builtin.«sum»
  simp only [List.length_cons, List.length_nil]
  rw [if_neg (by decide)]
  refine wpAny_bind (wpAny_of_eq (show Builtin.Builtins.bindParams "sum" ["start"] 0 ⟨[.ref p0], []⟩ = pure [some (.ref p0)] from rfl) ?_)
  refine wpAny_bind (wpAny_pyIter_list hl ?_)
  obtain ⟨ol, hol, _⟩ := id hl
  have hlS : l < s.heap.objs.size := Heap.lt_size hol
  have hz1 : (s.heap.push { cls := .type "list_iterator", data := .fields #[.ref l, .int 0 0] }).objs.size = s.heap.objs.size + 1 := Heap.size_push ..
  have hp1 : (s.heap.push { cls := .type "list_iterator", data := .fields #[.ref l, .int 0 0] }).get? p0 = some { cls := .type "list", data := .seq ([] : List Value).toArray n0 } := Heap.get?_push_of_some _ hp
  have hT : Shared.TypeIs { s with heap := s.heap.push { cls := .type "list_iterator", data := .fields #[.ref l, .int 0 0] } } (.ref p0) "list" := ⟨_, hp1, rfl⟩
  refine wpAny_bind (wpAny_pure ?_)
  simp only [List.forIn_cons, List.forIn_nil]
  refine wpAny_bind (wpAny_bind (wpAny_bind (wpAny_isInstance (T := "list") (b := false) hT ls_str ?_)))
  simp only [Bool.false_eq_true, if_false]
  refine wpAny_pure (wpAny_bind (wpAny_bind (wpAny_isInstance (T := "list") (b := false) hT ls_bytes ?_)))
  simp only [Bool.false_eq_true, if_false]
  refine wpAny_pure (wpAny_bind (wpAny_bind (wpAny_isInstance (T := "list") (b := false) hT ls_barr ?_)))
  simp only [Bool.false_eq_true, if_false]
  refine wpAny_pure (wpAny_pure ?_)
  refine wpAny_bind (wpAny_newObj_type ?_)
  have neI : l ≠ s.heap.objs.size := Nat.ne_of_lt hlS
  have ltp : p0 < s.heap.objs.size := Heap.lt_size hp
  have hbs : ∀ b ∈ bs, b < s.heap.objs.size := fun b hb => by
    obtain ⟨j, hj⟩ := List.mem_iff_getElem?.mp hb
    have hj2 : j < cs.length := by rw [hlen]; exact (List.getElem?_eq_some_iff.mp hj).1
    obtain ⟨n, e⟩ := hB j b _ hj (List.getElem?_eq_getElem hj2)
    exact Heap.lt_size e
  have key : codeAny (model prog w) A (.builtin "sum.loop" ⟨[.ref s.heap.objs.size, .ref (s.heap.push { cls := .type "list_iterator", data := .fields #[.ref l, .int 0 0] }).objs.size, rawInt 2, rawInt 0], []⟩) (fun r s' => match r with | .ok (.ret v) => Q v s' | .ok _ => False | .error e => E e s')
      { s with heap := (s.heap.push { cls := .type "list_iterator", data := .fields #[.ref l, .int 0 0] }).push { cls := .type "list", data := .seq #[.ref p0] } } := by
    have W := Walks.list (prog := prog) (w := w) (A := A.in1) hh s.heap.objs.size l neI (bs.map Value.ref).toArray
    have e1 : (bs.map Value.ref).toArray.size = bs.length := by simp
    rw [e1] at W
    refine sum_lists_loop W (fun i v hv => ?_) _ ?_ hlen (fun b hb => ?_) (fun i hx st x hxm => ?_) (bs.length - 0) 0 _ p0 [] n0 0 2 rfl (Nat.zero_le _) ⟨⟨_, Heap.get?_push_of_some _ (Heap.get?_push_size _ rfl), rfl, rfl⟩, (hl.push _).push _⟩ (Heap.get?_push_size _ rfl) ?_ (Heap.get?_push_of_some _ hp1) (fun j b us h1 h2 => ?_) ?_ ?_
    · have hv' : (bs.map Value.ref)[i]? = some v := by simpa using hv
      rw [List.getElem?_map] at hv'
      cases hb : bs[i]? with
      | none => rw [hb] at hv'; cases hv'
      | some b => rw [hb] at hv'; cases hv'; exact ⟨b, rfl, rfl⟩
    · rw [hz1]
      simp only [List.mem_cons, List.mem_singleton, List.not_mem_nil, or_false, not_or]
      exact nn3 hlS
    · have := hbs b hb
      rw [hz1]
      simp only [List.mem_cons, List.mem_singleton, List.not_mem_nil, or_false, not_or]
      exact nn2 this
    · obtain ⟨⟨o, e, _⟩, _⟩ := st
      rw [List.mem_singleton.mp hxm]
      exact Heap.lt_size e
    · rw [hz1]
      simp only [List.mem_cons, List.mem_singleton, List.not_mem_nil, or_false, not_or]
      exact nn2 ltp
    · obtain ⟨n, e⟩ := hB j b us h1 h2
      exact ⟨n, Heap.get?_push_of_some _ (Heap.get?_push_of_some _ e)⟩
    · simpa using hz
    · intro s' D n kk g o d hD l1 l2
      obtain ⟨h', g', d', tk', os'⟩ := s'
      cases g; cases o; cases d
      refine h h' tk' D n (fun b o e => kk b o ?_ (Heap.get?_push_of_some _ (Heap.get?_push_of_some _ e))) (by simpa using hD) (fun z => l1 ?_) fun z => ?_
      · have := Heap.lt_size e
        rw [hz1]
        simp only [List.mem_cons, List.mem_singleton, List.not_mem_nil, or_false, not_or]
        exact nn2 this
      · rw [z]; rfl
      · have := l2 (decide_eq_false fun y => z (List.length_eq_zero_iff.mp y.symm))
        rw [hz1] at this
        exact Nat.le_of_lt (Nat.lt_of_succ_lt this)
  exact wpAny_pure ⟨plainId_quiet F.plain_sum_loop _, key⟩
end
def rSumL (K : PySem.W.Frag) : List V → Hp → VK → Prop := fun vs H Q => ∃ (l p0 : Addr) (rs : List Addr) (xss : List (List V)), vs = [.ref l, .ref p0] ∧ SqL K H l (rs.map V.ref) ∧ H p0 = some (.lst []) ∧ All2 (fun xs r => H r = some (.lst xs)) xss rs ∧ xss.flatten.length ≤ sizeLine ∧
  (rs = [] → Q (.ref p0) H) ∧ (rs ≠ [] → ∀ D, H D = none → Q (.ref D) (upd H D (.lst xss.flatten)))
theorem lists_of {P : Program} {w : World} {H : Hp} {h : Heap} (ok : HOk P w H h) : ∀ {xss : List (List V)} {rs : List Addr}, All2 (fun xs r => H r = some (.lst xs)) xss rs → ∃ cs : List (List Value), cs.length = rs.length ∧ Vals xss.flatten cs.flatten ∧
    ∀ (j : Nat) (b : Addr) (us : List Value), rs[j]? = some b → cs[j]? = some us → ∃ n, h.get? b = some { cls := .type "list", data := .seq us.toArray n }
  | _, _, .nil => ⟨[], rfl, .nil, fun j b us e => by simp at e⟩
  | _, _, .cons (a := xs) (b := r) x t => by
    obtain ⟨cs, l, v, g⟩ := lists_of ok t
    obtain ⟨_, its, n, rv, e⟩ := (show ObjOk P w H h r (.lst xs) from ok _ _ x)
    refine ⟨its :: cs, by simp [l], rv.append v, fun j b us h1 h2 => ?_⟩
    cases j with
    | zero => cases h1; cases h2; exact ⟨n, e⟩
    | succ j => exact g j b us (by simpa using h1) (by simpa using h2)
theorem refs_of : ∀ {rs : List Addr} {us : List Value}, Vals (rs.map V.ref) us → us = rs.map Value.ref
  | [], us, r => by
    rw [List.map_nil] at r
    cases r
    rfl
  | t :: ts, us, r => by
    rw [List.map_cons] at r
    cases r with
    | cons h q => cases h; rw [List.map_cons, ← refs_of q]
theorem cr_sumL {X : Cx} (hc : X.calm = true) : CallR X (.builtin "sum") (rSumL X.K) := by
  intro pins s σ H vs us Q I r h
  obtain ⟨l, p0, rs, xss, rfl, hs, hp, ha, hz, q1, q2⟩ := h
  obtain ⟨u1, u2, rfl, r1, r2⟩ := vals2 r
  obtain rfl : u1 = Value.ref l := r1
  obtain rfl : u2 = Value.ref p0 := r2
  obtain ⟨its, rv, hl, _⟩ := I.list hs
  rw [refs_of rv] at hl
  obtain ⟨_, its0, n0, rv0, e0⟩ := (show ObjOk X.prog X.w H s.heap p0 (.lst []) from I.hok _ _ hp)
  cases rv0
  obtain ⟨cs, c1, c2, c3⟩ := lists_of I.hok ha
  refine call_sum_lists (I.ok.hd hc) hl.isList e0 c1 c3 (by rw [← Vals.length c2]; exact hz) fun h' tk D n kk hD l1 l2 => ?_
  by_cases e : rs = []
  · have := l1 e
    subst this
    exact ⟨.ref D, H, I.kept kk, rfl, q1 e⟩
  · have hle := l2 e
    exact ⟨.ref D, upd H D (.lst xss.flatten), I.laid (t' := tk) kk hle ⟨hz, cs.flatten, n, c2, hD⟩, rfl, q2 e D (I.hok.fresh hle)⟩
end Tr
namespace Tr
open PySem PySem.Spec PyProof.Rows L2
/-! ### set(xs), xs a list of ints -/
section
variable {P : Program} {w : World} {A : Around} {E : Value → Shared → Prop} {s : Shared}
end
end Tr
namespace Tr
open PySem PySem.Spec PyProof.Rows L2
theorem sumLK {X : Cx} {K : PySem.W.Frag} (hc : X.calm = true) (h : X.K = K := by rfl) : CallR X (.builtin "sum") (rSumL K) := by subst h; exact cr_sumL hc
/-! ### sum(lists, []) -/
theorem all2_appD {α β : Type} {R : α → β → Prop} : ∀ {as as' : List α} {bs bs' : List β}, All2 R as bs → All2 R as' bs' → All2 R (as ++ as') (bs ++ bs')
  | _, _, _, _, .nil, h => h
  | _, _, _, _, .cons x t, h => .cons x (all2_appD t h)
def rowsL : List PyData → Option (List (List PyData))
  | [] => some []
  | .list ds :: r => (rowsL r).map fun rr => ds :: rr
  | _ :: _ => none
theorem rowsL_ok {F : Hp} : ∀ {ds : List PyData} {vs : List V} {rows : List (List PyData)}, All2 (Rp F) ds vs → rowsL ds = some rows → ∃ (rs : List Addr) (xss : List (List V)), vs = rs.map V.ref ∧ All2 (fun xs r => F r = some (.lst xs)) xss rs ∧ All2 (Rp F) rows.flatten xss.flatten
  | _, _, rows, .nil, e => by cases e; exact ⟨[], [], rfl, .nil, .nil⟩
  | _, _, rows, .cons (a := d) (as := ds) h t, e => by
    unfold rowsL at e
    split at e
    · rename_i ds0 _ heq; cases heq
    · rename_i d0 r0 heq
      cases heq
      cases h2 : rowsL ds with
      | none => rw [h2] at e; cases e
      | some rr =>
        rw [h2] at e
        cases e
        obtain ⟨rs, xss, e1, a1, a2⟩ := rowsL_ok t h2
        obtain ⟨a, vs', rfl, hF, r⟩ := rp_list.mp h
        refine ⟨a :: rs, vs' :: xss, by rw [e1]; rfl, .cons hF a1, ?_⟩
        rw [List.flatten_cons, List.flatten_cons]
        exact all2_appD r a2
    · cases e
def mSumL (me : ME) : ML := bnd me fun p e => match (sq e p).bind rowsL with
  | some rows => if rows.flatten.length ≤ sizeLine then some (rows.flatten, e) else none
  | none => none
theorem rl_sumL {K : PySem.W.Frag} {pu : Bool} {te : TE} {me : ME} (h : RE pu te me) : RL false (tCB (rSumL K) (tCons te (tCons (tLst tNil) tNil))) (mSumL me) := by
  intro F H σ env Sl R ds env' e Q q
  obtain ⟨p, e1, h1, h2⟩ := bnd_of e
  split at h2
  · rename_i rows h3
    split at h2
    · rename_i hz
      obtain ⟨rfl, rfl⟩ := Prod.mk.inj (Option.some.inj h2)
      refine h F H σ env Sl R _ _ h1 _ fun x F1 H1 Sl1 s1 pu1 R1 r1 => ?_
      cases h4 : sq e1 p with
      | none => rw [h4] at h3; cases h3
      | some ds0 =>
        rw [h4, Option.bind_some] at h3
        obtain ⟨a, vs, rfl, hH, rr⟩ := sq_of R1 r1 h4
        have rr1 : All2 (Rp H1) ds0 vs := rr.mono fun d v z => Rp.mono R1.ex z
        obtain ⟨a', vs', e5, hF, rr2⟩ : ∃ a' vs', V.ref a = .ref a' ∧ H1 a' = some (.lst vs') ∧ All2 (Rp F1) ds0 vs' := ⟨a, vs, rfl, hH, rr⟩
        cases e5
        obtain ⟨rs, xss, e6, a1, a2⟩ := rowsL_ok rr2 h3
        subst e6
        show tNil σ H1 fun xs H2 => _
        refine ⟨Nat.zero_le _, fun p0 np => ?_⟩
        have ne : ∀ b u, H1 b = some u → upd H1 p0 (.lst []) b = some u := fun b u z => by rw [upd_ne (ne_of_none z np)]; exact z
        refine ⟨a, p0, rs, xss, rfl, SqL.of (ne _ _ hF), upd_same, a1.mono fun xs r z => ne _ _ (R1.ex _ _ z), by rw [← a2.len]; exact hz, fun z => ?_, fun z D nD => ?_⟩
        · subst z
          cases a1
          cases hd : rows.flatten with
          | nil => rw [hd] at q; exact q p0 [] F1 H1 Sl1 s1 (fun w => nomatch w) R1 .nil np
          | cons d r => rw [hd] at a2; cases a2
        · exact q D _ F1 _ Sl1 (s1.side (s1.tkb np)) (fun w => nomatch w) (R1.side (R1.ex.none np) fun k w => fresh_notin R1 np k w) a2 nD
    · cases h2
  · cases h2
/-! ### sorted(set(xs)) -/
def dd : List Int → List Int
  | [] => []
  | x :: xs => if x ∈ xs then dd xs else x :: dd xs
section
variable {α : Type} {env : En}
def sumG (xss : List (List α)) : Option (List α) := if xss.flatten.length ≤ sizeLine then some xss.flatten else none
theorem rowsL_map {en : α → PyData} : ∀ xss : List (List α), rowsL (xss.map (encL en)) = some (xss.map fun r => r.map en)
  | [] => rfl
  | r :: xss => by
    show (rowsL (xss.map (encL en))).map (fun rr => r.map en :: rr) = _
    rw [rowsL_map xss]
    rfl
theorem flat_map {en : α → PyData} : ∀ xss : List (List α), (xss.map fun r => r.map en).flatten = xss.flatten.map en
  | [] => rfl
  | r :: xss => by rw [List.map_cons, List.flatten_cons, List.flatten_cons, List.map_append, flat_map xss]
end
end Tr
namespace Tr
open PySem PySem.Spec PyProof.Rows L2
/-! ### texts -/
/-! ### f'..' -/
inductive RJs : Bool → List TE → List ME → Prop where
  | nil : RJs true [] []
  | cons {pu pv : Bool} {t : TE} {m : ME} {ts : List TE} {ms : List ME} (h : RE pu t m) (r : RJs pv ts ms) : RJs (pu && pv) (t :: ts) (m :: ms)
end Tr
namespace Tr
open PySem PySem.Spec PyProof.Rows L2
/-! ### enumerate(list, k) -/
/-! ### for a, (b, c) in .. -/
end Tr
namespace Tr
open PySem PySem.Spec PyProof.Rows L2
section
variable {X : Cx} {K : PySem.W.Frag}
end
end Tr
namespace Tr
open PySem PySem.Spec PyProof.Rows L2
/-- may its text be told -/
def tellOk (d : PyData) : Prop := isTup d = false ∧ reprOk d = true ∧ deepD d ≤ 60 ∧ (reprD d).length ≤ sizeLine ∧ SeqAt.shaped (.str (reprD d)) = true
instance (d : PyData) : Decidable (tellOk d) := by unfold tellOk; infer_instance
end Tr
namespace Tr
open PySem PySem.Spec PyProof.Rows L2
/-! ### texts, typed -/
section
variable {env : En}
end
/-! ### enumerate(xs, k) -/
/-! ### the rest of a def by hand -/
end Tr
namespace Tr
open PySem PySem.Spec PyProof.Rows L2
/-! ### a number told of a held thing, which stays held: the reading sees that thing alone, as data -/
/-! ### xs.append(e), where xs is never read again -/
end Tr
namespace Tr
open PySem PySem.Spec PyProof.Rows L2
/-! ### the signs of a text -/
/-! ### s.index(t), int(s), len(s) -/
/-! ### s[lo:hi] -/
end Tr
namespace Tr
open PySem PySem.Spec PyProof.Rows L2
end Tr
namespace Tr
open PySem PySem.Spec PyProof.Rows L2
/-! ### more of texts, typed -/
section
variable {env : En}
end
end Tr
namespace Tr
open PySem PySem.Spec PyProof.Rows L2
section
variable {X : Cx} {x1 x2 n : Str} {c1 c2 : Value} {i kk : Nat} {body suite : List Stmt} {b₀ : Stmt} {np1 np2 tp pos pos' : Pos} {tb : WX → TS} {ts : Addr → Value → Option Addr → TS}
end
end Tr
namespace Tr
open PySem PySem.Spec PyProof.Rows L2
/-- may the text of [t, d] be told -/
def tellL (t : Str) (d : PyData) : Prop := reprOk (.list [.str t, d]) = true ∧ deepD (.list [.str t, d]) ≤ 60 ∧ (reprD (.list [.str t, d])).length ≤ sizeLine
instance (t : Str) (d : PyData) : Decidable (tellL t d) := by unfold tellL; infer_instance
end Tr
namespace Tr
open PySem PySem.Spec PyProof.Rows L2
/-! ### str(a bool) -/
/-! ### two classes of the program that are not one another's -/
section
variable {K : PySem.W.Frag} {C1 C2 : Addr}
end
section
variable {env : En}
end
end Tr
/-! own exceptions over LookupError, with an __init__ that keeps one field -/
namespace Tr.Lk
open PySem PySem.Spec PyProof.Rows PySem.HandSPX PySem.Builtin PySem.Builtin.ObjectAttr
abbrev leT : List Value := [.type "LookupError", .type "Exception", .type "BaseException", .type "object"]
section
variable {prog : Program} {w : World} {A : Around} {R : Result → Shared → Prop} {hp : Heap} {g : Array GenState} {dr : Drawn} {tt : Nat} {os : OsState}
end
end Tr.Lk
namespace Tr
open PySem PySem.Spec PyProof.Rows L2
open Tr.Lk (leT)
/-- what the written part says of such a class -/
structure OexL (K : PySem.W.Frag) (C : Addr) : Prop where
  cls : ∃ nm q N bs sn sub ab col dd k0 k1 k2 k3 k5, K.lookup C = some (excClassObj nm q C N bs leT true sn sub ab col dd k0 k1 k2 k3 k5 "LookupError.__new__")
  sa : PySem.W.findIn K (.ref C) "__setattr__" = some (some (.builtin "object.__setattr__"))
  exC : PySem.W.subIn K (.ref C) (.type "BaseException") = some true
  tyC : PySem.W.typeIn K (.ref C) = some (.type "type")
  kC : PySem.W.keepIn K (.ref C) = true
section
variable {X : Cx} {pins : List (Addr × Obj)} {σ : L2.St} {H : Hp} {s : Shared} {e C : Addr} {f : Str} {y : V} {u : Value} {E : Value → Shared → Prop} {A : Around}
end
section
variable {X : Cx} {o e : Expr} {es : List Expr} {to te : TE} {ta : TA} {f : Str} {p p' p1 p2 pos : Pos}
end
end Tr
namespace Tr
open PySem PySem.Spec PyProof.Rows L2
/-! ### data that a name alone holds -/
/-! ### what is told of a held thing, which stays held: all fixed names may be read -/
/-! ### x = t[1]; x.append(e), where neither is read again -/
end Tr
namespace Tr
open PySem PySem.Spec PyProof.Rows L2
end Tr
namespace Tr
open PySem PySem.Spec PyProof.Rows L2
/-! ### repr of any data, a tuple itself too -/
end Tr
namespace Tr
open PySem PySem.Spec PyProof.Rows L2
/-- may its text be told, a tuple's too -/
def tellA (d : PyData) : Prop := reprOk d = true ∧ deepD d ≤ 60 ∧ (reprD d).length ≤ sizeLine ∧ SeqAt.shaped (.str (reprD d)) = true
instance (d : PyData) : Decidable (tellA d) := by unfold tellA; infer_instance
end Tr
namespace Tr
open PySem PySem.Spec PyProof.Rows L2
/-! ### a op1 b op2 c op3 d -/
section
variable {X : Cx} {a b c d : Expr} {ta tb tc td : TE} {pos : Pos}
end
end Tr
namespace Tr
open PySem PySem.Spec PyProof.Rows L2
/-! ### any of truth values; a list of one's own handed over as (text, list) -/
/-! ### not of a list, a number ..: as a value -/
end Tr
namespace Tr
open PySem PySem.Spec PyProof.Rows L2
/-! ### bit words -/
abbrev gShl : En → P → P → Option P := gI (fun i j => decide (0 ≤ j ∧ j ≤ 1000000 ∧ i.natAbs < 2 ^ 64)) fun i j => .int (i * 2 ^ j.toNat)
theorem b_shl : BinK (rI CPow fun i j => .int (i * 2 ^ j.toNat)) gShl := bin_I (fun i j h => show 0 ≤ j ∧ j ≤ 1000000 ∧ i.natAbs < 2 ^ 64 from of_decide_eq_true h) fun _ _ _ => rfl
abbrev gAnd : En → P → P → Option P := gI0 fun i j => .int (Builtin.bitAnd i j)
theorem b_bitand : BinK (rI0 fun i j => .int (Builtin.bitAnd i j)) gAnd := bin_I0 fun _ _ _ => rfl
def shlI (i j : Int) : Option Int := if 0 ≤ j ∧ j ≤ 1000000 ∧ i.natAbs < 2 ^ 64 then some (i * 2 ^ j.toNat) else none
theorem xo_shl {env : En} {i j : Int} : XV (fun e => (gShl e (.val (.int i)) (.val (.int j))).map fun r => (r, e)) env (shlI i j) (fun r => .val (.int r)) (fun _ => env) := fun b hb => by
  unfold shlI at hb
  split at hb
  · rename_i h
    cases hb
    simp only [gShl, gI, decide_eq_true h, if_true]
    rfl
  · cases hb
/-! ### xs.count(k), whole numbers -/
def gCntI : En → P → P → Option P := fun env p q => match sq env p, q with
  | some ds, .val (.int k) => (allI ds).map fun ns => .val (.int (ns.count k : Nat))
  | _, _ => none
def mCnt (me : ME) (ma : ME) : ME := bnd me fun p e => match sq e p with
  | some _ => bnd ma (fun q e2 => (gCntI e2 p q).map fun r => (r, e2)) e
  | none => none
theorem re_cnt {K : PySem.W.Frag} {pu pv : Bool} {te ta : TE} {me ma : ME} (h : RE pu te me) (h' : RE pv ta ma) : RE (pu && pv) (tBM K "list" (rCntI K) te (tCons ta tNil)) (mCnt me ma) := by
  intro F H σ env Sl R p env' e Q q
  obtain ⟨p1, e1, h1, h2⟩ := bnd_of e
  split at h2
  case h_2 => cases h2
  rename_i ds0 h0
  obtain ⟨p2, e2, h3, h4⟩ := bnd_of h2
  cases h5 : gCntI e2 p1 p2 with
  | none => rw [h5] at h4; cases h4
  | some r =>
    rw [h5] at h4
    cases h4
    unfold gCntI at h5
    split at h5
    case h_2 => cases h5
    rename_i ds k h6
    cases h7 : allI ds with
    | none => rw [h7] at h5; cases h5
    | some ns =>
      rw [h7] at h5
      cases h5
      refine h F H σ env Sl R p1 _ h1 _ fun x F1 H1 Sl1 s1 pu1 R1 r1 => ?_
      obtain ⟨a, vs0, rfl, hH0, _⟩ := sq_of R1 r1 h0
      refine ⟨Or.inl ⟨rfl, vs0, SqL.of hH0⟩, ?_⟩
      refine h' F1 H1 σ e1 Sl1 R1 _ _ h3 _ fun y F2 H2 Sl2 s2 pu2 R2 r2 => ?_
      obtain ⟨a', vs, ea, hH, rr⟩ := sq_of R2 (r1.mono s2.exF) h6
      cases ea
      have r2' : Rp F2 (.int k) y := r2
      have ey : y = .int k := rp_int r2'
      have ev := allI_ok rr h7
      exact ⟨a, ns, k, rfl, by rw [ey], SqL.of (by rw [← ev]; exact hH), q _ F2 H2 Sl2 (s1.trans s2) (pu_step (F := F) (F1 := F1) (F2 := F2) pu1 pu2) R2 rfl⟩
theorem lcountK {X : Cx} {K : PySem.W.Frag} (h : X.K = K := by rfl) : MtR X "list.count" (rCntI K) := by subst h; exact mt_lcount
theorem xo_cnt {env : En} {p : P} {xs : List Int} {k : Int} (hs : sq env p = some (xs.map encI)) : XV (fun e => (gCntI e p (.val (.int k))).map fun r => (r, e)) env (some ((xs.count k : Nat) : Int)) (fun j => .val (.int j)) (fun _ => env) := fun j hj => by
  cases hj
  show (gCntI env p (.val (.int k))).map _ = _
  have e : allI (xs.map encI) = some xs := allI_map xs
  unfold gCntI
  simp only [hs, e]
  rfl
theorem xv_cnt {β : Type} {env : En} {me ma : ME} {p : P} {ds : List PyData} {t : Option β} {av : β → P} {st : β → En} (hm : me env = some (p, env)) (hs : sq env p = some ds) (h : XV (bnd ma fun q e2 => (gCntI e2 p q).map fun r => (r, e2)) env t av st) : XV (mCnt me ma) env t av st := fun b hb => by
  have e : mCnt me ma env = bnd ma (fun q e2 => (gCntI e2 p q).map fun r => (r, e2)) env := by
    rw [show mCnt me ma env = bnd me (fun p e => match sq e p with | some _ => bnd ma (fun q e2 => (gCntI e2 p q).map fun r => (r, e2)) e | none => none) env from rfl, bnd_eq hm]
    simp only [hs]
  rw [e]
  exact h b hb
/-! ### list(r), r a name that holds a range -/
def tRgV (i : Nat) : L2.St → Hp → (Int → Int → Hp → Prop) → Prop := fun σ H Q => ∃ a lo hi, σ[i]? = some (some (.ref a)) ∧ H a = some (.rng lo hi) ∧ Q lo hi H
theorem prg_v {X : Cx} (i : Nat) {x : Str} {pos : Pos} (hN : X.N[i]? = some x := by rfl) (hv : Vis X.env.scope x := by first | exact Or.inl rfl | exact Or.inr (Or.inl rfl) | exact Or.inr (Or.inr rfl)) (hd : (x == ("__debug__" : Str)) = false := by decide)
    (hcd : (x == ("__classdict__" : Str)) = false := by decide) : PRg X (.Name x pos) (tRgV i) := by
  intro pins s σ H Q I h
  obtain ⟨a, lo, hi, hs, hH, q⟩ := h
  refine thn ((pe_var hN hv hd hcd).run pins s σ H (fun v H' => v = .ref a ∧ H' = H) I ⟨_, hs, rfl, rfl⟩) fun v s1 ⟨x1, H1, I1, r1, e1, e2⟩ => ?_
  subst e2
  subst e1
  cases r1
  obtain ⟨t, u, w, ho⟩ := I1.hok a _ hH
  exact ⟨a, lo, hi, t, u, w, H1, rfl, ho, I1, q⟩
def mLRgv (i : Nat) : ML := fun env => match env[i]? with
  | some (some (.rg lo hi)) => if okRg lo hi then some (rgD lo (hi - lo).toNat, env) else none
  | _ => none
theorem rl_rgv {i : Nat} : RL false (tLstRg (tRgV i)) (mLRgv i) := by
  intro F H σ env Sl R ds env' e Q q
  unfold mLRgv at e
  split at e
  · rename_i lo hi h0
    split at e
    · rename_i ok
      cases e
      obtain ⟨v, hv, a, rfl, ha⟩ := R.at_ i _ h0
      exact ⟨a, lo, hi, hv, R.ex _ _ ha, okRg_of ok, fun b nb => q b _ F H Sl Step.refl (fun z => nomatch z) R (rgV_all (F := F) (a := lo) (b := hi)) nb⟩
    · cases e
  · cases e
theorem xo_sumK {α : Type} {env : En} {en : α → PyData} {xss : List (List α)} {p : P} (hs : sq env p = some (xss.map (encL en))) : XV (fun e => (match (sq e p).bind rowsL with | some rows => if rows.flatten.length ≤ sizeLine then some (rows.flatten, e) else none | none => none : Option (List PyData × En))) env (sumG xss) (fun r => r.map en) (fun _ => env) := fun r hr => by
  unfold sumG at hr
  split at hr
  · rename_i hz
    cases hr
    simp only [hs, Option.bind_some, rowsL_map]
    rw [flat_map, if_pos (by rw [List.length_map]; exact hz)]
  · cases hr
theorem xo_lrgv {env : En} {i : Nat} {lo hi : Int} (h : env[i]? = some (some (.rg lo hi))) : XV (mLRgv i) env (rngV lo hi) (fun r => r.map encI) (fun _ => env) := fun r hr => by
  unfold rngV at hr
  split at hr
  · rename_i hb
    cases hr
    unfold mLRgv
    simp only [h]
    have ok : okRg lo hi = true := decide_eq_true ⟨hb.1.1, hb.1.2.1, hb.1.2.2.1, hb.1.2.2.2, hb.2⟩
    rw [if_pos ok, range_map]
  · cases hr
end Tr
namespace Tr
open PySem PySem.Spec PyProof.Rows L2
/-- what k_head leaves, from the law's def as a plain function that also speaks of the top's own classes (z) -/
theorem walkH {Z : Type} {l : PySem.W.OpenLaw} {n k : Nat} {q : Program} {loose : List Str} {XP : (Str → Option Value) → Heap → Prop} {YP : World → Heap → Prop} {d : DefRec} {K : Params → PySem.W.Frag} {x : Str} {mf : PySem.W.Frag → Z → MF}
    (hn : l.most = some n) (hn2 : n ≤ sizeLine) (hdf : d.params.defaults = []) (room : Room k callerA) (hY : ∀ (w : World) (h : Heap), YP w h → (K w.params).In h)
    (F : ∀ (w : World) (mg : Str → Option Value) (fa : Addr) (h : Heap), (K w.params).In h → h.Ns mainGlobals mg → mg d.name = some (.ref fa) →
      ∃ (z : Z) (fd : FuncData), (∀ (s : Shared) (u : Value), BindsTo s fd ⟨[u], []⟩ [(x, u)]) ∧ ∀ base : Heap, (K w.params).In base → base.Ns mainGlobals mg → FnG l.prog w (K w.params) mg base k fa fd [x] (spOf [] (mf (K w.params) z)))
    (true_ : ∀ (K : PySem.W.Frag) (z : Z) (ns : List Int), ns.length ≤ n → ∃ os, mf K z [.sc K ns] = some (.fz (.bool true), os)) : PySem.W.WalkO q loose XP YP l.row.toRowW d [] (fun f vs => PySem.call f vs) := by
  refine Att.attach_call hn hdf ?_
  intro w s₀ s1 mg mb fa o pm cd doc a vs ns G Y ho hd hcd hmg hobj hints hlen hg
  have KX := hY w _ Y
  obtain ⟨z, fd, bi, hF⟩ := F w mg fa _ KX G.T.g hmg
  refine law_go KX G.T.g G.T.b G.T.builtins G.T.nolimit hg hobj hints (Nat.le_trans hlen hn2) room hF bi ?_
  intro H only hS
  obtain ⟨os, e⟩ := true_ (K w.params) z ns hlen
  refine ⟨H, [.sc (K w.params) ns], fun _ _ => False, _, os, ⟨Ex.refl H, rfl, fun i u z => ?_, fun _ _ _ z => z.elim, fun _ _ z => z.elim⟩, fun _ _ z => z.elim, fun j u z _ => ?_, e, ?_⟩
  · cases i with
    | zero => cases z; exact ⟨_, rfl, a, rfl, hS⟩
    | succ i => simp at z
  · cases j with
    | zero => cases z; rfl
    | succ j => simp at z
  · intro v F' H' Sl' T s R' hs' new
    exact new.own
end Tr
namespace Tr
open PySem PySem.Spec PyProof.Rows L2
/-! ### the typed words, as what they mean -/
theorem lt_line {n : Nat} (h : n ≤ 1000000) : n < sizeLine := by show n < 16777216; omega
theorem le_line {n : Nat} (h : n ≤ 1000000) : n ≤ sizeLine := Nat.le_of_lt (lt_line h)
theorem ixN_nat {n k : Nat} (h : k < n) : ixN n (k : Int) = some k := by
  unfold ixN
  rw [if_pos (by omega), if_pos (by omega), Int.toNat_natCast]
theorem atI_nat {α : Type} {xs : List α} {k : Nat} (h : k < xs.length) : atI xs (k : Int) = some xs[k] := by
  unfold atI
  rw [ixN_nat h, Option.bind_some, List.getElem?_eq_getElem h]
theorem atI_get {α : Type} {xs : List α} {k : Nat} {x : α} (h : xs[k]? = some x) : atI xs (k : Int) = some x := by
  obtain ⟨h1, h2⟩ := List.getElem?_eq_some_iff.mp h
  rw [atI_nat h1, h2]
theorem atI_int {α : Type} {xs : List α} {i : Int} (h0 : 0 ≤ i) (h : i < (xs.length : Int)) : atI xs i = some (xs[i.toNat]'(by omega)) := by
  have e : i = ((i.toNat : Nat) : Int) := by omega
  have hk : i.toNat < xs.length := by omega
  have := atI_nat (xs := xs) hk
  rw [← e] at this
  exact this
theorem appG_of {α : Type} {xs : List α} {x : α} (h : xs.length < sizeLine) : appG xs x = some (xs ++ [x]) := if_pos h
theorem catG_of {α : Type} {xs ys : List α} (h : xs.length + ys.length ≤ sizeLine) : catG xs ys = some (xs ++ ys) := if_pos h
theorem sIx_n {n d k : Nat} : HT.sIx n d (some (k : Int)) = min k n := by
  show (if (k : Int) < 0 then ((k : Int) + (n : Int)).toNat else min (k : Int).toNat n) = min k n
  rw [if_neg (by omega), Int.toNat_natCast]
theorem cut_to {α : Type} {xs : List α} {k : Nat} : cutG xs none (some (k : Int)) = xs.take k := by
  unfold cutG
  rw [sIx_n]
  show (xs.drop 0).take (min k xs.length - 0) = _
  rw [List.drop_zero, Nat.sub_zero]
  by_cases h : k ≤ xs.length
  · rw [Nat.min_eq_left h]
  · rw [Nat.min_eq_right (by omega), List.take_of_length_le (Nat.le_refl _), List.take_of_length_le (by omega)]
theorem cut_from {α : Type} {xs : List α} {k : Nat} : cutG xs (some (k : Int)) none = xs.drop k := by
  unfold cutG
  rw [sIx_n]
  show (xs.drop (min k xs.length)).take (xs.length - min k xs.length) = _
  by_cases h : k ≤ xs.length
  · rw [Nat.min_eq_left h, List.take_of_length_le (by rw [List.length_drop]; exact Nat.le_refl _)]
  · rw [Nat.min_eq_right (by omega), List.drop_length, List.drop_of_length_le (by omega), List.take_nil]
theorem rng1_of {n : Nat} (h : n < 2 ^ 62) : rng1 (n : Int) = some (rangeL 0 n) := by
  unfold rng1
  rw [if_pos ⟨by omega, by omega⟩, Int.toNat_natCast]
theorem rngV_of {n : Nat} (h : n ≤ 2 ^ 24) : rngV 0 (n : Int) = some (rangeL 0 n) := by
  unfold rngV
  rw [if_pos ⟨⟨by omega, by omega, by omega, by omega⟩, by omega⟩, Int.sub_zero, Int.toNat_natCast]
theorem rangeL_len {lo : Int} {n : Nat} : (rangeL lo n).length = n := by unfold rangeL; simp
theorem rangeL_mem {lo : Int} {n : Nat} {x : Int} : x ∈ rangeL lo n ↔ lo ≤ x ∧ x < lo + n := by
  unfold rangeL
  rw [List.mem_map]
  constructor
  · rintro ⟨k, hk, rfl⟩
    have := List.mem_range.mp hk
    omega
  · rintro ⟨h1, h2⟩
    exact ⟨(x - lo).toNat, List.mem_range.mpr (by omega), by omega⟩
/-! loops -/
theorem forN_cons {α σ : Type} {body : α → σ → Option σ} {a : α} {as : List α} {s s' : σ} (h : body a s = some s') : forN body (a :: as) s = forN body as s' := by
  show (body a s).bind _ = _
  rw [h, Option.bind_some]
/-- an invariant that counts the turns -/
theorem forN_inv {α σ : Type} {body : α → σ → Option σ} (I : Nat → σ → Prop) : ∀ (xs : List α) (k : Nat) (s : σ), I k s → (∀ (j : Nat) (x : α) (s : σ), x ∈ xs → xs[j]? = some x → I (k + j) s → ∃ s', body x s = some s' ∧ I (k + j + 1) s') → ∃ s', forN body xs s = some s' ∧ I (k + xs.length) s'
  | [], k, s, hs, _ => ⟨s, rfl, hs⟩
  | a :: as, k, s, hs, h => by
    obtain ⟨s1, h1, h2⟩ := h 0 a s (List.mem_cons_self ..) rfl hs
    obtain ⟨s', h3, h4⟩ := forN_inv I as (k + 1) s1 h2 fun j x s hx hj hi => by
      have e : k + 1 + j = k + (j + 1) := by omega
      rw [e] at hi ⊢
      exact h (j + 1) x s (List.mem_cons_of_mem _ hx) (by simpa using hj) hi
    refine ⟨s', (forN_cons h1).trans h3, ?_⟩
    have e : k + (a :: as).length = k + 1 + as.length := by simp; omega
    rw [e]
    exact h4
/-! a rule as a table; what a sort asks of it -/
abbrev Log : Type := List (Int × Int)
structure Sq (r : List (List Int)) (n : Nat) : Prop where
  len : r.length = n
  row : ∀ x ∈ r, x.length = n
def InR (n : Nat) (x : Int) : Prop := 0 ≤ x ∧ x < n
def ansN (r : List (List Int)) (x y : Int) : Int := (r.getD x.toNat []).getD y.toNat 0
def bef (r : List (List Int)) (x y : Int) : Bool := decide (ansN r x y = -1)
theorem ans_at {r : List (List Int)} {n : Nat} {x y : Int} (h : Sq r n) (hx : InR n x) (hy : InR n y) : (atI r x).bind (fun row => (atI row y).map fun z => (row, z)) = some (r.getD x.toNat [], ansN r x y) := by
  have l1 : x < (r.length : Int) := by rw [h.len]; exact hx.2
  have k1 : x.toNat < r.length := by have := hx.1; omega
  rw [atI_int hx.1 l1, Option.bind_some]
  have l2 : (r[x.toNat]).length = n := h.row _ (List.getElem_mem _)
  have l3 : y < ((r[x.toNat]).length : Int) := by rw [l2]; exact hy.2
  have k2 : y.toNat < (r[x.toNat]).length := by have := hy.1; omega
  rw [atI_int hy.1 l3, Option.map_some]
  unfold ansN
  rw [List.getD_eq_getElem?_getD, List.getElem?_eq_getElem k1, Option.getD_some, List.getD_eq_getElem?_getD, List.getElem?_eq_getElem k2, Option.getD_some]
end Tr
namespace My
open PySem PySem.Spec PyProof.Rows L2 Tr
/-! the text: which statement of the top each def is -/
def topS (i : Nat) : Stmt := PySem.Challenge.pw_knotsorts_k69_whole_even_or_odd.main.body.getD i (.Pass ⟨0, 0, 0, 0⟩)
abbrev s_is_whole : Stmt := topS 3
theorem sc_is_whole : FnScope ["thing"] ["thing"] (defScope s_is_whole) := ⟨rfl, rfl, rfl, by decide +kernel, rfl, by decide +kernel, by decide +kernel⟩
abbrev s_is_answer : Stmt := topS 4
theorem sc_is_answer : FnScope ["thing"] ["thing"] (defScope s_is_answer) := ⟨rfl, rfl, rfl, by decide +kernel, rfl, by decide +kernel, by decide +kernel⟩
abbrev s_check_rule : Stmt := topS 5
theorem sc_check_rule : FnScope ["rule", "size", "item", "row", "other", "answer"] ["rule"] (defScope s_check_rule) := ⟨rfl, rfl, rfl, by decide +kernel, rfl, by decide +kernel, by decide +kernel⟩
abbrev s_may_precede : Stmt := topS 6
theorem sc_may_precede : FnScope ["rule", "one", "other"] ["rule", "one", "other"] (defScope s_may_precede) := ⟨rfl, rfl, rfl, by decide +kernel, rfl, by decide +kernel, by decide +kernel⟩
abbrev s_bit_of : Stmt := topS 8
theorem sc_bit_of : FnScope ["item"] ["item"] (defScope s_bit_of) := ⟨rfl, rfl, rfl, by decide +kernel, rfl, by decide +kernel, by decide +kernel⟩
abbrev s_is_in : Stmt := topS 9
theorem sc_is_in : FnScope ["item", "part"] ["item", "part"] (defScope s_is_in) := ⟨rfl, rfl, rfl, by decide +kernel, rfl, by decide +kernel, by decide +kernel⟩
abbrev s_step_table : Stmt := topS 10
theorem sc_step_table : FnScope ["rule", "items", "table", "one", "other"] ["rule"] (defScope s_step_table) := ⟨rfl, rfl, rfl, by decide +kernel, rfl, by decide +kernel, by decide +kernel⟩
abbrev s_ways_on : Stmt := topS 12
theorem sc_ways_on : FnScope ["steps", "table", "part", "nexts", "item"] ["steps", "table", "part"] (defScope s_ways_on) := ⟨rfl, rfl, rfl, by decide +kernel, rfl, by decide +kernel, by decide +kernel⟩
abbrev s_ways_table : Stmt := topS 13
theorem sc_ways_table : FnScope ["steps", "size", "table", "part"] ["steps"] (defScope s_ways_table) := ⟨rfl, rfl, rfl, by decide +kernel, rfl, by decide +kernel, by decide +kernel⟩
abbrev s_count_paths : Stmt := topS 14
theorem sc_count_paths : FnScope ["rule", "table"] ["rule"] (defScope s_count_paths) := ⟨rfl, rfl, rfl, by decide +kernel, rfl, by decide +kernel, by decide +kernel⟩
abbrev s__law_draws : Stmt := topS 16
theorem sc__law_draws : FnScope ["cell"] ["cell"] (defScope s__law_draws) := ⟨rfl, rfl, rfl, by decide +kernel, rfl, by decide +kernel, by decide +kernel⟩
abbrev s__law_next : Stmt := topS 17
theorem sc__law_next : FnScope ["draws", "k", "number"] ["draws"] (defScope s__law_next) := ⟨rfl, rfl, rfl, by decide +kernel, rfl, by decide +kernel, by decide +kernel⟩
abbrev s__law_rule : Stmt := topS 18
theorem sc__law_rule : FnScope ["draws", "size", "kind", "told", "worths", "one", "other", "item", "answer", "near"] ["draws", "size"] (defScope s__law_rule) := ⟨rfl, rfl, rfl, by decide +kernel, rfl, by decide +kernel, by decide +kernel⟩
abbrev s__law_orders : Stmt := topS 19
theorem sc__law_orders : FnScope ["items", "told", "k", "row", "item"] ["items"] (defScope s__law_orders) := ⟨rfl, rfl, rfl, by decide +kernel, rfl, by decide +kernel, by decide +kernel⟩
abbrev s__law_path : Stmt := topS 20
theorem sc__law_path : FnScope ["rule", "row", "one", "other"] ["rule", "row"] (defScope s__law_path) := ⟨rfl, rfl, rfl, by decide +kernel, rfl, by decide +kernel, by decide +kernel⟩
abbrev s__law_strict : Stmt := topS 21
theorem sc__law_strict : FnScope ["rule", "row", "one", "other"] ["rule", "row"] (defScope s__law_strict) := ⟨rfl, rfl, rfl, by decide +kernel, rfl, by decide +kernel, by decide +kernel⟩
abbrev s__law_right : Stmt := topS 22
theorem sc__law_right : FnScope ["draws", "rule", "rows", "paths", "strict", "great", "ties", "answers", "row"] ["draws"] (defScope s__law_right) := ⟨rfl, rfl, rfl, by decide +kernel, rfl, by decide +kernel, by decide +kernel⟩
abbrev s_law : Stmt := topS 23
theorem sc_law : FnScope ["script", "cell", "draws", "turn"] ["script"] (defScope s_law) := ⟨rfl, rfl, rfl, by decide +kernel, rfl, by decide +kernel, by decide +kernel⟩
structure Tx (K : PySem.W.Frag) (mg : Str → Option Value) (ad : Nat → Addr) (fd : Nat → FuncData) (w : World) (ca ia : Nat → Addr) (ifd : Nat → FuncData) : Prop where
  F_is_whole : Fun K "is_whole" "is_whole" s_is_whole (ad 0) (fd 0)
  g_is_whole : mg "is_whole" = some (.ref (ad 0))
  b_is_whole : Binds K (fd 0) ["thing"] []
  F_is_answer : Fun K "is_answer" "is_answer" s_is_answer (ad 1) (fd 1)
  g_is_answer : mg "is_answer" = some (.ref (ad 1))
  b_is_answer : Binds K (fd 1) ["thing"] []
  F_check_rule : Fun K "check_rule" "check_rule" s_check_rule (ad 2) (fd 2)
  g_check_rule : mg "check_rule" = some (.ref (ad 2))
  b_check_rule : Binds K (fd 2) ["rule"] []
  F_may_precede : Fun K "may_precede" "may_precede" s_may_precede (ad 3) (fd 3)
  g_may_precede : mg "may_precede" = some (.ref (ad 3))
  b_may_precede : Binds K (fd 3) ["rule", "one", "other"] []
  F_bit_of : Fun K "bit_of" "bit_of" s_bit_of (ad 4) (fd 4)
  g_bit_of : mg "bit_of" = some (.ref (ad 4))
  b_bit_of : Binds K (fd 4) ["item"] []
  F_is_in : Fun K "is_in" "is_in" s_is_in (ad 5) (fd 5)
  g_is_in : mg "is_in" = some (.ref (ad 5))
  b_is_in : Binds K (fd 5) ["item", "part"] []
  F_step_table : Fun K "step_table" "step_table" s_step_table (ad 6) (fd 6)
  g_step_table : mg "step_table" = some (.ref (ad 6))
  b_step_table : Binds K (fd 6) ["rule"] []
  F_ways_on : Fun K "ways_on" "ways_on" s_ways_on (ad 7) (fd 7)
  g_ways_on : mg "ways_on" = some (.ref (ad 7))
  b_ways_on : Binds K (fd 7) ["steps", "table", "part"] []
  F_ways_table : Fun K "ways_table" "ways_table" s_ways_table (ad 8) (fd 8)
  g_ways_table : mg "ways_table" = some (.ref (ad 8))
  b_ways_table : Binds K (fd 8) ["steps"] []
  F_count_paths : Fun K "count_paths" "count_paths" s_count_paths (ad 9) (fd 9)
  g_count_paths : mg "count_paths" = some (.ref (ad 9))
  b_count_paths : Binds K (fd 9) ["rule"] []
  F__law_draws : Fun K "_law_draws" "_law_draws" s__law_draws (ad 10) (fd 10)
  g__law_draws : mg "_law_draws" = some (.ref (ad 10))
  b__law_draws : Binds K (fd 10) ["cell"] []
  F__law_next : Fun K "_law_next" "_law_next" s__law_next (ad 11) (fd 11)
  g__law_next : mg "_law_next" = some (.ref (ad 11))
  b__law_next : Binds K (fd 11) ["draws"] []
  F__law_rule : Fun K "_law_rule" "_law_rule" s__law_rule (ad 12) (fd 12)
  g__law_rule : mg "_law_rule" = some (.ref (ad 12))
  b__law_rule : Binds K (fd 12) ["draws", "size"] []
  F__law_orders : Fun K "_law_orders" "_law_orders" s__law_orders (ad 13) (fd 13)
  g__law_orders : mg "_law_orders" = some (.ref (ad 13))
  b__law_orders : Binds K (fd 13) ["items"] []
  F__law_path : Fun K "_law_path" "_law_path" s__law_path (ad 14) (fd 14)
  g__law_path : mg "_law_path" = some (.ref (ad 14))
  b__law_path : Binds K (fd 14) ["rule", "row"] []
  F__law_strict : Fun K "_law_strict" "_law_strict" s__law_strict (ad 15) (fd 15)
  g__law_strict : mg "_law_strict" = some (.ref (ad 15))
  b__law_strict : Binds K (fd 15) ["rule", "row"] []
  F__law_right : Fun K "_law_right" "_law_right" s__law_right (ad 16) (fd 16)
  g__law_right : mg "_law_right" = some (.ref (ad 16))
  b__law_right : Binds K (fd 16) ["draws"] []
  F_law : Fun K "law" "law" s_law (ad 17) (fd 17)
  g_law : mg "law" = some (.ref (ad 17))
  b_law : Binds K (fd 17) ["script"] []
  b_abs : mg "abs" = none
  b_all : mg "all" = none
  b_bool : mg "bool" = none
  b_enumerate : mg "enumerate" = none
  b_int : mg "int" = none
  b_isinstance : mg "isinstance" = none
  b_len : mg "len" = none
  b_list : mg "list" = none
  b_range : mg "range" = none
  b_sum : mg "sum" = none
  b_zip : mg "zip" = none
section
variable {P : Program} {w : World} {K : PySem.W.Frag} {mg : Str → Option Value} {base : Heap} {ad : Nat → Addr} {fd : Nat → FuncData} {ca ia : Nat → Addr} {ifd : Nat → FuncData}
def m_is_whole : MF := mDef 1 1 []
    (mRet (mAndV (mIsi "int" (mVar 0)) (mNotV (mIsi "bool" (mVar 0)))))
theorem ok_is_whole (T : Tx K mg ad fd w ca ia ifd) : FnG P w K mg base 1 (ad 0) (fd 0) ["thing"] (spOf [] m_is_whole) := by
  refine okG T.F_is_whole sc_is_whole (fun vs H Q E h => by_len h) (fun cdv A ou s H vs Q E hr gu h => ⟨_, (pss_one (ps_ret (pe_and (pe_callB (isiK (K := K)) (by rfl) T.b_isinstance (by decide +kernel) (pa_cons (pv 0) (pa_cons (pe_bltn (v := .ty "int") (by rfl) T.b_int (by decide +kernel) rfl) pa_nil))) (pe_one (pe_not (pe_callB (isiK (K := K)) (by rfl) T.b_isinstance (by decide +kernel) (pa_cons (pv 0) (pa_cons (pe_bltn (v := .ty "bool") (by rfl) T.b_bool (by decide +kernel) rfl) pa_nil)))))))), ?_⟩)
  exact def_ok (N := ["thing"]) (m := (mRet (mAndV (mIsi "int" (mVar 0)) (mNotV (mIsi "bool" (mVar 0)))))) ((rs_ret (re_andV (re_isi "int" re_var) (re_notV (re_isi "bool" re_var))))) h
def m_is_answer : MF := mDef 1 1 []
    (mRet (mAndV (mFz (mCall [] m_is_whole (mCons (mVar 0) mNil))) (mChain (gI0 fun i j => .bool (decide (i ≤ j))) (gI0 fun i j => .bool (decide (i ≤ j))) (mUn gNeg (mC (.int 1))) (mVar 0) (mC (.int 1)))))
theorem ok_is_answer (T : Tx K mg ad fd w ca ia ifd) : FnG P w K mg base 2 (ad 1) (fd 1) ["thing"] (spOf [] m_is_answer) := by
  refine okG T.F_is_answer sc_is_answer (fun vs H Q E h => by_len h) (fun cdv A ou s H vs Q E hr gu h => ⟨_, (pss_one (ps_ret (pe_and (pe_callG (ok_is_whole T) (hr.mono (by decide)) gu (by rfl) T.g_is_whole T.F_is_whole.kp T.b_is_whole .nil (pa_cons (pv 0) pa_nil)) (pe_one (pe_chain op_le op_le (pe_un un_neg pe_int) (pv 0) pe_int))))), ?_⟩)
  exact def_ok (N := ["thing"]) (m := (mRet (mAndV (mFz (mCall [] m_is_whole (mCons (mVar 0) mNil))) (mChain (gI0 fun i j => .bool (decide (i ≤ j))) (gI0 fun i j => .bool (decide (i ≤ j))) (mUn gNeg (mC (.int 1))) (mVar 0) (mC (.int 1)))))) ((rs_ret (re_andV (re_o (ro_call (ra_cons re_var ra_nil))) (re_chain b_le b_le (re_un re_int u_neg) re_var re_int)))) h
def m_check_rule : MF := mDef 6 1 []
    (mSeq (mIf (mOr (mNot (mT (mIsi "list" (mVar 0)))) (mNot (mT (mFn gAll (mCons (mLE (mLc (mItL (mVar 0)) (mgN 3) mYes (mIsi "list" (mVar 3)) [3])) mNil))))) mNever mNext)
    (mSeq (mAsg (mFn gLen (mCons (mVar 0) mNil)) (mgN 1))
    (mSeq (mFor (mEnum (mCons (mVar 0) mNil)) (mgT [2, 3]) (mIf (mOr (mT (mBin (gEq true) (mFn gLen (mCons (mVar 3) mNil)) (mVar 1))) (mNot (mT (mFn gAll (mCons (mLE (mLc (mItL (mVar 3)) (mgN 5) mYes (mFz (mCall [] m_is_answer (mCons (mVar 5) mNil))) [5])) mNil))))) mNever mNext))
    (mFor (mEnum (mCons (mVar 0) mNil)) (mgT [2, 3]) (mFor (mEnum (mCons (mVar 3) mNil)) (mgT [4, 5]) (mIf (mT (mBin (gEq true) (mVar 5) (mUn gNeg (mBin gIx (mBin gIx (mVar 0) (mVar 4)) (mVar 2))))) mNever mNext))))))
theorem ok_check_rule (T : Tx K mg ad fd w ca ia ifd) : FnG P w K mg base 3 (ad 2) (fd 2) ["rule"] (spOf [] m_check_rule) := by
  refine okG T.F_check_rule sc_check_rule (fun vs H Q E h => by_len h) (fun cdv A ou s H vs Q E hr gu h => ⟨_, (pss_cons (ps_if (PW.pt (pw_or (pt_not (pt_val (pe_callB (isiK (K := K)) (by rfl) T.b_isinstance (by decide +kernel) (pa_cons (pv 0) (pa_cons (pe_bltn (v := .ty "list") (by rfl) T.b_list (by decide +kernel) rfl) pa_nil))))) (pw_or1 (pt_not (pt_val (pe_callB (allK (K := K) rfl) (by rfl) T.b_all (by decide +kernel) (pa_cons (pe_lc (own := [("row", 3)]) (g := gName 3) (tt := tYes) rfl sc_check_rule.nd (pi_listK (K := K) (pv 0)) (blkOk_by (own := [("row", 3)]) (by kernel_rfl)) (fun _ _ _ _ _ => (pg_name (i := 3) sc_check_rule.nd rfl (Or.inl rfl))) (fun _ _ _ _ _ => pts_nil) (fun _ _ _ _ _ => (pe_callB (isiK (K := K)) (by rfl) T.b_isinstance (by decide +kernel) (pa_cons (pv 3) (pa_cons (pe_bltn (v := .ty "list") (by rfl) T.b_list (by decide +kernel) rfl) pa_nil))))) pa_nil))))))) (pss_one ps_never) pss_nil)
      (pss_cons (ps_set (i := 1) sc_check_rule.nd rfl (Or.inl rfl) (pe_callB (lenK (K := K)) (by rfl) T.b_len PySem.boot_len (pa_cons (pv 0) pa_nil)))
      (pss_cons (ps_for PassesOwn.never rfl (pi_enumK (K := K) (by rfl) T.b_enumerate (pa_cons (pv 0) pa_nil)) (pg_tupK (K := K) rfl (pgs_cons (pg_name (i := 2) sc_check_rule.nd rfl (Or.inl rfl)) (pgs_cons (pg_name (i := 3) sc_check_rule.nd rfl (Or.inl rfl)) pgs_nil))) (pss_one (ps_if (PW.pt (pw_or (pt_cmpR (neK (K := K) hr.units) (pe_callB (lenK (K := K)) (by rfl) T.b_len PySem.boot_len (pa_cons (pv 3) pa_nil)) (pv 1) (nomark _)) (pw_or1 (pt_not (pt_val (pe_callB (allK (K := K) rfl) (by rfl) T.b_all (by decide +kernel) (pa_cons (pe_lc (own := [("answer", 5)]) (g := gName 5) (tt := tYes) rfl sc_check_rule.nd (pi_listK (K := K) (pv 3)) (blkOk_by (own := [("answer", 5)]) (by kernel_rfl)) (fun _ _ _ _ _ => (pg_name (i := 5) sc_check_rule.nd rfl (Or.inl rfl))) (fun _ _ _ _ _ => pts_nil) (fun _ _ _ _ _ => (pe_callG (ok_is_answer T) (hr.mono (by decide)) gu (by rfl) T.g_is_answer T.F_is_answer.kp T.b_is_answer .nil (pa_cons (pv 5) pa_nil)))) pa_nil))))))) (pss_one ps_never) pss_nil)))
      (pss_one (ps_for PassesOwn.never rfl (pi_enumK (K := K) (by rfl) T.b_enumerate (pa_cons (pv 0) pa_nil)) (pg_tupK (K := K) rfl (pgs_cons (pg_name (i := 2) sc_check_rule.nd rfl (Or.inl rfl)) (pgs_cons (pg_name (i := 3) sc_check_rule.nd rfl (Or.inl rfl)) pgs_nil))) (pss_one (ps_for PassesOwn.never rfl (pi_enumK (K := K) (by rfl) T.b_enumerate (pa_cons (pv 3) pa_nil)) (pg_tupK (K := K) rfl (pgs_cons (pg_name (i := 4) sc_check_rule.nd rfl (Or.inl rfl)) (pgs_cons (pg_name (i := 5) sc_check_rule.nd rfl (Or.inl rfl)) pgs_nil))) (pss_one (ps_if (pt_cmpR (neK (K := K) hr.units) (pv 5) (pe_un un_neg (pe_ix (ixK (K := K)) (pe_ix (ixK (K := K)) (pv 0) (pv 4) (fun _ _ => rfl)) (pv 2) (fun _ _ => rfl))) (nomark _)) (pss_one ps_never) pss_nil))))))))), ?_⟩)
  exact def_ok (N := ["rule", "size", "item", "row", "other", "answer"]) (m := (mSeq (mIf (mOr (mNot (mT (mIsi "list" (mVar 0)))) (mNot (mT (mFn gAll (mCons (mLE (mLc (mItL (mVar 0)) (mgN 3) mYes (mIsi "list" (mVar 3)) [3])) mNil))))) mNever mNext)
    (mSeq (mAsg (mFn gLen (mCons (mVar 0) mNil)) (mgN 1))
    (mSeq (mFor (mEnum (mCons (mVar 0) mNil)) (mgT [2, 3]) (mIf (mOr (mT (mBin (gEq true) (mFn gLen (mCons (mVar 3) mNil)) (mVar 1))) (mNot (mT (mFn gAll (mCons (mLE (mLc (mItL (mVar 3)) (mgN 5) mYes (mFz (mCall [] m_is_answer (mCons (mVar 5) mNil))) [5])) mNil))))) mNever mNext))
    (mFor (mEnum (mCons (mVar 0) mNil)) (mgT [2, 3]) (mFor (mEnum (mCons (mVar 3) mNil)) (mgT [4, 5]) (mIf (mT (mBin (gEq true) (mVar 5) (mUn gNeg (mBin gIx (mBin gIx (mVar 0) (mVar 4)) (mVar 2))))) mNever mNext))))))) ((rs_seq (rs_if (rt_or (rt_not (rt_B (re_isi "list" re_var))) (rt_not (rt_B (re_fn (ra_cons (re_lc (ri_list re_var) rg_name rt_yes (re_isi "list" re_var)) ra_nil) f_all)))) rs_never rs_next)
      (rs_seq (rs_asg (re_fn (ra_cons re_var ra_nil) f_len) rg_name)
      (rs_seq (rs_for (ri_enum (ra_cons re_var ra_nil)) (rg_tup (rgs_cons (rgs_cons rgs_nil))) (rs_if (rt_or (rt_test (re_bin (re_fn (ra_cons re_var ra_nil) f_len) re_var b_ne)) (rt_not (rt_B (re_fn (ra_cons (re_lc (ri_list re_var) rg_name rt_yes (re_o (ro_call (ra_cons re_var ra_nil)))) ra_nil) f_all)))) rs_never rs_next))
      (rs_for (ri_enum (ra_cons re_var ra_nil)) (rg_tup (rgs_cons (rgs_cons rgs_nil))) (rs_for (ri_enum (ra_cons re_var ra_nil)) (rg_tup (rgs_cons (rgs_cons rgs_nil))) (rs_if (rt_test (re_bin re_var (re_un (re_bin (re_bin re_var re_var b_ix) re_var b_ix) u_neg) b_ne)) rs_never rs_next))))))) h
def m_may_precede : MF := mDef 3 3 []
    (mRet (mBin (gEq true) (mBin gIx (mBin gIx (mVar 0) (mVar 1)) (mVar 2)) (mC (.int 1))))
theorem ok_may_precede (T : Tx K mg ad fd w ca ia ifd) : FnG P w K mg base 1 (ad 3) (fd 3) ["rule", "one", "other"] (spOf [] m_may_precede) := by
  refine okG T.F_may_precede sc_may_precede (fun vs H Q E h => by_len h) (fun cdv A ou s H vs Q E hr gu h => ⟨_, (pss_one (ps_ret (pe_cmpR (neK (K := K) hr.units) (pe_ix (ixK (K := K)) (pe_ix (ixK (K := K)) (pv 0) (pv 1) (fun _ _ => rfl)) (pv 2) (fun _ _ => rfl)) pe_int (nomark _)))), ?_⟩)
  exact def_ok (N := ["rule", "one", "other"]) (m := (mRet (mBin (gEq true) (mBin gIx (mBin gIx (mVar 0) (mVar 1)) (mVar 2)) (mC (.int 1))))) ((rs_ret (re_bin (re_bin (re_bin re_var re_var b_ix) re_var b_ix) re_int b_ne))) h
def m_bit_of : MF := mDef 1 1 []
    (mRet (mBin gShl (mC (.int 1)) (mVar 0)))
theorem ok_bit_of (T : Tx K mg ad fd w ca ia ifd) : FnG P w K mg base 1 (ad 4) (fd 4) ["item"] (spOf [] m_bit_of) := by
  refine okG T.F_bit_of sc_bit_of (fun vs H Q E h => by_len h) (fun cdv A ou s H vs Q E hr gu h => ⟨_, (pss_one (ps_ret (pe_op op_shl pe_int (pv 0)))), ?_⟩)
  exact def_ok (N := ["item"]) (m := (mRet (mBin gShl (mC (.int 1)) (mVar 0)))) ((rs_ret (re_bin re_int re_var b_shl))) h
def m_is_in : MF := mDef 2 2 []
    (mRet (mBin (gEq true) (mBin gAnd (mVar 1) (mFz (mCall [] m_bit_of (mCons (mVar 0) mNil)))) (mC (.int 0))))
theorem ok_is_in (T : Tx K mg ad fd w ca ia ifd) : FnG P w K mg base 2 (ad 5) (fd 5) ["item", "part"] (spOf [] m_is_in) := by
  refine okG T.F_is_in sc_is_in (fun vs H Q E h => by_len h) (fun cdv A ou s H vs Q E hr gu h => ⟨_, (pss_one (ps_ret (pe_cmpR (neK (K := K) hr.units) (pe_op op_and (pv 1) (pe_callG (ok_bit_of T) (hr.mono (by decide)) gu (by rfl) T.g_bit_of T.F_bit_of.kp T.b_bit_of .nil (pa_cons (pv 0) pa_nil))) pe_int (nomark _)))), ?_⟩)
  exact def_ok (N := ["item", "part"]) (m := (mRet (mBin (gEq true) (mBin gAnd (mVar 1) (mFz (mCall [] m_bit_of (mCons (mVar 0) mNil)))) (mC (.int 0))))) ((rs_ret (re_bin (re_bin re_var (re_o (ro_call (ra_cons re_var ra_nil))) b_bitand) re_int b_ne))) h
def m_step_table : MF := mDef 5 1 []
    (mSeq (mAsgO 1 (mRg1 (mCons (mFn gLen (mCons (mVar 0) mNil)) mNil)))
    (mSeq (mAsg (mLE (mLc (mRgv 1) (mgN 3) mYes (mLE (mLc (mRgv 1) (mgN 4) (mAnd (mT (mBin (gEq true) (mVar 4) (mVar 3))) (mT (mFz (mCall [] m_may_precede (mCons (mVar 0) (mCons (mVar 3) (mCons (mVar 4) mNil))))))) (mVar 4) [4])) [3])) (mgN 2))
    (mRet (mLE (mBinL gCat (mVar 2) (mLE (mDs (mCons (mLE (mLRgv 1)) mNil))))))))
theorem ok_step_table (T : Tx K mg ad fd w ca ia ifd) : FnG P w K mg base 2 (ad 6) (fd 6) ["rule"] (spOf [] m_step_table) := by
  refine okG T.F_step_table sc_step_table (fun vs H Q E h => by_len h) (fun cdv A ou s H vs Q E hr gu h => ⟨_, (pss_cons (ps_set (i := 1) sc_step_table.nd rfl (Or.inr rfl) (pe_callTy rg1_call (by rfl) T.b_range (by decide +kernel) (pa_cons (pe_callB (lenK (K := K)) (by rfl) T.b_len PySem.boot_len (pa_cons (pv 0) pa_nil)) pa_nil)))
      (pss_cons (ps_setLc (i := 2) (own := [("one", 3)]) (g := gName 3) (tt := tYes) rfl sc_step_table.nd rfl rfl (sw_true rfl rfl rfl (by decide +kernel)) (pi_rgv 1) (blkOk_by (own := [("one", 3)]) (by kernel_rfl)) (fun _ _ _ _ _ => (pg_name (i := 3) sc_step_table.nd rfl (Or.inr rfl))) (fun _ _ _ _ _ => pts_nil) (fun _ _ _ _ _ => (pe_lc (own := [("other", 4)]) (g := gName 4) rfl sc_step_table.nd (pi_rgv 1) (blkOk_by (own := [("other", 4)]) (by kernel_rfl)) (fun _ _ _ _ _ => (pg_name (i := 4) sc_step_table.nd rfl (Or.inl rfl))) (fun _ _ _ _ _ => (pts_one (PW.pt (pw_and (pt_cmpR (neK (K := K) hr.units) (pv 4) (pv 3) (nomark _)) (pw_and1 (pt_val (pe_callG (ok_may_precede T) (hr.mono (by decide)) gu (by rfl) T.g_may_precede T.F_may_precede.kp T.b_may_precede .nil (pa_cons (pv 0) (pa_cons (pv 3) (pa_cons (pv 4) pa_nil)))))))))) (fun _ _ _ _ _ => (pv 4)))))
      (pss_one (ps_ret (pe_op op_cat (pv 2) (pe_lst (pa_cons (pe_listRg rfl (by rfl) T.b_list (prg_v 1)) pa_nil))))))), ?_⟩)
  exact def_ok (N := ["rule", "items", "table", "one", "other"]) (m := (mSeq (mAsgO 1 (mRg1 (mCons (mFn gLen (mCons (mVar 0) mNil)) mNil)))
    (mSeq (mAsg (mLE (mLc (mRgv 1) (mgN 3) mYes (mLE (mLc (mRgv 1) (mgN 4) (mAnd (mT (mBin (gEq true) (mVar 4) (mVar 3))) (mT (mFz (mCall [] m_may_precede (mCons (mVar 0) (mCons (mVar 3) (mCons (mVar 4) mNil))))))) (mVar 4) [4])) [3])) (mgN 2))
    (mRet (mLE (mBinL gCat (mVar 2) (mLE (mDs (mCons (mLE (mLRgv 1)) mNil))))))))) ((rs_seq (rs_asgO (ro_rg1 (ra_cons (re_fn (ra_cons re_var ra_nil) f_len) ra_nil)))
      (rs_seq (rs_asg (re_lc ri_rgv rg_name rt_yes (re_lc ri_rgv rg_name (rt_and (rt_test (re_bin re_var re_var b_ne)) (rt_B (re_o (ro_call (ra_cons re_var (ra_cons re_var (ra_cons re_var ra_nil))))))) re_var)) rg_name)
      (rs_ret (re_l (rl_bin re_var (re_l (rl_lst (ra_cons (re_l rl_rgv) ra_nil) (len_cons len_nil))) b_cat)))))) h
def m_ways_on : MF := mDef 5 3 [1]
    (mRet (mLE (mLc (mItL (mVar 0)) (mgN 3) mYes (mFn gSum (mCons (mLE (mLc (mItL (mVar 3)) (mgN 4) (mT (mFz (mCall [] m_is_in (mCons (mVar 4) (mCons (mVar 2) mNil))))) (mBin gIx (mBin gIx (mVar 1) (mBin (gI0 fun i j => .int (i - j)) (mVar 2) (mFz (mCall [] m_bit_of (mCons (mVar 4) mNil))))) (mVar 4)) [4])) mNil)) [3])))
theorem ok_ways_on (T : Tx K mg ad fd w ca ia ifd) : FnG P w K mg base 3 (ad 7) (fd 7) ["steps", "table", "part"] (spOf [1] m_ways_on) := by
  refine okG T.F_ways_on sc_ways_on (fun vs H Q E h => by_len h) (fun cdv A ou s H vs Q E hr gu h => ⟨_, (pss_one (ps_ret (pe_lc (own := [("nexts", 3)]) (g := gName 3) (tt := tYes) rfl sc_ways_on.nd (pi_listK (K := K) (pv 0)) (blkOk_by (own := [("nexts", 3)]) (by kernel_rfl)) (fun _ _ _ _ _ => (pg_name (i := 3) sc_ways_on.nd rfl (Or.inl rfl))) (fun _ _ _ _ _ => pts_nil) (fun _ _ _ _ _ => (pe_callB (sumK (K := K) rfl) (by rfl) T.b_sum (by decide +kernel) (pa_cons (pe_lc (own := [("item", 4)]) (g := gName 4) rfl sc_ways_on.nd (pi_listK (K := K) (pv 3)) (blkOk_by (own := [("item", 4)]) (by kernel_rfl)) (fun _ _ _ _ _ => (pg_name (i := 4) sc_ways_on.nd rfl (Or.inl rfl))) (fun _ _ _ _ _ => (pts_one (pt_val (pe_callG (ok_is_in T) (hr.mono (by decide)) gu (by rfl) T.g_is_in T.F_is_in.kp T.b_is_in .nil (pa_cons (pv 4) (pa_cons (pv 2) pa_nil)))))) (fun _ _ _ _ _ => (pe_ix (ixK (K := K)) (pe_ix (ixK (K := K)) (pv 1) (pe_op op_sub (pv 2) (pe_callG (ok_bit_of T) (hr.mono (by decide)) gu (by rfl) T.g_bit_of T.F_bit_of.kp T.b_bit_of .nil (pa_cons (pv 4) pa_nil))) (fun _ _ => rfl)) (pv 4) (fun _ _ => rfl)))) pa_nil)))))), ?_⟩)
  exact def_ok (N := ["steps", "table", "part", "nexts", "item"]) (m := (mRet (mLE (mLc (mItL (mVar 0)) (mgN 3) mYes (mFn gSum (mCons (mLE (mLc (mItL (mVar 3)) (mgN 4) (mT (mFz (mCall [] m_is_in (mCons (mVar 4) (mCons (mVar 2) mNil))))) (mBin gIx (mBin gIx (mVar 1) (mBin (gI0 fun i j => .int (i - j)) (mVar 2) (mFz (mCall [] m_bit_of (mCons (mVar 4) mNil))))) (mVar 4)) [4])) mNil)) [3])))) ((rs_ret (re_lc (ri_list re_var) rg_name rt_yes (re_fn (ra_cons (re_lc (ri_list re_var) rg_name (rt_B (re_o (ro_call (ra_cons re_var (ra_cons re_var ra_nil))))) (re_bin (re_bin re_var (re_bin re_var (re_o (ro_call (ra_cons re_var ra_nil))) b_sub) b_ix) re_var b_ix)) ra_nil) f_sum)))) h
def m_ways_table : MF := mDef 4 1 []
    (mSeq (mAsg (mBin (gI0 fun i j => .int (i - j)) (mFn gLen (mCons (mVar 0) mNil)) (mC (.int 1))) (mgN 1))
    (mSeq (mAsgO 2 (mLO (mDs (mCons (mLE (mBinL gRep (mLE (mDs (mCons (mC (.int 1)) mNil))) (mFn gLen (mCons (mVar 0) mNil)))) mNil))))
    (mSeq (mFor (mRng2 (mCons (mC (.int 1)) (mCons (mFz (mCall [] m_bit_of (mCons (mVar 1) mNil))) mNil))) (mgN 3) (mApp 2 (mCons (mFz (mCall [1] m_ways_on (mCons (mVar 0) (mCons (mVar 2) (mCons (mVar 3) mNil))))) mNil)))
    (mRet (mVar 2)))))
theorem ok_ways_table (T : Tx K mg ad fd w ca ia ifd) : FnG P w K mg base 4 (ad 8) (fd 8) ["steps"] (spOf [] m_ways_table) := by
  refine okG T.F_ways_table sc_ways_table (fun vs H Q E h => by_len h) (fun cdv A ou s H vs Q E hr gu h => ⟨_, (pss_cons (ps_set (i := 1) sc_ways_table.nd rfl (Or.inl rfl) (pe_op op_sub (pe_callB (lenK (K := K)) (by rfl) T.b_len PySem.boot_len (pa_cons (pv 0) pa_nil)) pe_int))
      (pss_cons (ps_set (i := 2) sc_ways_table.nd rfl (Or.inl rfl) (pe_lst (pa_cons (pe_op op_rep (pe_lst (pa_cons pe_int pa_nil)) (pe_callB (lenK (K := K)) (by rfl) T.b_len PySem.boot_len (pa_cons (pv 0) pa_nil))) pa_nil)))
      (pss_cons (ps_for PassesOwn.never rfl (pi_range2 (by rfl) T.b_range (pa_cons pe_int (pa_cons (pe_callG (ok_bit_of T) (hr.mono (by decide)) gu (by rfl) T.g_bit_of T.F_bit_of.kp T.b_bit_of .nil (pa_cons (pv 1) pa_nil)) pa_nil))) (pg_name (i := 3) sc_ways_table.nd rfl (Or.inl rfl)) (pss_one (ps_expr (bmK (K := K) (pe_bm PySem.F.plainAttrs_list PySem.F.slot_list_append PySem.F.type_list_append mt_append (pv 2) (pa_cons (pe_callG (ok_ways_on T) (hr.mono (by decide)) gu (by rfl) T.g_ways_on T.F_ways_on.kp T.b_ways_on .nil (pa_cons (pv 0) (pa_cons (pv 2) (pa_cons (pv 3) pa_nil)))) pa_nil))))))
      (pss_one (ps_ret (pv 2)))))), ?_⟩)
  exact def_ok (N := ["steps", "size", "table", "part"]) (m := (mSeq (mAsg (mBin (gI0 fun i j => .int (i - j)) (mFn gLen (mCons (mVar 0) mNil)) (mC (.int 1))) (mgN 1))
    (mSeq (mAsgO 2 (mLO (mDs (mCons (mLE (mBinL gRep (mLE (mDs (mCons (mC (.int 1)) mNil))) (mFn gLen (mCons (mVar 0) mNil)))) mNil))))
    (mSeq (mFor (mRng2 (mCons (mC (.int 1)) (mCons (mFz (mCall [] m_bit_of (mCons (mVar 1) mNil))) mNil))) (mgN 3) (mApp 2 (mCons (mFz (mCall [1] m_ways_on (mCons (mVar 0) (mCons (mVar 2) (mCons (mVar 3) mNil))))) mNil)))
    (mRet (mVar 2)))))) ((rs_seq (rs_asg (re_bin (re_fn (ra_cons re_var ra_nil) f_len) re_int b_sub) rg_name)
      (rs_seq (rs_asgO (ro_l (rl_lst (ra_cons (re_l (rl_bin (re_l (rl_lst (ra_cons re_int ra_nil) (len_cons len_nil))) (re_fn (ra_cons re_var ra_nil) f_len) b_rep)) ra_nil) (len_cons len_nil))))
      (rs_seq (rs_for (ri_rng2 (ra_cons re_int (ra_cons (re_o (ro_call (ra_cons re_var ra_nil))) ra_nil))) rg_name (rs_app (ra_cons (re_o (ro_call (ra_cons re_var (ra_cons re_var (ra_cons re_var ra_nil))))) ra_nil)))
      (rs_ret re_var))))) h
def m_count_paths : MF := mDef 2 1 []
    (mSeq (mDrop (mFz (mCall [] m_check_rule (mCons (mVar 0) mNil))))
    (mSeq (mAsg (mFz (mCall [] m_ways_table (mCons (mFz (mCall [] m_step_table (mCons (mVar 0) mNil))) mNil))) (mgN 1))
    (mRet (mBin gIx (mBin gIx (mVar 1) (mUn gNeg (mC (.int 1)))) (mUn gNeg (mC (.int 1)))))))
theorem ok_count_paths (T : Tx K mg ad fd w ca ia ifd) : FnG P w K mg base 5 (ad 9) (fd 9) ["rule"] (spOf [] m_count_paths) := by
  refine okG T.F_count_paths sc_count_paths (fun vs H Q E h => by_len h) (fun cdv A ou s H vs Q E hr gu h => ⟨_, (pss_cons (ps_expr (pe_callG (ok_check_rule T) (hr.mono (by decide)) gu (by rfl) T.g_check_rule T.F_check_rule.kp T.b_check_rule .nil (pa_cons (pv 0) pa_nil)))
      (pss_cons (ps_set (i := 1) sc_count_paths.nd rfl (Or.inl rfl) (pe_callG (ok_ways_table T) (hr.mono (by decide)) gu (by rfl) T.g_ways_table T.F_ways_table.kp T.b_ways_table .nil (pa_cons (pe_callG (ok_step_table T) (hr.mono (by decide)) gu (by rfl) T.g_step_table T.F_step_table.kp T.b_step_table .nil (pa_cons (pv 0) pa_nil)) pa_nil)))
      (pss_one (ps_ret (pe_ix (ixK (K := K)) (pe_ix (ixK (K := K)) (pv 1) (pe_un un_neg pe_int) (fun _ _ => rfl)) (pe_un un_neg pe_int) (fun _ _ => rfl)))))), ?_⟩)
  exact def_ok (N := ["rule", "table"]) (m := (mSeq (mDrop (mFz (mCall [] m_check_rule (mCons (mVar 0) mNil))))
    (mSeq (mAsg (mFz (mCall [] m_ways_table (mCons (mFz (mCall [] m_step_table (mCons (mVar 0) mNil))) mNil))) (mgN 1))
    (mRet (mBin gIx (mBin gIx (mVar 1) (mUn gNeg (mC (.int 1)))) (mUn gNeg (mC (.int 1)))))))) ((rs_seq (rs_drop (re_o (ro_call (ra_cons re_var ra_nil))))
      (rs_seq (rs_asg (re_o (ro_call (ra_cons (re_o (ro_call (ra_cons re_var ra_nil))) ra_nil))) rg_name)
      (rs_ret (re_bin (re_bin re_var (re_un re_int u_neg) b_ix) (re_un re_int u_neg) b_ix))))) h
def m__law_draws : MF := mDef 1 1 []
    (mRetO (mLO (mDs (mCons (mBin gMod (mFn gInt (mCons (mVar 0) mNil)) (mBin gPow (mBin gPow (mBin gPow (mC (.int 10)) (mC (.int 60))) (mC (.int 60))) (mC (.int 4)))) (mCons (mC (.int 0)) (mCons (mBin (gI0 fun i j => .bool (decide (j ≤ i))) (mVar 0) (mBin gPow (mC (.int 10)) (mC (.int 18)))) mNil))))))
theorem ok__law_draws (T : Tx K mg ad fd w ca ia ifd) : FnG P w K mg base 1 (ad 10) (fd 10) ["cell"] (spOf [] m__law_draws) := by
  refine okG T.F__law_draws sc__law_draws (fun vs H Q E h => by_len h) (fun cdv A ou s H vs Q E hr gu h => ⟨_, (pss_one (ps_ret (pe_lst (pa_cons (pe_op op_modN (pe_callTy call_int1 (by rfl) T.b_int (by decide +kernel) (pa_cons (pv 0) pa_nil)) (pe_op op_powX (pe_op op_powX (pe_op op_powX pe_int pe_int) pe_int) pe_int)) (pa_cons pe_int (pa_cons (pe_cmpR op_ge (pv 0) (pe_op op_powX pe_int pe_int) (nomark _)) pa_nil)))))), ?_⟩)
  exact def_ok (N := ["cell"]) (m := (mRetO (mLO (mDs (mCons (mBin gMod (mFn gInt (mCons (mVar 0) mNil)) (mBin gPow (mBin gPow (mBin gPow (mC (.int 10)) (mC (.int 60))) (mC (.int 60))) (mC (.int 4)))) (mCons (mC (.int 0)) (mCons (mBin (gI0 fun i j => .bool (decide (j ≤ i))) (mVar 0) (mBin gPow (mC (.int 10)) (mC (.int 18)))) mNil))))))) ((rs_retO (ro_l (rl_lst (ra_cons (re_bin (re_fn (ra_cons re_var ra_nil) f_int) (re_bin (re_bin (re_bin re_int re_int b_pow) re_int b_pow) re_int b_pow) b_mod) (ra_cons re_int (ra_cons (re_bin re_var (re_bin re_int re_int b_pow) b_ge) ra_nil))) (len_cons (len_cons (len_cons len_nil))))))) h
def m__law_next : MF := mDef 3 1 [0]
    (mSeq (mSetI 0 (mC (.int 1)) (mBin (gI0 fun i j => .int (i + j)) (mBin gIx (mVar 0) (mC (.int 1))) (mC (.int 1))))
    (mSeq (mAsg (mBin gIx (mVar 0) (mC (.int 1))) (mgN 1))
    (mSeq (mIf (mT (mBin gIx (mVar 0) (mC (.int 2)))) (mSeq (mAsg (mBin gMod (mFn gInt (mCons (mBin gIx (mVar 0) (mC (.int 0))) mNil)) (mBin gPow (mC (.int 10)) (mC (.int 6)))) (mgN 2))
    (mSeq (mSetI 0 (mC (.int 0)) (mBin gFdiv (mBin gIx (mVar 0) (mC (.int 0))) (mBin gPow (mC (.int 10)) (mC (.int 6)))))
    (mRet (mVar 2)))) mNext)
    (mSeq (mAsg (mBin gMod (mFn gInt (mCons (mBin gMul (mBin (gI0 fun i j => .int (i + j)) (mBin (gI0 fun i j => .int (i + j)) (mBin gMod (mFn gInt (mCons (mBin gIx (mVar 0) (mC (.int 0))) mNil)) (mC (.int 1000003))) (mBin gMul (mBin gMul (mVar 1) (mVar 1)) (mC (.int 7919)))) (mVar 1)) (mC (.int 48271))) mNil)) (mC (.int 2147483629))) (mgN 2))
    (mSeq (mAsg (mBin gMod (mFn gInt (mCons (mBin gMul (mVar 2) (mVar 2)) mNil)) (mC (.int 2147483587))) (mgN 2))
    (mRet (mBin gFdiv (mBin gMod (mFn gInt (mCons (mBin gMul (mVar 2) (mBin (gI0 fun i j => .int (i + j)) (mVar 2) (mC (.int 2)))) mNil)) (mC (.int 2147483579))) (mC (.int 7)))))))))
theorem ok__law_next (T : Tx K mg ad fd w ca ia ifd) : FnG P w K mg base 1 (ad 11) (fd 11) ["draws"] (spOf [0] m__law_next) := by
  refine okG T.F__law_next sc__law_next (fun vs H Q E h => by_len h) (fun cdv A ou s H vs Q E hr gu h => ⟨_, (pss_cons (ps_asg (pe_op op_add (pe_ix (ixK (K := K)) (pv 0) pe_int (fun _ _ => rfl)) pe_int) (pg_sub (pv 0) pe_int set_list))
      (pss_cons (ps_set (i := 1) sc__law_next.nd rfl (Or.inl rfl) (pe_ix (ixK (K := K)) (pv 0) pe_int (fun _ _ => rfl)))
      (pss_cons (ps_if (pt_val (pe_ix (ixK (K := K)) (pv 0) pe_int (fun _ _ => rfl))) (pss_cons (ps_set (i := 2) sc__law_next.nd rfl (Or.inl rfl) (pe_op op_modN (pe_callTy call_int1 (by rfl) T.b_int (by decide +kernel) (pa_cons (pe_ix (ixK (K := K)) (pv 0) pe_int (fun _ _ => rfl)) pa_nil)) (pe_op op_powX pe_int pe_int)))
      (pss_cons (ps_asg (pe_op op_fdivN (pe_ix (ixK (K := K)) (pv 0) pe_int (fun _ _ => rfl)) (pe_op op_powX pe_int pe_int)) (pg_sub (pv 0) pe_int set_list))
      (pss_one (ps_ret (pv 2))))) pss_nil)
      (pss_cons (ps_set (i := 2) sc__law_next.nd rfl (Or.inl rfl) (pe_op op_modN (pe_callTy call_int1 (by rfl) T.b_int (by decide +kernel) (pa_cons (pe_op op_mulW (pe_op op_add (pe_op op_add (pe_op op_modN (pe_callTy call_int1 (by rfl) T.b_int (by decide +kernel) (pa_cons (pe_ix (ixK (K := K)) (pv 0) pe_int (fun _ _ => rfl)) pa_nil)) pe_int) (pe_op op_mulW (pe_op op_mulW (pv 1) (pv 1)) pe_int)) (pv 1)) pe_int) pa_nil)) pe_int))
      (pss_cons (ps_set (i := 2) sc__law_next.nd rfl (Or.inl rfl) (pe_op op_modN (pe_callTy call_int1 (by rfl) T.b_int (by decide +kernel) (pa_cons (pe_op op_mulW (pv 2) (pv 2)) pa_nil)) pe_int))
      (pss_one (ps_ret (pe_op op_fdivN (pe_op op_modN (pe_callTy call_int1 (by rfl) T.b_int (by decide +kernel) (pa_cons (pe_op op_mulW (pv 2) (pe_op op_add (pv 2) pe_int)) pa_nil)) pe_int) pe_int)))))))), ?_⟩)
  exact def_ok (N := ["draws", "k", "number"]) (m := (mSeq (mSetI 0 (mC (.int 1)) (mBin (gI0 fun i j => .int (i + j)) (mBin gIx (mVar 0) (mC (.int 1))) (mC (.int 1))))
    (mSeq (mAsg (mBin gIx (mVar 0) (mC (.int 1))) (mgN 1))
    (mSeq (mIf (mT (mBin gIx (mVar 0) (mC (.int 2)))) (mSeq (mAsg (mBin gMod (mFn gInt (mCons (mBin gIx (mVar 0) (mC (.int 0))) mNil)) (mBin gPow (mC (.int 10)) (mC (.int 6)))) (mgN 2))
    (mSeq (mSetI 0 (mC (.int 0)) (mBin gFdiv (mBin gIx (mVar 0) (mC (.int 0))) (mBin gPow (mC (.int 10)) (mC (.int 6)))))
    (mRet (mVar 2)))) mNext)
    (mSeq (mAsg (mBin gMod (mFn gInt (mCons (mBin gMul (mBin (gI0 fun i j => .int (i + j)) (mBin (gI0 fun i j => .int (i + j)) (mBin gMod (mFn gInt (mCons (mBin gIx (mVar 0) (mC (.int 0))) mNil)) (mC (.int 1000003))) (mBin gMul (mBin gMul (mVar 1) (mVar 1)) (mC (.int 7919)))) (mVar 1)) (mC (.int 48271))) mNil)) (mC (.int 2147483629))) (mgN 2))
    (mSeq (mAsg (mBin gMod (mFn gInt (mCons (mBin gMul (mVar 2) (mVar 2)) mNil)) (mC (.int 2147483587))) (mgN 2))
    (mRet (mBin gFdiv (mBin gMod (mFn gInt (mCons (mBin gMul (mVar 2) (mBin (gI0 fun i j => .int (i + j)) (mVar 2) (mC (.int 2)))) mNil)) (mC (.int 2147483579))) (mC (.int 7)))))))))) ((rs_seq (rs_setI (re_bin (re_bin re_var re_int b_ix) re_int b_add) re_int)
      (rs_seq (rs_asg (re_bin re_var re_int b_ix) rg_name)
      (rs_seq (rs_if (rt_B (re_bin re_var re_int b_ix)) (rs_seq (rs_asg (re_bin (re_fn (ra_cons (re_bin re_var re_int b_ix) ra_nil) f_int) (re_bin re_int re_int b_pow) b_mod) rg_name)
      (rs_seq (rs_setI (re_bin (re_bin re_var re_int b_ix) (re_bin re_int re_int b_pow) b_fdiv) re_int)
      (rs_ret re_var))) rs_next)
      (rs_seq (rs_asg (re_bin (re_fn (ra_cons (re_bin (re_bin (re_bin (re_bin (re_fn (ra_cons (re_bin re_var re_int b_ix) ra_nil) f_int) re_int b_mod) (re_bin (re_bin re_var re_var b_mul) re_int b_mul) b_add) re_var b_add) re_int b_mul) ra_nil) f_int) re_int b_mod) rg_name)
      (rs_seq (rs_asg (re_bin (re_fn (ra_cons (re_bin re_var re_var b_mul) ra_nil) f_int) re_int b_mod) rg_name)
      (rs_ret (re_bin (re_bin (re_fn (ra_cons (re_bin re_var (re_bin re_var re_int b_add) b_mul) ra_nil) f_int) re_int b_mod) re_int b_fdiv)))))))) h
def m__law_rule : MF := mDef 10 2 [0]
    (mSeq (mAsg (mBin gMod (mFn gInt (mCons (mFz (mCall [0] m__law_next (mCons (mVar 0) mNil))) mNil)) (mC (.int 6))) (mgN 2))
    (mSeq (mAsgO 3 (mLc2 (mRng1 (mCons (mVar 1) mNil)) (mgN 7) mYes (mLO (mBinL gRep (mLE (mDs (mCons (mC (.int 0)) mNil))) (mVar 1))) [7]))
    (mSeq (mAsg (mLE (mLc (mRng1 (mCons (mVar 1) mNil)) (mgN 7) mYes (mBin gMod (mFn gInt (mCons (mFz (mCall [0] m__law_next (mCons (mVar 0) mNil))) mNil)) (mBin (gI0 fun i j => .int (i + j)) (mVar 1) (mC (.int 3)))) [7])) (mgN 4))
    (mSeq (mFor (mRng1 (mCons (mVar 1) mNil)) (mgN 5) (mFor (mRng2 (mCons (mBin (gI0 fun i j => .int (i + j)) (mVar 5) (mC (.int 1))) (mCons (mVar 1) mNil))) (mgN 6) (mSeq (mAsg (mBin (gI0 fun i j => .int (i - j)) (mBin gMod (mFn gInt (mCons (mFz (mCall [0] m__law_next (mCons (mVar 0) mNil))) mNil)) (mC (.int 3))) (mC (.int 1))) (mgN 8))
    (mSeq (mIf (mT (mBin (gI0 fun i j => .bool (decide (i < j))) (mVar 2) (mC (.int 2)))) (mAsg (mBin gIx (mLE (mDs (mCons (mUn gNeg (mC (.int 1))) (mCons (mC (.int 1)) mNil)))) (mBin gMod (mFn gInt (mCons (mFz (mCall [0] m__law_next (mCons (mVar 0) mNil))) mNil)) (mC (.int 2)))) (mgN 8)) (mIf (mT (mBin (gI0 fun i j => .bool (decide (i < j))) (mVar 2) (mC (.int 5)))) (mSeq (mAsg (mFn gInt (mCons (mBin (gI0 fun i j => .bool (decide (j < i))) (mFn gAbs (mCons (mBin (gI0 fun i j => .int (i - j)) (mBin gIx (mVar 4) (mVar 5)) (mBin gIx (mVar 4) (mVar 6))) mNil)) (mBin (gI0 fun i j => .int (i - j)) (mVar 2) (mC (.int 3)))) mNil)) (mgN 9))
    (mSeq (mAsg (mBin gMul (mBin (gI0 fun i j => .int (i - j)) (mC (.int 1)) (mBin gMul (mC (.int 2)) (mFn gInt (mCons (mBin (gI0 fun i j => .bool (decide (i < j))) (mBin gIx (mVar 4) (mVar 5)) (mBin gIx (mVar 4) (mVar 6))) mNil)))) (mVar 9)) (mgN 8))
    (mIf (mAnd (mT (mBin (gEq false) (mVar 2) (mC (.int 3)))) (mT (mBin (gEq false) (mBin gMod (mFn gInt (mCons (mFz (mCall [0] m__law_next (mCons (mVar 0) mNil))) mNil)) (mC (.int 7))) (mC (.int 0))))) (mAsg (mUn gNeg (mVar 8)) (mgN 8)) mNext))) mNext))
    (mSeq (mSet2 3 (mVar 5) (mVar 6) (mVar 8))
    (mSet2 3 (mVar 6) (mVar 5) (mUn gNeg (mVar 8))))))))
    (mRet (mVar 3))))))
theorem ok__law_rule (T : Tx K mg ad fd w ca ia ifd) : FnG P w K mg base 2 (ad 12) (fd 12) ["draws", "size"] (spOf [0] m__law_rule) := by
  refine okG T.F__law_rule sc__law_rule (fun vs H Q E h => by_len h) (fun cdv A ou s H vs Q E hr gu h => ⟨_, (pss_cons (ps_set (i := 2) sc__law_rule.nd rfl (Or.inl rfl) (pe_op op_modN (pe_callTy call_int1 (by rfl) T.b_int (by decide +kernel) (pa_cons (pe_callG (ok__law_next T) (hr.mono (by decide)) gu (by rfl) T.g__law_next T.F__law_next.kp T.b__law_next .nil (pa_cons (pv 0) pa_nil)) pa_nil)) pe_int))
      (pss_cons (ps_setLc (i := 3) (own := [("item", 7)]) (g := gName 7) (tt := tYes) rfl sc__law_rule.nd rfl rfl (sw_true rfl rfl rfl (by decide +kernel)) (pi_range1 (by rfl) T.b_range (pa_cons (pv 1) pa_nil)) (blkOk_by (own := [("item", 7)]) (by kernel_rfl)) (fun _ _ _ _ _ => (pg_name (i := 7) sc__law_rule.nd rfl (Or.inl rfl))) (fun _ _ _ _ _ => pts_nil) (fun _ _ _ _ _ => (pe_op op_rep (pe_lst (pa_cons pe_int pa_nil)) (pv 1))))
      (pss_cons (ps_setLc (i := 4) (own := [("item", 7)]) (g := gName 7) (tt := tYes) rfl sc__law_rule.nd rfl rfl (sw_true rfl rfl rfl (by decide +kernel)) (pi_range1 (by rfl) T.b_range (pa_cons (pv 1) pa_nil)) (blkOk_by (own := [("item", 7)]) (by kernel_rfl)) (fun _ _ _ _ _ => (pg_name (i := 7) sc__law_rule.nd rfl (Or.inl rfl))) (fun _ _ _ _ _ => pts_nil) (fun _ _ _ _ _ => (pe_op op_modN (pe_callTy call_int1 (by rfl) T.b_int (by decide +kernel) (pa_cons (pe_callG (ok__law_next T) (hr.mono (by decide)) gu (by rfl) T.g__law_next T.F__law_next.kp T.b__law_next .nil (pa_cons (pv 0) pa_nil)) pa_nil)) (pe_op op_add (pv 1) pe_int))))
      (pss_cons (ps_for PassesOwn.never rfl (pi_range1 (by rfl) T.b_range (pa_cons (pv 1) pa_nil)) (pg_name (i := 5) sc__law_rule.nd rfl (Or.inl rfl)) (pss_one (ps_for PassesOwn.never rfl (pi_range2 (by rfl) T.b_range (pa_cons (pe_op op_add (pv 5) pe_int) (pa_cons (pv 1) pa_nil))) (pg_name (i := 6) sc__law_rule.nd rfl (Or.inl rfl)) (pss_cons (ps_set (i := 8) sc__law_rule.nd rfl (Or.inl rfl) (pe_op op_sub (pe_op op_modN (pe_callTy call_int1 (by rfl) T.b_int (by decide +kernel) (pa_cons (pe_callG (ok__law_next T) (hr.mono (by decide)) gu (by rfl) T.g__law_next T.F__law_next.kp T.b__law_next .nil (pa_cons (pv 0) pa_nil)) pa_nil)) pe_int) pe_int))
      (pss_cons (ps_if (pt_cmpR op_lt (pv 2) pe_int (nomark _)) (pss_one (ps_set (i := 8) sc__law_rule.nd rfl (Or.inl rfl) (pe_ix (ixK (K := K)) (pe_lst (pa_cons (pe_un un_neg pe_int) (pa_cons pe_int pa_nil))) (pe_op op_modN (pe_callTy call_int1 (by rfl) T.b_int (by decide +kernel) (pa_cons (pe_callG (ok__law_next T) (hr.mono (by decide)) gu (by rfl) T.g__law_next T.F__law_next.kp T.b__law_next .nil (pa_cons (pv 0) pa_nil)) pa_nil)) pe_int) (fun _ _ => rfl)))) (pss_one (ps_if (pt_cmpR op_lt (pv 2) pe_int (nomark _)) (pss_cons (ps_set (i := 9) sc__law_rule.nd rfl (Or.inl rfl) (pe_callTy call_int1 (by rfl) T.b_int (by decide +kernel) (pa_cons (pe_cmpR op_gt (pe_callB call_abs (by rfl) T.b_abs (by decide +kernel) (pa_cons (pe_op op_sub (pe_ix (ixK (K := K)) (pv 4) (pv 5) (fun _ _ => rfl)) (pe_ix (ixK (K := K)) (pv 4) (pv 6) (fun _ _ => rfl))) pa_nil)) (pe_op op_sub (pv 2) pe_int) (nomark _)) pa_nil)))
      (pss_cons (ps_set (i := 8) sc__law_rule.nd rfl (Or.inl rfl) (pe_op op_mulW (pe_op op_sub pe_int (pe_op op_mulW pe_int (pe_callTy call_int1 (by rfl) T.b_int (by decide +kernel) (pa_cons (pe_cmpR op_lt (pe_ix (ixK (K := K)) (pv 4) (pv 5) (fun _ _ => rfl)) (pe_ix (ixK (K := K)) (pv 4) (pv 6) (fun _ _ => rfl)) (nomark _)) pa_nil)))) (pv 9)))
      (pss_one (ps_if (PW.pt (pw_and (pt_cmpR (eqK (K := K) hr.units) (pv 2) pe_int (nomark _)) (pw_and1 (pt_cmpR (eqK (K := K) hr.units) (pe_op op_modN (pe_callTy call_int1 (by rfl) T.b_int (by decide +kernel) (pa_cons (pe_callG (ok__law_next T) (hr.mono (by decide)) gu (by rfl) T.g__law_next T.F__law_next.kp T.b__law_next .nil (pa_cons (pv 0) pa_nil)) pa_nil)) pe_int) pe_int (nomark _))))) (pss_one (ps_set (i := 8) sc__law_rule.nd rfl (Or.inl rfl) (pe_un un_neg (pv 8)))) pss_nil)))) pss_nil)))
      (pss_cons (ps_asg (pv 8) (pg_sub (pe_ix (ixK (K := K)) (pv 3) (pv 5) (fun _ _ => rfl)) (pv 6) set_list))
      (pss_one (ps_asg (pe_un un_neg (pv 8)) (pg_sub (pe_ix (ixK (K := K)) (pv 3) (pv 6) (fun _ _ => rfl)) (pv 5) set_list)))))))))
      (pss_one (ps_ret (pv 3))))))), ?_⟩)
  exact def_ok (N := ["draws", "size", "kind", "told", "worths", "one", "other", "item", "answer", "near"]) (m := (mSeq (mAsg (mBin gMod (mFn gInt (mCons (mFz (mCall [0] m__law_next (mCons (mVar 0) mNil))) mNil)) (mC (.int 6))) (mgN 2))
    (mSeq (mAsgO 3 (mLc2 (mRng1 (mCons (mVar 1) mNil)) (mgN 7) mYes (mLO (mBinL gRep (mLE (mDs (mCons (mC (.int 0)) mNil))) (mVar 1))) [7]))
    (mSeq (mAsg (mLE (mLc (mRng1 (mCons (mVar 1) mNil)) (mgN 7) mYes (mBin gMod (mFn gInt (mCons (mFz (mCall [0] m__law_next (mCons (mVar 0) mNil))) mNil)) (mBin (gI0 fun i j => .int (i + j)) (mVar 1) (mC (.int 3)))) [7])) (mgN 4))
    (mSeq (mFor (mRng1 (mCons (mVar 1) mNil)) (mgN 5) (mFor (mRng2 (mCons (mBin (gI0 fun i j => .int (i + j)) (mVar 5) (mC (.int 1))) (mCons (mVar 1) mNil))) (mgN 6) (mSeq (mAsg (mBin (gI0 fun i j => .int (i - j)) (mBin gMod (mFn gInt (mCons (mFz (mCall [0] m__law_next (mCons (mVar 0) mNil))) mNil)) (mC (.int 3))) (mC (.int 1))) (mgN 8))
    (mSeq (mIf (mT (mBin (gI0 fun i j => .bool (decide (i < j))) (mVar 2) (mC (.int 2)))) (mAsg (mBin gIx (mLE (mDs (mCons (mUn gNeg (mC (.int 1))) (mCons (mC (.int 1)) mNil)))) (mBin gMod (mFn gInt (mCons (mFz (mCall [0] m__law_next (mCons (mVar 0) mNil))) mNil)) (mC (.int 2)))) (mgN 8)) (mIf (mT (mBin (gI0 fun i j => .bool (decide (i < j))) (mVar 2) (mC (.int 5)))) (mSeq (mAsg (mFn gInt (mCons (mBin (gI0 fun i j => .bool (decide (j < i))) (mFn gAbs (mCons (mBin (gI0 fun i j => .int (i - j)) (mBin gIx (mVar 4) (mVar 5)) (mBin gIx (mVar 4) (mVar 6))) mNil)) (mBin (gI0 fun i j => .int (i - j)) (mVar 2) (mC (.int 3)))) mNil)) (mgN 9))
    (mSeq (mAsg (mBin gMul (mBin (gI0 fun i j => .int (i - j)) (mC (.int 1)) (mBin gMul (mC (.int 2)) (mFn gInt (mCons (mBin (gI0 fun i j => .bool (decide (i < j))) (mBin gIx (mVar 4) (mVar 5)) (mBin gIx (mVar 4) (mVar 6))) mNil)))) (mVar 9)) (mgN 8))
    (mIf (mAnd (mT (mBin (gEq false) (mVar 2) (mC (.int 3)))) (mT (mBin (gEq false) (mBin gMod (mFn gInt (mCons (mFz (mCall [0] m__law_next (mCons (mVar 0) mNil))) mNil)) (mC (.int 7))) (mC (.int 0))))) (mAsg (mUn gNeg (mVar 8)) (mgN 8)) mNext))) mNext))
    (mSeq (mSet2 3 (mVar 5) (mVar 6) (mVar 8))
    (mSet2 3 (mVar 6) (mVar 5) (mUn gNeg (mVar 8))))))))
    (mRet (mVar 3))))))) ((rs_seq (rs_asg (re_bin (re_fn (ra_cons (re_o (ro_call (ra_cons re_var ra_nil))) ra_nil) f_int) re_int b_mod) rg_name)
      (rs_seq (rs_asgO (ro_lc2 (ri_rng1 (ra_cons re_var ra_nil)) rg_name rt_yes (ro_l (rl_bin (re_l (rl_lst (ra_cons re_int ra_nil) (len_cons len_nil))) re_var b_rep))))
      (rs_seq (rs_asg (re_lc (ri_rng1 (ra_cons re_var ra_nil)) rg_name rt_yes (re_bin (re_fn (ra_cons (re_o (ro_call (ra_cons re_var ra_nil))) ra_nil) f_int) (re_bin re_var re_int b_add) b_mod)) rg_name)
      (rs_seq (rs_for (ri_rng1 (ra_cons re_var ra_nil)) rg_name (rs_for (ri_rng2 (ra_cons (re_bin re_var re_int b_add) (ra_cons re_var ra_nil))) rg_name (rs_seq (rs_asg (re_bin (re_bin (re_fn (ra_cons (re_o (ro_call (ra_cons re_var ra_nil))) ra_nil) f_int) re_int b_mod) re_int b_sub) rg_name)
      (rs_seq (rs_if (rt_test (re_bin re_var re_int b_lt)) (rs_asg (re_bin (re_l (rl_lst (ra_cons (re_un re_int u_neg) (ra_cons re_int ra_nil)) (len_cons (len_cons len_nil)))) (re_bin (re_fn (ra_cons (re_o (ro_call (ra_cons re_var ra_nil))) ra_nil) f_int) re_int b_mod) b_ix) rg_name) (rs_if (rt_test (re_bin re_var re_int b_lt)) (rs_seq (rs_asg (re_fn (ra_cons (re_bin (re_fn (ra_cons (re_bin (re_bin re_var re_var b_ix) (re_bin re_var re_var b_ix) b_sub) ra_nil) f_abs) (re_bin re_var re_int b_sub) b_gt) ra_nil) f_int) rg_name)
      (rs_seq (rs_asg (re_bin (re_bin re_int (re_bin re_int (re_fn (ra_cons (re_bin (re_bin re_var re_var b_ix) (re_bin re_var re_var b_ix) b_lt) ra_nil) f_int) b_mul) b_sub) re_var b_mul) rg_name)
      (rs_if (rt_and (rt_test (re_bin re_var re_int b_eq)) (rt_test (re_bin (re_bin (re_fn (ra_cons (re_o (ro_call (ra_cons re_var ra_nil))) ra_nil) f_int) re_int b_mod) re_int b_eq))) (rs_asg (re_un re_var u_neg) rg_name) rs_next))) rs_next))
      (rs_seq (rs_set2 re_var re_var re_var)
      (rs_set2 (re_un re_var u_neg) re_var re_var))))))
      (rs_ret re_var)))))) h
def m__law_orders : MF := mDef 5 1 []
    (mSeq (mAsg (mLE (mDs (mCons (mLE (mDs mNil)) mNil))) (mgN 1))
    (mSeq (mFor (mRng1 (mCons (mFn gLen (mCons (mVar 0) mNil)) mNil)) (mgN 2) (mAsg (mLE (mSumL (mLE (mLc (mItL (mVar 1)) (mgN 3) mYes (mLE (mLc (mItL (mVar 0)) (mgN 4) (mT (mBin (gIn true) (mVar 4) (mVar 3))) (mLE (mBinL gCat (mVar 3) (mLE (mDs (mCons (mVar 4) mNil))))) [4])) [3])))) (mgN 1)))
    (mRet (mVar 1))))
theorem ok__law_orders (T : Tx K mg ad fd w ca ia ifd) : FnG P w K mg base 1 (ad 13) (fd 13) ["items"] (spOf [] m__law_orders) := by
  refine okG T.F__law_orders sc__law_orders (fun vs H Q E h => by_len h) (fun cdv A ou s H vs Q E hr gu h => ⟨_, (pss_cons (ps_set (i := 1) sc__law_orders.nd rfl (Or.inl rfl) (pe_lst (pa_cons (pe_lst pa_nil) pa_nil)))
      (pss_cons (ps_for PassesOwn.never rfl (pi_range1 (by rfl) T.b_range (pa_cons (pe_callB (lenK (K := K)) (by rfl) T.b_len PySem.boot_len (pa_cons (pv 0) pa_nil)) pa_nil)) (pg_name (i := 2) sc__law_orders.nd rfl (Or.inl rfl)) (pss_one (ps_set (i := 1) sc__law_orders.nd rfl (Or.inl rfl) (pe_callB (sumLK (K := K) rfl) (by rfl) T.b_sum (by decide +kernel) (pa_cons (pe_lc (own := [("row", 3)]) (g := gName 3) (tt := tYes) rfl sc__law_orders.nd (pi_listK (K := K) (pv 1)) (blkOk_by (own := [("row", 3)]) (by kernel_rfl)) (fun _ _ _ _ _ => (pg_name (i := 3) sc__law_orders.nd rfl (Or.inr rfl))) (fun _ _ _ _ _ => pts_nil) (fun _ _ _ _ _ => (pe_lc (own := [("item", 4)]) (g := gName 4) rfl sc__law_orders.nd (pi_listK (K := K) (pv 0)) (blkOk_by (own := [("item", 4)]) (by kernel_rfl)) (fun _ _ _ _ _ => (pg_name (i := 4) sc__law_orders.nd rfl (Or.inl rfl))) (fun _ _ _ _ _ => (pts_one (pt_cmpR (notInK (K := K)) (pv 4) (pv 3) (by with_unfolding_all rfl)))) (fun _ _ _ _ _ => (pe_op op_cat (pv 3) (pe_lst (pa_cons (pv 4) pa_nil))))))) (pa_cons (pe_lst pa_nil) pa_nil))))))
      (pss_one (ps_ret (pv 1))))), ?_⟩)
  exact def_ok (N := ["items", "told", "k", "row", "item"]) (m := (mSeq (mAsg (mLE (mDs (mCons (mLE (mDs mNil)) mNil))) (mgN 1))
    (mSeq (mFor (mRng1 (mCons (mFn gLen (mCons (mVar 0) mNil)) mNil)) (mgN 2) (mAsg (mLE (mSumL (mLE (mLc (mItL (mVar 1)) (mgN 3) mYes (mLE (mLc (mItL (mVar 0)) (mgN 4) (mT (mBin (gIn true) (mVar 4) (mVar 3))) (mLE (mBinL gCat (mVar 3) (mLE (mDs (mCons (mVar 4) mNil))))) [4])) [3])))) (mgN 1)))
    (mRet (mVar 1))))) ((rs_seq (rs_asg (re_l (rl_lst (ra_cons (re_l (rl_lst ra_nil len_nil)) ra_nil) (len_cons len_nil))) rg_name)
      (rs_seq (rs_for (ri_rng1 (ra_cons (re_fn (ra_cons re_var ra_nil) f_len) ra_nil)) rg_name (rs_asg (re_l (rl_sumL (re_lc (ri_list re_var) rg_name rt_yes (re_lc (ri_list re_var) rg_name (rt_test (re_bin re_var re_var (b_in true))) (re_l (rl_bin re_var (re_l (rl_lst (ra_cons re_var ra_nil) (len_cons len_nil))) b_cat)))))) rg_name))
      (rs_ret re_var)))) h
def m__law_path : MF := mDef 4 2 []
    (mRet (mBin (gEq false) (mLE (mLc (mZip (mCons (mVar 1) (mCons (mLE (mSl (mVar 1) (mPart (mC (.int 1))) mNoPart)) mNil))) (mgT [2, 3]) (mT (mBin (gEq false) (mBin gIx (mBin gIx (mVar 0) (mVar 3)) (mVar 2)) (mUn gNeg (mC (.int 1))))) (mVar 2) [2, 3])) (mLE (mDs mNil))))
theorem ok__law_path (T : Tx K mg ad fd w ca ia ifd) : FnG P w K mg base 1 (ad 14) (fd 14) ["rule", "row"] (spOf [] m__law_path) := by
  refine okG T.F__law_path sc__law_path (fun vs H Q E h => by_len h) (fun cdv A ou s H vs Q E hr gu h => ⟨_, (pss_one (ps_ret (pe_cmpR (eqK (K := K) hr.units) (pe_lc (own := [("one", 2), ("other", 3)]) (g := gTup K 2 (gCons (gName 2) (gCons (gName 3) gNil))) rfl sc__law_path.nd (pi_zipK (K := K) (by rfl) T.b_zip (pa_cons (pv 1) (pa_cons (pe_slice (slK (K := K)) (pv 1) (po_some pe_int) po_none) pa_nil))) (blkOk_by (own := [("one", 2), ("other", 3)]) (by kernel_rfl)) (fun _ _ _ _ _ => (pg_tupK (K := K) rfl (pgs_cons (pg_name (i := 2) sc__law_path.nd rfl (Or.inl rfl)) (pgs_cons (pg_name (i := 3) sc__law_path.nd rfl (Or.inl rfl)) pgs_nil)))) (fun _ _ _ _ _ => (pts_one (pt_cmpR (eqK (K := K) hr.units) (pe_ix (ixK (K := K)) (pe_ix (ixK (K := K)) (pv 0) (pv 3) (fun _ _ => rfl)) (pv 2) (fun _ _ => rfl)) (pe_un un_neg pe_int) (nomark _)))) (fun _ _ _ _ _ => (pv 2))) (pe_lst pa_nil) (nomark _)))), ?_⟩)
  exact def_ok (N := ["rule", "row", "one", "other"]) (m := (mRet (mBin (gEq false) (mLE (mLc (mZip (mCons (mVar 1) (mCons (mLE (mSl (mVar 1) (mPart (mC (.int 1))) mNoPart)) mNil))) (mgT [2, 3]) (mT (mBin (gEq false) (mBin gIx (mBin gIx (mVar 0) (mVar 3)) (mVar 2)) (mUn gNeg (mC (.int 1))))) (mVar 2) [2, 3])) (mLE (mDs mNil))))) ((rs_ret (re_bin (re_lc (ri_zip (ra_cons re_var (ra_cons (re_l (rl_sl re_var (rq_some re_int) rq_none)) ra_nil))) (rg_tup (rgs_cons (rgs_cons rgs_nil))) (rt_test (re_bin (re_bin (re_bin re_var re_var b_ix) re_var b_ix) (re_un re_int u_neg) b_eq)) re_var) (re_l (rl_lst ra_nil len_nil)) b_eq))) h
def m__law_strict : MF := mDef 4 2 []
    (mRet (mBin (gEq false) (mLE (mLc (mZip (mCons (mVar 1) (mCons (mLE (mSl (mVar 1) (mPart (mC (.int 1))) mNoPart)) mNil))) (mgT [2, 3]) (mT (mBin (gEq true) (mBin gIx (mBin gIx (mVar 0) (mVar 2)) (mVar 3)) (mUn gNeg (mC (.int 1))))) (mVar 2) [2, 3])) (mLE (mDs mNil))))
theorem ok__law_strict (T : Tx K mg ad fd w ca ia ifd) : FnG P w K mg base 1 (ad 15) (fd 15) ["rule", "row"] (spOf [] m__law_strict) := by
  refine okG T.F__law_strict sc__law_strict (fun vs H Q E h => by_len h) (fun cdv A ou s H vs Q E hr gu h => ⟨_, (pss_one (ps_ret (pe_cmpR (eqK (K := K) hr.units) (pe_lc (own := [("one", 2), ("other", 3)]) (g := gTup K 2 (gCons (gName 2) (gCons (gName 3) gNil))) rfl sc__law_strict.nd (pi_zipK (K := K) (by rfl) T.b_zip (pa_cons (pv 1) (pa_cons (pe_slice (slK (K := K)) (pv 1) (po_some pe_int) po_none) pa_nil))) (blkOk_by (own := [("one", 2), ("other", 3)]) (by kernel_rfl)) (fun _ _ _ _ _ => (pg_tupK (K := K) rfl (pgs_cons (pg_name (i := 2) sc__law_strict.nd rfl (Or.inl rfl)) (pgs_cons (pg_name (i := 3) sc__law_strict.nd rfl (Or.inl rfl)) pgs_nil)))) (fun _ _ _ _ _ => (pts_one (pt_cmpR (neK (K := K) hr.units) (pe_ix (ixK (K := K)) (pe_ix (ixK (K := K)) (pv 0) (pv 2) (fun _ _ => rfl)) (pv 3) (fun _ _ => rfl)) (pe_un un_neg pe_int) (nomark _)))) (fun _ _ _ _ _ => (pv 2))) (pe_lst pa_nil) (nomark _)))), ?_⟩)
  exact def_ok (N := ["rule", "row", "one", "other"]) (m := (mRet (mBin (gEq false) (mLE (mLc (mZip (mCons (mVar 1) (mCons (mLE (mSl (mVar 1) (mPart (mC (.int 1))) mNoPart)) mNil))) (mgT [2, 3]) (mT (mBin (gEq true) (mBin gIx (mBin gIx (mVar 0) (mVar 2)) (mVar 3)) (mUn gNeg (mC (.int 1))))) (mVar 2) [2, 3])) (mLE (mDs mNil))))) ((rs_ret (re_bin (re_lc (ri_zip (ra_cons re_var (ra_cons (re_l (rl_sl re_var (rq_some re_int) rq_none)) ra_nil))) (rg_tup (rgs_cons (rgs_cons rgs_nil))) (rt_test (re_bin (re_bin (re_bin re_var re_var b_ix) re_var b_ix) (re_un re_int u_neg) b_ne)) re_var) (re_l (rl_lst ra_nil len_nil)) b_eq))) h
def m__law_right : MF := mDef 9 1 [0]
    (mSeq (mAsg (mFz (mCall [0] m__law_rule (mCons (mVar 0) (mCons (mBin gMod (mFn gInt (mCons (mFz (mCall [0] m__law_next (mCons (mVar 0) mNil))) mNil)) (mC (.int 7))) mNil)))) (mgN 1))
    (mSeq (mAsg (mFz (mCall [] m__law_orders (mCons (mLE (mLRg1 (mFn gLen (mCons (mVar 1) mNil)))) mNil))) (mgN 2))
    (mSeq (mAsg (mFn gLen (mCons (mLE (mLc (mItL (mVar 2)) (mgN 8) (mT (mFz (mCall [] m__law_path (mCons (mVar 1) (mCons (mVar 8) mNil))))) (mVar 8) [8])) mNil)) (mgN 3))
    (mSeq (mAsg (mFn gLen (mCons (mLE (mLc (mItL (mVar 2)) (mgN 8) (mT (mFz (mCall [] m__law_strict (mCons (mVar 1) (mCons (mVar 8) mNil))))) (mVar 8) [8])) mNil)) (mgN 4))
    (mSeq (mIf (mOr (mT (mBin (gEq true) (mFz (mCall [] m_count_paths (mCons (mVar 1) mNil))) (mVar 3))) (mT (mBin (gEq true) (mBin gMod (mFn gInt (mCons (mBin (gI0 fun i j => .int (i - j)) (mVar 3) (mVar 4)) mNil)) (mC (.int 2))) (mC (.int 0))))) (mRet (mC (.bool false))) mNext)
    (mSeq (mAsg (mFz (mCall [0] m__law_rule (mCons (mVar 0) (mCons (mBin (gI0 fun i j => .int (i + j)) (mC (.int 7)) (mBin gMod (mFn gInt (mCons (mFz (mCall [0] m__law_next (mCons (mVar 0) mNil))) mNil)) (mC (.int 3)))) mNil)))) (mgN 5))
    (mSeq (mAsg (mLE (mLc (mItL (mVar 5)) (mgN 7) (mT (mBin (gI0 fun i j => .bool (decide (j < i))) (mCnt (mVar 7) (mC (.int 0))) (mC (.int 1)))) (mVar 7) [7])) (mgN 6))
    (mRet (mOrV (mBin (gEq true) (mVar 6) (mLE (mDs mNil))) (mBin (gEq false) (mBin gMod (mFn gInt (mCons (mFz (mCall [] m_count_paths (mCons (mVar 5) mNil))) mNil)) (mC (.int 2))) (mC (.int 1))))))))))))
theorem ok__law_right (T : Tx K mg ad fd w ca ia ifd) : FnG P w K mg base 6 (ad 16) (fd 16) ["draws"] (spOf [0] m__law_right) := by
  refine okG T.F__law_right sc__law_right (fun vs H Q E h => by_len h) (fun cdv A ou s H vs Q E hr gu h => ⟨_, (pss_cons (ps_set (i := 1) sc__law_right.nd rfl (Or.inr rfl) (pe_callG (ok__law_rule T) (hr.mono (by decide)) gu (by rfl) T.g__law_rule T.F__law_rule.kp T.b__law_rule .nil (pa_cons (pv 0) (pa_cons (pe_op op_modN (pe_callTy call_int1 (by rfl) T.b_int (by decide +kernel) (pa_cons (pe_callG (ok__law_next T) (hr.mono (by decide)) gu (by rfl) T.g__law_next T.F__law_next.kp T.b__law_next .nil (pa_cons (pv 0) pa_nil)) pa_nil)) pe_int) pa_nil))))
      (pss_cons (ps_set (i := 2) sc__law_right.nd rfl (Or.inl rfl) (pe_callG (ok__law_orders T) (hr.mono (by decide)) gu (by rfl) T.g__law_orders T.F__law_orders.kp T.b__law_orders .nil (pa_cons (pe_listRg rfl (by rfl) T.b_list (prg_1 (by rfl) T.b_range (pe_callB (lenK (K := K)) (by rfl) T.b_len PySem.boot_len (pa_cons (pv 1) pa_nil)))) pa_nil)))
      (pss_cons (ps_set (i := 3) sc__law_right.nd rfl (Or.inl rfl) (pe_callB (lenK (K := K)) (by rfl) T.b_len PySem.boot_len (pa_cons (pe_lc (own := [("row", 8)]) (g := gName 8) rfl sc__law_right.nd (pi_listK (K := K) (pv 2)) (blkOk_by (own := [("row", 8)]) (by kernel_rfl)) (fun _ _ _ _ _ => (pg_name (i := 8) sc__law_right.nd rfl (Or.inl rfl))) (fun _ _ _ _ _ => (pts_one (pt_val (pe_callG (ok__law_path T) (hr.mono (by decide)) gu (by rfl) T.g__law_path T.F__law_path.kp T.b__law_path .nil (pa_cons (pv 1) (pa_cons (pv 8) pa_nil)))))) (fun _ _ _ _ _ => (pv 8))) pa_nil)))
      (pss_cons (ps_set (i := 4) sc__law_right.nd rfl (Or.inl rfl) (pe_callB (lenK (K := K)) (by rfl) T.b_len PySem.boot_len (pa_cons (pe_lc (own := [("row", 8)]) (g := gName 8) rfl sc__law_right.nd (pi_listK (K := K) (pv 2)) (blkOk_by (own := [("row", 8)]) (by kernel_rfl)) (fun _ _ _ _ _ => (pg_name (i := 8) sc__law_right.nd rfl (Or.inl rfl))) (fun _ _ _ _ _ => (pts_one (pt_val (pe_callG (ok__law_strict T) (hr.mono (by decide)) gu (by rfl) T.g__law_strict T.F__law_strict.kp T.b__law_strict .nil (pa_cons (pv 1) (pa_cons (pv 8) pa_nil)))))) (fun _ _ _ _ _ => (pv 8))) pa_nil)))
      (pss_cons (ps_if (PW.pt (pw_or (pt_cmpR (neK (K := K) hr.units) (pe_callG (ok_count_paths T) (hr.mono (by decide)) gu (by rfl) T.g_count_paths T.F_count_paths.kp T.b_count_paths .nil (pa_cons (pv 1) pa_nil)) (pv 3) (nomark _)) (pw_or1 (pt_cmpR (neK (K := K) hr.units) (pe_op op_modN (pe_callTy call_int1 (by rfl) T.b_int (by decide +kernel) (pa_cons (pe_op op_sub (pv 3) (pv 4)) pa_nil)) pe_int) pe_int (nomark _))))) (pss_one (ps_ret pe_bl)) pss_nil)
      (pss_cons (ps_set (i := 5) sc__law_right.nd rfl (Or.inl rfl) (pe_callG (ok__law_rule T) (hr.mono (by decide)) gu (by rfl) T.g__law_rule T.F__law_rule.kp T.b__law_rule .nil (pa_cons (pv 0) (pa_cons (pe_op op_add pe_int (pe_op op_modN (pe_callTy call_int1 (by rfl) T.b_int (by decide +kernel) (pa_cons (pe_callG (ok__law_next T) (hr.mono (by decide)) gu (by rfl) T.g__law_next T.F__law_next.kp T.b__law_next .nil (pa_cons (pv 0) pa_nil)) pa_nil)) pe_int)) pa_nil))))
      (pss_cons (ps_setLc (i := 6) (own := [("answers", 7)]) (g := gName 7) rfl sc__law_right.nd rfl rfl (sw_true rfl rfl rfl (by decide +kernel)) (pi_listK (K := K) (pv 5)) (blkOk_by (own := [("answers", 7)]) (by kernel_rfl)) (fun _ _ _ _ _ => (pg_name (i := 7) sc__law_right.nd rfl (Or.inl rfl))) (fun _ _ _ _ _ => (pts_one (pt_cmpR op_gt (bmK (K := K) (pe_bm PySem.F.plainAttrs_list PySem.F.slot_list_count PySem.F.type_list_count (lcountK (K := K)) (pv 7) (pa_cons pe_int pa_nil))) pe_int (nomark _)))) (fun _ _ _ _ _ => (pv 7)))
      (pss_one (ps_ret (pe_or (pe_cmpR (neK (K := K) hr.units) (pv 6) (pe_lst pa_nil) (nomark _)) (pe_one (pe_cmpR (eqK (K := K) hr.units) (pe_op op_modN (pe_callTy call_int1 (by rfl) T.b_int (by decide +kernel) (pa_cons (pe_callG (ok_count_paths T) (hr.mono (by decide)) gu (by rfl) T.g_count_paths T.F_count_paths.kp T.b_count_paths .nil (pa_cons (pv 5) pa_nil)) pa_nil)) pe_int) pe_int (nomark _))))))))))))), ?_⟩)
  exact def_ok (N := ["draws", "rule", "rows", "paths", "strict", "great", "ties", "answers", "row"]) (m := (mSeq (mAsg (mFz (mCall [0] m__law_rule (mCons (mVar 0) (mCons (mBin gMod (mFn gInt (mCons (mFz (mCall [0] m__law_next (mCons (mVar 0) mNil))) mNil)) (mC (.int 7))) mNil)))) (mgN 1))
    (mSeq (mAsg (mFz (mCall [] m__law_orders (mCons (mLE (mLRg1 (mFn gLen (mCons (mVar 1) mNil)))) mNil))) (mgN 2))
    (mSeq (mAsg (mFn gLen (mCons (mLE (mLc (mItL (mVar 2)) (mgN 8) (mT (mFz (mCall [] m__law_path (mCons (mVar 1) (mCons (mVar 8) mNil))))) (mVar 8) [8])) mNil)) (mgN 3))
    (mSeq (mAsg (mFn gLen (mCons (mLE (mLc (mItL (mVar 2)) (mgN 8) (mT (mFz (mCall [] m__law_strict (mCons (mVar 1) (mCons (mVar 8) mNil))))) (mVar 8) [8])) mNil)) (mgN 4))
    (mSeq (mIf (mOr (mT (mBin (gEq true) (mFz (mCall [] m_count_paths (mCons (mVar 1) mNil))) (mVar 3))) (mT (mBin (gEq true) (mBin gMod (mFn gInt (mCons (mBin (gI0 fun i j => .int (i - j)) (mVar 3) (mVar 4)) mNil)) (mC (.int 2))) (mC (.int 0))))) (mRet (mC (.bool false))) mNext)
    (mSeq (mAsg (mFz (mCall [0] m__law_rule (mCons (mVar 0) (mCons (mBin (gI0 fun i j => .int (i + j)) (mC (.int 7)) (mBin gMod (mFn gInt (mCons (mFz (mCall [0] m__law_next (mCons (mVar 0) mNil))) mNil)) (mC (.int 3)))) mNil)))) (mgN 5))
    (mSeq (mAsg (mLE (mLc (mItL (mVar 5)) (mgN 7) (mT (mBin (gI0 fun i j => .bool (decide (j < i))) (mCnt (mVar 7) (mC (.int 0))) (mC (.int 1)))) (mVar 7) [7])) (mgN 6))
    (mRet (mOrV (mBin (gEq true) (mVar 6) (mLE (mDs mNil))) (mBin (gEq false) (mBin gMod (mFn gInt (mCons (mFz (mCall [] m_count_paths (mCons (mVar 5) mNil))) mNil)) (mC (.int 2))) (mC (.int 1))))))))))))) ((rs_seq (rs_asg (re_o (ro_call (ra_cons re_var (ra_cons (re_bin (re_fn (ra_cons (re_o (ro_call (ra_cons re_var ra_nil))) ra_nil) f_int) re_int b_mod) ra_nil)))) rg_name)
      (rs_seq (rs_asg (re_o (ro_call (ra_cons (re_l (rl_rg1 (re_fn (ra_cons re_var ra_nil) f_len))) ra_nil))) rg_name)
      (rs_seq (rs_asg (re_fn (ra_cons (re_lc (ri_list re_var) rg_name (rt_B (re_o (ro_call (ra_cons re_var (ra_cons re_var ra_nil))))) re_var) ra_nil) f_len) rg_name)
      (rs_seq (rs_asg (re_fn (ra_cons (re_lc (ri_list re_var) rg_name (rt_B (re_o (ro_call (ra_cons re_var (ra_cons re_var ra_nil))))) re_var) ra_nil) f_len) rg_name)
      (rs_seq (rs_if (rt_or (rt_test (re_bin (re_o (ro_call (ra_cons re_var ra_nil))) re_var b_ne)) (rt_test (re_bin (re_bin (re_fn (ra_cons (re_bin re_var re_var b_sub) ra_nil) f_int) re_int b_mod) re_int b_ne))) (rs_ret re_bl) rs_next)
      (rs_seq (rs_asg (re_o (ro_call (ra_cons re_var (ra_cons (re_bin re_int (re_bin (re_fn (ra_cons (re_o (ro_call (ra_cons re_var ra_nil))) ra_nil) f_int) re_int b_mod) b_add) ra_nil)))) rg_name)
      (rs_seq (rs_asg (re_lc (ri_list re_var) rg_name (rt_test (re_bin (re_cnt re_var re_int) re_int b_gt)) re_var) rg_name)
      (rs_ret (re_orV (re_bin re_var (re_l (rl_lst ra_nil len_nil)) b_ne) (re_bin (re_bin (re_fn (ra_cons (re_o (ro_call (ra_cons re_var ra_nil))) ra_nil) f_int) re_int b_mod) re_int b_eq))))))))))) h
noncomputable def m_law (K : PySem.W.Frag) (ca : Nat → Addr) : MF := mDef 4 1 []
    (mSeq (mFor (mItL (mLE (mBinL gCat (mLE (mSlS K 0 mNoPart (mPart (mC (.int 6))))) (mLE (mDs (mCons (mC (.int 0)) mNil)))))) (mgN 1) (mSeq (mAsgO 2 (mCall [] m__law_draws (mCons (mVar 1) mNil)))
    (mFor (mRng1 (mCons (mC (.int 2)) mNil)) (mgN 3) (mIf (mNot (mT (mFz (mCall [0] m__law_right (mCons (mVar 2) mNil))))) (mRet (mC (.bool false))) mNext))))
    (mRet (mC (.bool true))))
theorem ok_law (T : Tx K mg ad fd w ca ia ifd) : FnG P w K mg base 7 (ad 17) (fd 17) ["script"] (spOf [] (m_law K ca)) := by
  refine okG T.F_law sc_law (fun vs H Q E h => by_len h) (fun cdv A ou s H vs Q E hr gu h => ⟨_, (pss_cons (ps_for PassesOwn.never rfl (pi_listK (K := K) (pe_op op_cat (pe_slice (slK (K := K)) (pv 0) po_none (po_some pe_int)) (pe_lst (pa_cons pe_int pa_nil)))) (pg_name (i := 1) sc_law.nd rfl (Or.inl rfl)) (pss_cons (ps_set (i := 2) sc_law.nd rfl (Or.inl rfl) (pe_callG (ok__law_draws T) (hr.mono (by decide)) gu (by rfl) T.g__law_draws T.F__law_draws.kp T.b__law_draws .nil (pa_cons (pv 1) pa_nil)))
      (pss_one (ps_for PassesOwn.never rfl (pi_range1 (by rfl) T.b_range (pa_cons pe_int pa_nil)) (pg_name (i := 3) sc_law.nd rfl (Or.inl rfl)) (pss_one (ps_if (pt_not (pt_val (pe_callG (ok__law_right T) (hr.mono (by decide)) gu (by rfl) T.g__law_right T.F__law_right.kp T.b__law_right .nil (pa_cons (pv 2) pa_nil)))) (pss_one (ps_ret pe_bl)) pss_nil))))))
      (pss_one (ps_ret pe_bl))), ?_⟩)
  exact def_ok (N := ["script", "cell", "draws", "turn"]) (m := (mSeq (mFor (mItL (mLE (mBinL gCat (mLE (mSlS K 0 mNoPart (mPart (mC (.int 6))))) (mLE (mDs (mCons (mC (.int 0)) mNil)))))) (mgN 1) (mSeq (mAsgO 2 (mCall [] m__law_draws (mCons (mVar 1) mNil)))
    (mFor (mRng1 (mCons (mC (.int 2)) mNil)) (mgN 3) (mIf (mNot (mT (mFz (mCall [0] m__law_right (mCons (mVar 2) mNil))))) (mRet (mC (.bool false))) mNext))))
    (mRet (mC (.bool true))))) ((rs_seq (rs_for (ri_list (re_l (rl_bin (re_l (rl_slS rq_none (rq_some re_int))) (re_l (rl_lst (ra_cons re_int ra_nil) (len_cons len_nil))) b_cat))) rg_name (rs_seq (rs_asgO (ro_call (ra_cons re_var ra_nil)))
      (rs_for (ri_rng1 (ra_cons re_int ra_nil)) rg_name (rs_if (rt_not (rt_B (re_o (ro_call (ra_cons re_var ra_nil))))) (rs_ret re_bl) rs_next))))
      (rs_ret re_bl))) h
end
end My
namespace My
open PySem PySem.Spec PyProof.Rows L2 Tr

open Prod (fst snd)
def t_is_whole (thing_1_ : Int) : Option Bool := some (true && (!false))
theorem tk_is_whole (thing_1_ : Int) : ∀ bb, t_is_whole thing_1_ = some bb → m_is_whole [(O.fz (encI thing_1_))] = some ((fun (bb : Bool) => (O.fz (encB bb))) bb, (fun (bb : Bool) => [(O.fz (encI thing_1_))]) bb) := by
  unfold t_is_whole m_is_whole
  refine def_T (ro := (fun (bb : Bool) => (O.fz (encB bb)))) (ios := (fun (bb : Bool) => [(O.fz (encI thing_1_))])) rfl ?_
  show SV _ [some (O.fz (encI thing_1_))] _ _
  refine sv_last ?_
  exact sv_exit (ct := (Ctl.rt (O.fz (encB (true && (!false)))))) (e := [some (O.fz (encI thing_1_))]) ((bnd_eq (a := (P.val (encB (true && (!false))))) (e := [some (O.fz (encI thing_1_))]) (oe_andV rfl rfl)).trans rfl) (fun h => nomatch h) ⟨.inl rfl, rfl⟩
def t_is_answer (thing_2_ : Int) : Option Bool := (((t_is_whole thing_2_).map fun b3_ => (b3_, ())).bind fun b6_ => if (fst b6_) = true then (fun s4_ => (some ((decide ((-(1 : Int)) ≤ thing_2_) && decide (thing_2_ ≤ (1 : Int))), ()))) (snd b6_) else some (false, (snd b6_))).map fun b5_ => (fst b5_)
theorem tk_is_answer (thing_2_ : Int) : ∀ bb, t_is_answer thing_2_ = some bb → m_is_answer [(O.fz (encI thing_2_))] = some ((fun (bb : Bool) => (O.fz (encB bb))) bb, (fun (bb : Bool) => [(O.fz (encI thing_2_))]) bb) := by
  unfold t_is_answer m_is_answer
  refine def_T (ro := (fun (bb : Bool) => (O.fz (encB bb)))) (ios := (fun (bb : Bool) => [(O.fz (encI thing_2_))])) rfl ?_
  show SV _ [some (O.fz (encI thing_2_))] _ _
  refine sv_last ?_
  exact sv_exitV (ct := fun b5_ => (Ctl.rt (O.fz (encB (fst b5_))))) (st := fun b5_ => [some (O.fz (encI thing_2_))]) (xv_VP (xv_andVV (E := (fun s4_ => [some (O.fz (encI thing_2_))])) (t2 := (fun s4_ => (some ((decide ((-(1 : Int)) ≤ thing_2_) && decide (thing_2_ ≤ (1 : Int))), ())))) (xv_map (t := (t_is_whole thing_2_)) (f := fun b3_ => (b3_, ())) (xv_VP (xv_PV' (a := [(P.val (encI thing_2_))]) (e2 := [some (O.fz (encI thing_2_))]) rfl (xo_call (tk_is_whole thing_2_) rfl rfl rfl (fun _ => rfl))) (fun b3_ => rfl))) (fun s4_ => (xv_some (oe_chain rfl rfl rfl)))) (fun b5_ => rfl)) (fun _ h => nomatch h) (fun _ => ⟨.inl rfl, rfl⟩)
def t_check_rule (rule_7_ : (List (List Int))) : Option Unit := (if (!true) = true then some (true, ()) else ((cmpT (fun a8_ => true) rule_7_).map fun b9_ => ((!(List.all b9_ id)), ()))).bind fun b10_ => if (fst b10_) = true then ((none : Option Unit)) else ((some ((List.length rule_7_ : Nat) : Int)).bind fun (size_12_ : Int) => (forN (fun (a14_ : (Int × (List Int))) (s25_ : Unit) => (if (!(decide (((List.length (snd a14_) : Nat) : Int) = size_12_))) = true then some (true, ()) else ((cmpO (fun _ => some true) (fun a29_ => (t_is_answer a29_).map fun b30_ => b30_) (snd a14_)).map fun b31_ => ((!(List.all b31_ id)), ()))).bind fun b32_ => if (fst b32_) = true then ((none : Option Unit)) else (some ())) (enL rule_7_) ()).bind fun (s25_ : Unit) => (forN (fun (a34_ : (Int × (List Int))) (s63_ : Unit) => (forN (fun (a69_ : (Int × Int)) (s76_ : Unit) => ((atI rule_7_ (fst a69_)).bind fun b80_ => (atI b80_ (fst a34_)).map fun b81_ => (b80_, b81_)).bind fun q82_ => if (!(decide ((snd a69_) = (-(snd q82_))))) = true then ((none : Option Unit)) else (some ())) (enL (snd a34_)) ()).bind fun (s76_ : Unit) => some ()) (enL rule_7_) ()).bind fun (s63_ : Unit) => some ())
theorem tk_check_rule (rule_7_ : (List (List Int))) : ∀ bb, t_check_rule rule_7_ = some bb → m_check_rule [(O.fz ((encL (encL encI)) rule_7_))] = some ((fun (bb : Unit) => (O.fz .none)) bb, (fun (bb : Unit) => [(O.fz ((encL (encL encI)) rule_7_))]) bb) := by
  unfold t_check_rule m_check_rule
  refine def_T (ro := (fun (bb : Unit) => (O.fz .none))) (ios := (fun (bb : Unit) => [(O.fz ((encL (encL encI)) rule_7_))])) rfl ?_
  show SV _ [some (O.fz ((encL (encL encI)) rule_7_)), none, none, none, none, none] _ _
  refine sv_last ?_
  refine sv_assoc ?_
  refine sv_ifV (st := fun b10_ => [some (O.fz ((encL (encL encI)) rule_7_)), none, none, none, none, none]) (xv_orP (s := ()) (E := (fun s11_ => [some (O.fz ((encL (encL encI)) rule_7_)), none, none, none, none, none])) rfl (xv_map (t := (cmpT (fun a8_ => true) rule_7_)) (f := fun b9_ => ((!(List.all b9_ id)), ())) (xv_not (xv_VP (xv_VP (xv_VP (xv_VP (xv_PV' (a := (List.map (encL encI) rule_7_)) (e2 := [some (O.fz ((encL (encL encI)) rule_7_)), none, none, none, none, none]) rfl (lc_T (en := (encL encI)) (en' := encB) (E1 := (fun a8_ => [some (O.fz ((encL (encL encI)) rule_7_)), none, none, some (O.fz ((encL encI) a8_)), none, none])) rfl (fun _ => rfl) (fun a8_ => rfl) (fun _ => rfl))) (fun b9_ => rfl)) (fun b9_ => rfl)) (fun b9_ => (oe_all rfl))) (fun b9_ => rfl))))) ?_ ?_
  · intro b10_
    exact sv_never
  · intro b10_
    refine sv_nx (e := [some (O.fz ((encL (encL encI)) rule_7_)), none, none, none, none, none]) rfl ?_
    refine sv_assoc ?_
    refine sv_nx (e := [some (O.fz ((encL (encL encI)) rule_7_)), some (O.fz (encI ((List.length rule_7_ : Nat) : Int))), none, none, none, none]) ((bnd_eq (a := (P.val (encI ((List.length rule_7_ : Nat) : Int)))) (e := [some (O.fz ((encL (encL encI)) rule_7_)), none, none, none, none, none]) ((bnd_eq (a := [(P.val ((encL (encL encI)) rule_7_))]) (e := [some (O.fz ((encL (encL encI)) rule_7_)), none, none, none, none, none]) rfl).trans (oe_len rfl))).trans rfl) ?_
    refine sv_let (v := ((List.length rule_7_ : Nat) : Int)) (E := fun (y13_ : Int) => [some (O.fz ((encL (encL encI)) rule_7_)), some (O.fz (encI y13_)), none, none, none, none]) ?_
    intro size_12_
    refine sv_assoc ?_
    refine sv_forN (en := (encT encI (encL encI))) (e := [some (O.fz ((encL (encL encI)) rule_7_)), some (O.fz (encI size_12_)), none, none, none, none]) (Q := fun (s25_ : Unit) e28_ => ∃ u26_, ∃ u27_, e28_ = [some (O.fz ((encL (encL encI)) rule_7_)), some (O.fz (encI size_12_)), u26_, u27_, none, none]) (oe_enum (p := (P.val ((encL (encL encI)) rule_7_))) (xs := rule_7_) rfl rfl) ⟨_, _, rfl⟩ ?_ ?_
    · rintro a14_ s25_ _ ⟨u26_, u27_, rfl⟩
      refine ⟨[some (O.fz ((encL (encL encI)) rule_7_)), some (O.fz (encI size_12_)), some (O.fz (encI (fst a14_))), some (O.fz ((encL encI) (snd a14_))), none, none], rfl, ?_⟩
      refine sv_last ?_
      refine sv_ifV (st := fun b32_ => [some (O.fz ((encL (encL encI)) rule_7_)), some (O.fz (encI size_12_)), some (O.fz (encI (fst a14_))), some (O.fz ((encL encI) (snd a14_))), none, none]) (xv_orP (s := ()) (E := (fun s33_ => [some (O.fz ((encL (encL encI)) rule_7_)), some (O.fz (encI size_12_)), some (O.fz (encI (fst a14_))), some (O.fz ((encL encI) (snd a14_))), none, none])) ((bnd_eq (a := (P.val (encB (!(decide (((List.length (snd a14_) : Nat) : Int) = size_12_)))))) (e := [some (O.fz ((encL (encL encI)) rule_7_)), some (O.fz (encI size_12_)), some (O.fz (encI (fst a14_))), some (O.fz ((encL encI) (snd a14_))), none, none]) ((bnd_eq (a := (P.val (encI ((List.length (snd a14_) : Nat) : Int)))) (e := [some (O.fz ((encL (encL encI)) rule_7_)), some (O.fz (encI size_12_)), some (O.fz (encI (fst a14_))), some (O.fz ((encL encI) (snd a14_))), none, none]) ((bnd_eq (a := [(P.val ((encL encI) (snd a14_)))]) (e := [some (O.fz ((encL (encL encI)) rule_7_)), some (O.fz (encI size_12_)), some (O.fz (encI (fst a14_))), some (O.fz ((encL encI) (snd a14_))), none, none]) rfl).trans (oe_len rfl))).trans ((bnd_eq (a := (P.val (encI size_12_))) (e := [some (O.fz ((encL (encL encI)) rule_7_)), some (O.fz (encI size_12_)), some (O.fz (encI (fst a14_))), some (O.fz ((encL encI) (snd a14_))), none, none]) rfl).trans (oe_eq (a := ((List.length (snd a14_) : Nat) : Int)) (b := size_12_) eo_I rfl rfl)))).trans rfl) (xv_map (t := (cmpO (fun _ => some true) (fun a29_ => (t_is_answer a29_).map fun b30_ => b30_) (snd a14_))) (f := fun b31_ => ((!(List.all b31_ id)), ())) (xv_not (xv_VP (xv_VP (xv_VP (xv_VP (xv_PV' (a := (List.map encI (snd a14_))) (e2 := [some (O.fz ((encL (encL encI)) rule_7_)), some (O.fz (encI size_12_)), some (O.fz (encI (fst a14_))), some (O.fz ((encL encI) (snd a14_))), none, none]) rfl (lc_O (en := encI) (en' := encB) (E1 := (fun a29_ => [some (O.fz ((encL (encL encI)) rule_7_)), some (O.fz (encI size_12_)), some (O.fz (encI (fst a14_))), some (O.fz ((encL encI) (snd a14_))), none, some (O.fz (encI a29_))])) rfl (fun _ => rfl) (fun _ => xv_some rfl) (fun a29_ => xv_map (xv_VP (xv_PV' (a := [(P.val (encI a29_))]) (e2 := [some (O.fz ((encL (encL encI)) rule_7_)), some (O.fz (encI size_12_)), some (O.fz (encI (fst a14_))), some (O.fz ((encL encI) (snd a14_))), none, some (O.fz (encI a29_))]) rfl (xo_call (tk_is_answer a29_) rfl rfl rfl (fun _ => rfl))) (fun b30_ => rfl))) (fun _ => rfl))) (fun b31_ => rfl)) (fun b31_ => rfl)) (fun b31_ => (oe_all rfl))) (fun b31_ => rfl))))) ?_ ?_
      · intro b32_
        exact sv_never
      · intro b32_
        refine sv_nx (e := [some (O.fz ((encL (encL encI)) rule_7_)), some (O.fz (encI size_12_)), some (O.fz (encI (fst a14_))), some (O.fz ((encL encI) (snd a14_))), none, none]) rfl ?_
        exact sv_end ⟨.inl rfl, _, _, rfl⟩
    rintro s25_ _ ⟨u26_, u27_, rfl⟩
    refine sv_forN (en := (encT encI (encL encI))) (e := [some (O.fz ((encL (encL encI)) rule_7_)), some (O.fz (encI size_12_)), u26_, u27_, none, none]) (Q := fun (s63_ : Unit) e68_ => ∃ u64_, ∃ u65_, ∃ u66_, ∃ u67_, e68_ = [some (O.fz ((encL (encL encI)) rule_7_)), some (O.fz (encI size_12_)), u64_, u65_, u66_, u67_]) (oe_enum (p := (P.val ((encL (encL encI)) rule_7_))) (xs := rule_7_) rfl rfl) ⟨_, _, _, _, rfl⟩ ?_ ?_
    · rintro a34_ s63_ _ ⟨u64_, u65_, u66_, u67_, rfl⟩
      refine ⟨[some (O.fz ((encL (encL encI)) rule_7_)), some (O.fz (encI size_12_)), some (O.fz (encI (fst a34_))), some (O.fz ((encL encI) (snd a34_))), u66_, u67_], rfl, ?_⟩
      refine sv_last ?_
      refine sv_forN (en := (encT encI encI)) (e := [some (O.fz ((encL (encL encI)) rule_7_)), some (O.fz (encI size_12_)), some (O.fz (encI (fst a34_))), some (O.fz ((encL encI) (snd a34_))), u66_, u67_]) (Q := fun (s76_ : Unit) e79_ => ∃ u77_, ∃ u78_, e79_ = [some (O.fz ((encL (encL encI)) rule_7_)), some (O.fz (encI size_12_)), some (O.fz (encI (fst a34_))), some (O.fz ((encL encI) (snd a34_))), u77_, u78_]) (oe_enum (p := (P.val ((encL encI) (snd a34_)))) (xs := (snd a34_)) rfl rfl) ⟨_, _, rfl⟩ ?_ ?_
      · rintro a69_ s76_ _ ⟨u77_, u78_, rfl⟩
        refine ⟨[some (O.fz ((encL (encL encI)) rule_7_)), some (O.fz (encI size_12_)), some (O.fz (encI (fst a34_))), some (O.fz ((encL encI) (snd a34_))), some (O.fz (encI (fst a69_))), some (O.fz (encI (snd a69_)))], rfl, ?_⟩
        refine sv_last ?_
        refine sv_ifV (st := fun q82_ => [some (O.fz ((encL (encL encI)) rule_7_)), some (O.fz (encI size_12_)), some (O.fz (encI (fst a34_))), some (O.fz ((encL encI) (snd a34_))), some (O.fz (encI (fst a69_))), some (O.fz (encI (snd a69_)))]) (xv_VP (xv_PV' (a := (P.val (encI (snd a69_)))) (e2 := [some (O.fz ((encL (encL encI)) rule_7_)), some (O.fz (encI size_12_)), some (O.fz (encI (fst a34_))), some (O.fz ((encL encI) (snd a34_))), some (O.fz (encI (fst a69_))), some (O.fz (encI (snd a69_)))]) rfl (xv_VP (xv_VP (xv_VV (t := (atI rule_7_ (fst a69_))) (t2 := fun b80_ => (atI b80_ (fst a34_))) (cv := fun q82_ => (P.val (encI (snd q82_)))) (st2 := fun q82_ => [some (O.fz ((encL (encL encI)) rule_7_)), some (O.fz (encI size_12_)), some (O.fz (encI (fst a34_))), some (O.fz ((encL encI) (snd a34_))), some (O.fz (encI (fst a69_))), some (O.fz (encI (snd a69_)))]) (xv_PV' (a := (P.val ((encL (encL encI)) rule_7_))) (e2 := [some (O.fz ((encL (encL encI)) rule_7_)), some (O.fz (encI size_12_)), some (O.fz (encI (fst a34_))), some (O.fz ((encL encI) (snd a34_))), some (O.fz (encI (fst a69_))), some (O.fz (encI (snd a69_)))]) rfl (xv_PV' (a := (P.val (encI (fst a69_)))) (e2 := [some (O.fz ((encL (encL encI)) rule_7_)), some (O.fz (encI size_12_)), some (O.fz (encI (fst a34_))), some (O.fz ((encL encI) (snd a34_))), some (O.fz (encI (fst a69_))), some (O.fz (encI (snd a69_)))]) rfl (xo_ix rfl))) (fun b80_ => (xv_PV' (a := (P.val (encI (fst a34_)))) (e2 := [some (O.fz ((encL (encL encI)) rule_7_)), some (O.fz (encI size_12_)), some (O.fz (encI (fst a34_))), some (O.fz ((encL encI) (snd a34_))), some (O.fz (encI (fst a69_))), some (O.fz (encI (snd a69_)))]) rfl (xo_ix rfl)))) (fun q82_ => rfl)) (fun q82_ => (oe_eq (a := (snd a69_)) (b := (-(snd q82_))) eo_I rfl rfl)))) (fun q82_ => rfl)) ?_ ?_
        · intro q82_
          exact sv_never
        · intro q82_
          refine sv_nx (e := [some (O.fz ((encL (encL encI)) rule_7_)), some (O.fz (encI size_12_)), some (O.fz (encI (fst a34_))), some (O.fz ((encL encI) (snd a34_))), some (O.fz (encI (fst a69_))), some (O.fz (encI (snd a69_)))]) rfl ?_
          exact sv_end ⟨.inl rfl, _, _, rfl⟩
      rintro s76_ _ ⟨u77_, u78_, rfl⟩
      exact sv_end ⟨.inl rfl, _, _, _, _, rfl⟩
    rintro s63_ _ ⟨u64_, u65_, u66_, u67_, rfl⟩
    exact sv_end ⟨.inr ⟨rfl, rfl⟩, rfl⟩
def t_may_precede (rule_83_ : (List (List Int))) (one_84_ : Int) (other_85_ : Int) : Option Bool := ((atI rule_83_ one_84_).bind fun b86_ => (atI b86_ other_85_).map fun b87_ => (b86_, b87_)).map fun q88_ => (!(decide ((snd q88_) = (1 : Int))))
theorem tk_may_precede (rule_83_ : (List (List Int))) (one_84_ : Int) (other_85_ : Int) : ∀ bb, t_may_precede rule_83_ one_84_ other_85_ = some bb → m_may_precede [(O.fz ((encL (encL encI)) rule_83_)), (O.fz (encI one_84_)), (O.fz (encI other_85_))] = some ((fun (bb : Bool) => (O.fz (encB bb))) bb, (fun (bb : Bool) => [(O.fz ((encL (encL encI)) rule_83_)), (O.fz (encI one_84_)), (O.fz (encI other_85_))]) bb) := by
  unfold t_may_precede m_may_precede
  refine def_T (ro := (fun (bb : Bool) => (O.fz (encB bb)))) (ios := (fun (bb : Bool) => [(O.fz ((encL (encL encI)) rule_83_)), (O.fz (encI one_84_)), (O.fz (encI other_85_))])) rfl ?_
  show SV _ [some (O.fz ((encL (encL encI)) rule_83_)), some (O.fz (encI one_84_)), some (O.fz (encI other_85_))] _ _
  refine sv_last ?_
  exact sv_exitV (ct := fun q88_ => (Ctl.rt (O.fz (encB (!(decide ((snd q88_) = (1 : Int)))))))) (st := fun q88_ => [some (O.fz ((encL (encL encI)) rule_83_)), some (O.fz (encI one_84_)), some (O.fz (encI other_85_))]) (xv_VP (xv_VP (xv_VV (t := (atI rule_83_ one_84_)) (t2 := fun b86_ => (atI b86_ other_85_)) (cv := fun q88_ => (P.val (encI (snd q88_)))) (st2 := fun q88_ => [some (O.fz ((encL (encL encI)) rule_83_)), some (O.fz (encI one_84_)), some (O.fz (encI other_85_))]) (xv_PV' (a := (P.val ((encL (encL encI)) rule_83_))) (e2 := [some (O.fz ((encL (encL encI)) rule_83_)), some (O.fz (encI one_84_)), some (O.fz (encI other_85_))]) rfl (xv_PV' (a := (P.val (encI one_84_))) (e2 := [some (O.fz ((encL (encL encI)) rule_83_)), some (O.fz (encI one_84_)), some (O.fz (encI other_85_))]) rfl (xo_ix rfl))) (fun b86_ => (xv_PV' (a := (P.val (encI other_85_))) (e2 := [some (O.fz ((encL (encL encI)) rule_83_)), some (O.fz (encI one_84_)), some (O.fz (encI other_85_))]) rfl (xo_ix rfl)))) (fun q88_ => ((bnd_eq (a := (P.val (encI (1 : Int)))) (e := [some (O.fz ((encL (encL encI)) rule_83_)), some (O.fz (encI one_84_)), some (O.fz (encI other_85_))]) rfl).trans (oe_eq (a := (snd q88_)) (b := (1 : Int)) eo_I rfl rfl)))) (fun q88_ => rfl)) (fun _ h => nomatch h) (fun _ => ⟨.inl rfl, rfl⟩)
def t_bit_of (item_89_ : Int) : Option Int := (shlI (1 : Int) item_89_).map fun b90_ => b90_
theorem tk_bit_of (item_89_ : Int) : ∀ bb, t_bit_of item_89_ = some bb → m_bit_of [(O.fz (encI item_89_))] = some ((fun (bb : Int) => (O.fz (encI bb))) bb, (fun (bb : Int) => [(O.fz (encI item_89_))]) bb) := by
  unfold t_bit_of m_bit_of
  refine def_T (ro := (fun (bb : Int) => (O.fz (encI bb)))) (ios := (fun (bb : Int) => [(O.fz (encI item_89_))])) rfl ?_
  show SV _ [some (O.fz (encI item_89_))] _ _
  refine sv_last ?_
  exact sv_exitV (ct := fun b90_ => (Ctl.rt (O.fz (encI b90_)))) (st := fun b90_ => [some (O.fz (encI item_89_))]) (xv_VP (xv_PV' (a := (P.val (encI (1 : Int)))) (e2 := [some (O.fz (encI item_89_))]) rfl (xv_PV' (a := (P.val (encI item_89_))) (e2 := [some (O.fz (encI item_89_))]) rfl xo_shl)) (fun b90_ => rfl)) (fun _ h => nomatch h) (fun _ => ⟨.inl rfl, rfl⟩)
def t_is_in (item_91_ : Int) (part_92_ : Int) : Option Bool := (t_bit_of item_91_).map fun b93_ => (!(decide ((Builtin.bitAnd part_92_ b93_) = (0 : Int))))
theorem tk_is_in (item_91_ : Int) (part_92_ : Int) : ∀ bb, t_is_in item_91_ part_92_ = some bb → m_is_in [(O.fz (encI item_91_)), (O.fz (encI part_92_))] = some ((fun (bb : Bool) => (O.fz (encB bb))) bb, (fun (bb : Bool) => [(O.fz (encI item_91_)), (O.fz (encI part_92_))]) bb) := by
  unfold t_is_in m_is_in
  refine def_T (ro := (fun (bb : Bool) => (O.fz (encB bb)))) (ios := (fun (bb : Bool) => [(O.fz (encI item_91_)), (O.fz (encI part_92_))])) rfl ?_
  show SV _ [some (O.fz (encI item_91_)), some (O.fz (encI part_92_))] _ _
  refine sv_last ?_
  exact sv_exitV (ct := fun b93_ => (Ctl.rt (O.fz (encB (!(decide ((Builtin.bitAnd part_92_ b93_) = (0 : Int)))))))) (st := fun b93_ => [some (O.fz (encI item_91_)), some (O.fz (encI part_92_))]) (xv_VP (xv_VP (xv_PV' (a := (P.val (encI part_92_))) (e2 := [some (O.fz (encI item_91_)), some (O.fz (encI part_92_))]) rfl (xv_VP (xv_VP (xv_PV' (a := [(P.val (encI item_91_))]) (e2 := [some (O.fz (encI item_91_)), some (O.fz (encI part_92_))]) rfl (xo_call (tk_bit_of item_91_) rfl rfl rfl (fun _ => rfl))) (fun b93_ => rfl)) (fun b93_ => rfl))) (fun b93_ => ((bnd_eq (a := (P.val (encI (0 : Int)))) (e := [some (O.fz (encI item_91_)), some (O.fz (encI part_92_))]) rfl).trans (oe_eq (a := (Builtin.bitAnd part_92_ b93_)) (b := (0 : Int)) eo_I rfl rfl)))) (fun b93_ => rfl)) (fun _ h => nomatch h) (fun _ => ⟨.inl rfl, rfl⟩)
def t_step_table (rule_94_ : (List (List Int))) : Option (List (List Int)) := ((rgN (0 : Int) ((List.length rule_94_ : Nat) : Int)).bind fun b95_ => (cmpO (fun _ => some true) (fun a96_ => ((rgN (0 : Int) ((List.length rule_94_ : Nat) : Int)).bind fun b97_ => (cmpO (fun a98_ => (if (!(decide (a98_ = a96_))) = true then ((t_may_precede rule_94_ a96_ a98_).map fun b99_ => (b99_, ())) else some (false, ())).map fun b100_ => (fst b100_)) (fun a98_ => some a98_) b97_).map fun b102_ => (b97_, b102_)).map fun q103_ => (snd q103_)) b95_).map fun b104_ => (b95_, b104_)).bind fun q105_ => (some (snd q105_)).bind fun (table_106_ : (List (List Int))) => ((rngV (0 : Int) ((List.length rule_94_ : Nat) : Int)).bind fun b108_ => (catG table_106_ [b108_]).map fun b109_ => (b108_, b109_)).map fun q110_ => (snd q110_)
theorem tk_step_table (rule_94_ : (List (List Int))) : ∀ bb, t_step_table rule_94_ = some bb → m_step_table [(O.fz ((encL (encL encI)) rule_94_))] = some ((fun (bb : (List (List Int))) => (O.fz ((encL (encL encI)) bb))) bb, (fun (bb : (List (List Int))) => [(O.fz ((encL (encL encI)) rule_94_))]) bb) := by
  unfold t_step_table m_step_table
  refine def_T (ro := (fun (bb : (List (List Int))) => (O.fz ((encL (encL encI)) bb)))) (ios := (fun (bb : (List (List Int))) => [(O.fz ((encL (encL encI)) rule_94_))])) rfl ?_
  show SV _ [some (O.fz ((encL (encL encI)) rule_94_)), none, none, none, none] _ _
  refine sv_last ?_
  refine sv_assoc ?_
  refine sv_nx (e := [some (O.fz ((encL (encL encI)) rule_94_)), some (O.rg (0 : Int) ((List.length rule_94_ : Nat) : Int)), none, none, none]) (os_rg ((bnd_eq (a := (P.val (encI ((List.length rule_94_ : Nat) : Int)))) (e := [some (O.fz ((encL (encL encI)) rule_94_)), none, none, none, none]) ((bnd_eq (a := [(P.val ((encL (encL encI)) rule_94_))]) (e := [some (O.fz ((encL (encL encI)) rule_94_)), none, none, none, none]) rfl).trans (oe_len rfl))).trans rfl) rfl) ?_
  refine sv_assoc ?_
  refine sv_V (st := fun q105_ => [some (O.fz ((encL (encL encI)) rule_94_)), some (O.rg (0 : Int) ((List.length rule_94_ : Nat) : Int)), some (O.fz ((encL (encL encI)) (snd q105_))), none, none]) (xv_VP (xv_VP (xv_VV (t := (rgN (0 : Int) ((List.length rule_94_ : Nat) : Int))) (t2 := fun b95_ => (cmpO (fun _ => some true) (fun a96_ => ((rgN (0 : Int) ((List.length rule_94_ : Nat) : Int)).bind fun b97_ => (cmpO (fun a98_ => (if (!(decide (a98_ = a96_))) = true then ((t_may_precede rule_94_ a96_ a98_).map fun b99_ => (b99_, ())) else some (false, ())).map fun b100_ => (fst b100_)) (fun a98_ => some a98_) b97_).map fun b102_ => (b97_, b102_)).map fun q103_ => (snd q103_)) b95_)) (cv := fun q105_ => (List.map (encL encI) (snd q105_))) (st2 := fun q105_ => [some (O.fz ((encL (encL encI)) rule_94_)), some (O.rg (0 : Int) ((List.length rule_94_ : Nat) : Int)), none, none, none]) (xo_rgv rfl) (fun b95_ => (lc_O (en := encI) (en' := (encL encI)) (E1 := (fun a96_ => [some (O.fz ((encL (encL encI)) rule_94_)), some (O.rg (0 : Int) ((List.length rule_94_ : Nat) : Int)), none, some (O.fz (encI a96_)), none])) rfl (fun _ => rfl) (fun _ => xv_some rfl) (fun a96_ => xv_map (xv_VP (xv_VV (t := (rgN (0 : Int) ((List.length rule_94_ : Nat) : Int))) (t2 := fun b97_ => (cmpO (fun a98_ => (if (!(decide (a98_ = a96_))) = true then ((t_may_precede rule_94_ a96_ a98_).map fun b99_ => (b99_, ())) else some (false, ())).map fun b100_ => (fst b100_)) (fun a98_ => some a98_) b97_)) (cv := fun q103_ => (List.map encI (snd q103_))) (st2 := fun q103_ => [some (O.fz ((encL (encL encI)) rule_94_)), some (O.rg (0 : Int) ((List.length rule_94_ : Nat) : Int)), none, some (O.fz (encI a96_)), none]) (xo_rgv rfl) (fun b97_ => (lc_O (en := encI) (en' := encI) (E1 := (fun a98_ => [some (O.fz ((encL (encL encI)) rule_94_)), some (O.rg (0 : Int) ((List.length rule_94_ : Nat) : Int)), none, some (O.fz (encI a96_)), some (O.fz (encI a98_))])) rfl (fun _ => rfl) (fun a98_ => xv_map (xv_andP (s := ()) (E := (fun s101_ => [some (O.fz ((encL (encL encI)) rule_94_)), some (O.rg (0 : Int) ((List.length rule_94_ : Nat) : Int)), none, some (O.fz (encI a96_)), some (O.fz (encI a98_))])) ((bnd_eq (a := (P.val (encB (!(decide (a98_ = a96_)))))) (e := [some (O.fz ((encL (encL encI)) rule_94_)), some (O.rg (0 : Int) ((List.length rule_94_ : Nat) : Int)), none, some (O.fz (encI a96_)), some (O.fz (encI a98_))]) ((bnd_eq (a := (P.val (encI a98_))) (e := [some (O.fz ((encL (encL encI)) rule_94_)), some (O.rg (0 : Int) ((List.length rule_94_ : Nat) : Int)), none, some (O.fz (encI a96_)), some (O.fz (encI a98_))]) rfl).trans ((bnd_eq (a := (P.val (encI a96_))) (e := [some (O.fz ((encL (encL encI)) rule_94_)), some (O.rg (0 : Int) ((List.length rule_94_ : Nat) : Int)), none, some (O.fz (encI a96_)), some (O.fz (encI a98_))]) rfl).trans (oe_eq (a := a98_) (b := a96_) eo_I rfl rfl)))).trans rfl) (xv_map (t := (t_may_precede rule_94_ a96_ a98_)) (f := fun b99_ => (b99_, ())) (xv_VP (xv_VP (xv_PV' (a := [(P.val ((encL (encL encI)) rule_94_)), (P.val (encI a96_)), (P.val (encI a98_))]) (e2 := [some (O.fz ((encL (encL encI)) rule_94_)), some (O.rg (0 : Int) ((List.length rule_94_ : Nat) : Int)), none, some (O.fz (encI a96_)), some (O.fz (encI a98_))]) rfl (xo_call (tk_may_precede rule_94_ a96_ a98_) rfl rfl rfl (fun _ => rfl))) (fun b99_ => rfl)) (fun b99_ => rfl))))) (fun a98_ => xv_some rfl) (fun _ => rfl)))) (fun q103_ => rfl))) (fun _ => rfl)))) (fun q105_ => rfl)) (fun q105_ => rfl)) ?_
  intro q105_
  refine sv_let (v := (snd q105_)) (E := fun (y107_ : (List (List Int))) => [some (O.fz ((encL (encL encI)) rule_94_)), some (O.rg (0 : Int) ((List.length rule_94_ : Nat) : Int)), some (O.fz ((encL (encL encI)) y107_)), none, none]) ?_
  intro table_106_
  exact sv_exitV (ct := fun q110_ => (Ctl.rt (O.fz ((encL (encL encI)) (snd q110_))))) (st := fun q110_ => [some (O.fz ((encL (encL encI)) rule_94_)), some (O.rg (0 : Int) ((List.length rule_94_ : Nat) : Int)), some (O.fz ((encL (encL encI)) table_106_)), none, none]) (xv_VP (xv_VP (xv_PV' (a := (P.val ((encL (encL encI)) table_106_))) (e2 := [some (O.fz ((encL (encL encI)) rule_94_)), some (O.rg (0 : Int) ((List.length rule_94_ : Nat) : Int)), some (O.fz ((encL (encL encI)) table_106_)), none, none]) rfl (xv_VV (t := (rngV (0 : Int) ((List.length rule_94_ : Nat) : Int))) (t2 := fun b108_ => (catG table_106_ [b108_])) (cv := fun q110_ => (List.map (encL encI) (snd q110_))) (st2 := fun q110_ => [some (O.fz ((encL (encL encI)) rule_94_)), some (O.rg (0 : Int) ((List.length rule_94_ : Nat) : Int)), some (O.fz ((encL (encL encI)) table_106_)), none, none]) (xv_VP (xv_VP (xv_VP (xv_VP (xo_lrgv rfl) (fun b108_ => rfl)) (fun b108_ => rfl)) (fun b108_ => rfl)) (fun b108_ => rfl)) (fun b108_ => (xo_cat rfl rfl)))) (fun q110_ => rfl)) (fun q110_ => rfl)) (fun _ h => nomatch h) (fun _ => ⟨.inl rfl, rfl⟩)
def t_ways_on (steps_111_ : (List (List Int))) (table_112_ : (List (List Int))) (part_113_ : Int) : Option ((List Int) × (List (List Int))) := (cmpO (fun _ => some true) (fun a114_ => (cmpO (fun a115_ => (t_is_in a115_ part_113_).map fun b116_ => b116_) (fun a115_ => (((t_bit_of a115_).bind fun b117_ => (atI table_112_ (part_113_ - b117_)).map fun b118_ => (b117_, b118_)).bind fun q119_ => (atI (snd q119_) a115_).map fun b120_ => (q119_, b120_)).map fun q121_ => (snd q121_)) a114_).map fun b122_ => (List.sum b122_)) steps_111_).map fun b123_ => (b123_, table_112_)
theorem tk_ways_on (steps_111_ : (List (List Int))) (table_112_ : (List (List Int))) (part_113_ : Int) : ∀ bb, t_ways_on steps_111_ table_112_ part_113_ = some bb → m_ways_on [(O.fz ((encL (encL encI)) steps_111_)), (O.ow (List.map (encL encI) table_112_)), (O.fz (encI part_113_))] = some ((fun (bb : ((List Int) × (List (List Int)))) => (O.fz ((encL encI) (fst bb)))) bb, (fun (bb : ((List Int) × (List (List Int)))) => [(O.fz ((encL (encL encI)) steps_111_)), (O.ow (List.map (encL encI) (snd bb))), (O.fz (encI part_113_))]) bb) := by
  unfold t_ways_on m_ways_on
  refine def_T (ro := (fun (bb : ((List Int) × (List (List Int)))) => (O.fz ((encL encI) (fst bb))))) (ios := (fun (bb : ((List Int) × (List (List Int)))) => [(O.fz ((encL (encL encI)) steps_111_)), (O.ow (List.map (encL encI) (snd bb))), (O.fz (encI part_113_))])) rfl ?_
  show SV _ [some (O.fz ((encL (encL encI)) steps_111_)), some (O.ow (List.map (encL encI) table_112_)), some (O.fz (encI part_113_)), none, none] _ _
  refine sv_last ?_
  exact sv_exitV (ct := fun b123_ => (Ctl.rt (O.fz ((encL encI) b123_)))) (st := fun b123_ => [some (O.fz ((encL (encL encI)) steps_111_)), some (O.ow (List.map (encL encI) table_112_)), some (O.fz (encI part_113_)), none, none]) (xv_VP (xv_VP (xv_PV' (a := (List.map (encL encI) steps_111_)) (e2 := [some (O.fz ((encL (encL encI)) steps_111_)), some (O.ow (List.map (encL encI) table_112_)), some (O.fz (encI part_113_)), none, none]) rfl (lc_O (en := (encL encI)) (en' := encI) (E1 := (fun a114_ => [some (O.fz ((encL (encL encI)) steps_111_)), some (O.ow (List.map (encL encI) table_112_)), some (O.fz (encI part_113_)), some (O.fz ((encL encI) a114_)), none])) rfl (fun _ => rfl) (fun _ => xv_some rfl) (fun a114_ => xv_map (xv_VP (xv_VP (xv_VP (xv_PV' (a := (List.map encI a114_)) (e2 := [some (O.fz ((encL (encL encI)) steps_111_)), some (O.ow (List.map (encL encI) table_112_)), some (O.fz (encI part_113_)), some (O.fz ((encL encI) a114_)), none]) rfl (lc_O (en := encI) (en' := encI) (E1 := (fun a115_ => [some (O.fz ((encL (encL encI)) steps_111_)), some (O.ow (List.map (encL encI) table_112_)), some (O.fz (encI part_113_)), some (O.fz ((encL encI) a114_)), some (O.fz (encI a115_))])) rfl (fun _ => rfl) (fun a115_ => xv_map (xv_VP (xv_VP (xv_PV' (a := [(P.val (encI a115_)), (P.val (encI part_113_))]) (e2 := [some (O.fz ((encL (encL encI)) steps_111_)), some (O.ow (List.map (encL encI) table_112_)), some (O.fz (encI part_113_)), some (O.fz ((encL encI) a114_)), some (O.fz (encI a115_))]) rfl (xo_call (tk_is_in a115_ part_113_) rfl rfl rfl (fun _ => rfl))) (fun b116_ => rfl)) (fun b116_ => rfl))) (fun a115_ => xv_map (xv_VV (t := ((t_bit_of a115_).bind fun b117_ => (atI table_112_ (part_113_ - b117_)).map fun b118_ => (b117_, b118_))) (t2 := fun q119_ => (atI (snd q119_) a115_)) (cv := fun q121_ => (P.val (encI (snd q121_)))) (st2 := fun q121_ => [some (O.fz ((encL (encL encI)) steps_111_)), some (O.ow (List.map (encL encI) table_112_)), some (O.fz (encI part_113_)), some (O.fz ((encL encI) a114_)), some (O.fz (encI a115_))]) (xv_PV' (a := (P.var 1)) (e2 := [some (O.fz ((encL (encL encI)) steps_111_)), some (O.ow (List.map (encL encI) table_112_)), some (O.fz (encI part_113_)), some (O.fz ((encL encI) a114_)), some (O.fz (encI a115_))]) rfl (xv_VV (t := (t_bit_of a115_)) (t2 := fun b117_ => (atI table_112_ (part_113_ - b117_))) (cv := fun q119_ => (P.val ((encL encI) (snd q119_)))) (st2 := fun q119_ => [some (O.fz ((encL (encL encI)) steps_111_)), some (O.ow (List.map (encL encI) table_112_)), some (O.fz (encI part_113_)), some (O.fz ((encL encI) a114_)), some (O.fz (encI a115_))]) (xv_PV' (a := (P.val (encI part_113_))) (e2 := [some (O.fz ((encL (encL encI)) steps_111_)), some (O.ow (List.map (encL encI) table_112_)), some (O.fz (encI part_113_)), some (O.fz ((encL encI) a114_)), some (O.fz (encI a115_))]) rfl (xv_VP (xv_VP (xv_PV' (a := [(P.val (encI a115_))]) (e2 := [some (O.fz ((encL (encL encI)) steps_111_)), some (O.ow (List.map (encL encI) table_112_)), some (O.fz (encI part_113_)), some (O.fz ((encL encI) a114_)), some (O.fz (encI a115_))]) rfl (xo_call (tk_bit_of a115_) rfl rfl rfl (fun _ => rfl))) (fun b117_ => rfl)) (fun b117_ => rfl))) (fun b117_ => (xo_ix rfl)))) (fun q119_ => (xv_PV' (a := (P.val (encI a115_))) (e2 := [some (O.fz ((encL (encL encI)) steps_111_)), some (O.ow (List.map (encL encI) table_112_)), some (O.fz (encI part_113_)), some (O.fz ((encL encI) a114_)), some (O.fz (encI a115_))]) rfl (xo_ix rfl))))) (fun _ => rfl))) (fun b122_ => rfl)) (fun b122_ => rfl)) (fun b122_ => (oe_sum rfl)))) (fun _ => rfl))) (fun b123_ => rfl)) (fun b123_ => rfl)) (fun _ h => nomatch h) (fun _ => ⟨.inl rfl, rfl⟩)
def t_ways_table (steps_124_ : (List (List Int))) : Option (List (List Int)) := (some (((List.length steps_124_ : Nat) : Int) - (1 : Int))).bind fun (size_125_ : Int) => (repG [(1 : Int)] ((List.length steps_124_ : Nat) : Int)).bind fun b127_ => (some [b127_]).bind fun (table_128_ : (List (List Int))) => ((t_bit_of size_125_).bind fun b130_ => (rng2 (1 : Int) b130_).map fun b131_ => (b130_, b131_)).bind fun q132_ => (forN (fun (a133_ : Int) (s144_ : (List (List Int))) => ((t_ways_on steps_124_ s144_ a133_).bind fun b147_ => (appG (snd b147_) (fst b147_)).map fun b148_ => (b147_, b148_)).bind fun q149_ => (some (snd q149_)).bind fun (table_150_ : (List (List Int))) => some table_150_) (snd q132_) table_128_).bind fun (table_152_ : (List (List Int))) => some table_152_
theorem tk_ways_table (steps_124_ : (List (List Int))) : ∀ bb, t_ways_table steps_124_ = some bb → m_ways_table [(O.fz ((encL (encL encI)) steps_124_))] = some ((fun (bb : (List (List Int))) => (O.fz ((encL (encL encI)) bb))) bb, (fun (bb : (List (List Int))) => [(O.fz ((encL (encL encI)) steps_124_))]) bb) := by
  unfold t_ways_table m_ways_table
  refine def_T (ro := (fun (bb : (List (List Int))) => (O.fz ((encL (encL encI)) bb)))) (ios := (fun (bb : (List (List Int))) => [(O.fz ((encL (encL encI)) steps_124_))])) rfl ?_
  show SV _ [some (O.fz ((encL (encL encI)) steps_124_)), none, none, none] _ _
  refine sv_last ?_
  refine sv_assoc ?_
  refine sv_nx (e := [some (O.fz ((encL (encL encI)) steps_124_)), some (O.fz (encI (((List.length steps_124_ : Nat) : Int) - (1 : Int)))), none, none]) ((bnd_eq (a := (P.val (encI (((List.length steps_124_ : Nat) : Int) - (1 : Int))))) (e := [some (O.fz ((encL (encL encI)) steps_124_)), none, none, none]) ((bnd_eq (a := (P.val (encI ((List.length steps_124_ : Nat) : Int)))) (e := [some (O.fz ((encL (encL encI)) steps_124_)), none, none, none]) ((bnd_eq (a := [(P.val ((encL (encL encI)) steps_124_))]) (e := [some (O.fz ((encL (encL encI)) steps_124_)), none, none, none]) rfl).trans (oe_len rfl))).trans rfl)).trans rfl) ?_
  refine sv_let (v := (((List.length steps_124_ : Nat) : Int) - (1 : Int))) (E := fun (y126_ : Int) => [some (O.fz ((encL (encL encI)) steps_124_)), some (O.fz (encI y126_)), none, none]) ?_
  intro size_125_
  refine sv_assoc ?_
  refine sv_V (st := fun b127_ => [some (O.fz ((encL (encL encI)) steps_124_)), some (O.fz (encI size_125_)), some (O.ow (List.map (encL encI) [b127_])), none]) (xv_VP (xv_VP (xv_VP (xv_VP (xv_VP (xv_PV' (a := (P.val ((encL encI) [(1 : Int)]))) (e2 := [some (O.fz ((encL (encL encI)) steps_124_)), some (O.fz (encI size_125_)), none, none]) rfl (xv_PV' (a := (P.val (encI ((List.length steps_124_ : Nat) : Int)))) (e2 := [some (O.fz ((encL (encL encI)) steps_124_)), some (O.fz (encI size_125_)), none, none]) ((bnd_eq (a := [(P.val ((encL (encL encI)) steps_124_))]) (e := [some (O.fz ((encL (encL encI)) steps_124_)), some (O.fz (encI size_125_)), none, none]) rfl).trans (oe_len rfl)) (xo_rep rfl))) (fun b127_ => rfl)) (fun b127_ => rfl)) (fun b127_ => rfl)) (fun b127_ => rfl)) (fun b127_ => rfl)) ?_
  intro b127_
  refine sv_let (v := [b127_]) (E := fun (y129_ : (List (List Int))) => [some (O.fz ((encL (encL encI)) steps_124_)), some (O.fz (encI size_125_)), some (O.ow (List.map (encL encI) y129_)), none]) ?_
  intro table_128_
  refine sv_assoc ?_
  refine sv_forNV (en := encI) (st := fun q132_ => [some (O.fz ((encL (encL encI)) steps_124_)), some (O.fz (encI size_125_)), some (O.ow (List.map (encL encI) table_128_)), none]) (Q := fun q132_ => fun (s144_ : (List (List Int))) e146_ => ∃ u145_, e146_ = [some (O.fz ((encL (encL encI)) steps_124_)), some (O.fz (encI size_125_)), some (O.ow (List.map (encL encI) s144_)), u145_]) (xv_VV (t := (t_bit_of size_125_)) (t2 := fun b130_ => (rng2 (1 : Int) b130_)) (cv := fun q132_ => (List.map encI (snd q132_))) (st2 := fun q132_ => [some (O.fz ((encL (encL encI)) steps_124_)), some (O.fz (encI size_125_)), some (O.ow (List.map (encL encI) table_128_)), none]) (xv_PV' (a := (P.val (encI (1 : Int)))) (e2 := [some (O.fz ((encL (encL encI)) steps_124_)), some (O.fz (encI size_125_)), some (O.ow (List.map (encL encI) table_128_)), none]) rfl (xv_VP (xv_VP (xv_VP (xv_PV' (a := [(P.val (encI size_125_))]) (e2 := [some (O.fz ((encL (encL encI)) steps_124_)), some (O.fz (encI size_125_)), some (O.ow (List.map (encL encI) table_128_)), none]) rfl (xo_call (tk_bit_of size_125_) rfl rfl rfl (fun _ => rfl))) (fun b130_ => rfl)) (fun b130_ => rfl)) (fun b130_ => rfl))) (fun b130_ => xo_rng2)) (fun q132_ => ⟨_, rfl⟩) ?_ ?_
  · intro q132_
    rintro a133_ s144_ _ ⟨u145_, rfl⟩
    refine ⟨[some (O.fz ((encL (encL encI)) steps_124_)), some (O.fz (encI size_125_)), some (O.ow (List.map (encL encI) s144_)), some (O.fz (encI a133_))], rfl, ?_⟩
    refine sv_last ?_
    refine sv_V (st := fun q149_ => [some (O.fz ((encL (encL encI)) steps_124_)), some (O.fz (encI size_125_)), some (O.ow (List.map (encL encI) (snd q149_))), some (O.fz (encI a133_))]) (xv_app (t := (t_ways_on steps_124_ s144_ a133_)) (en := (encL encI)) (xs := fun b147_ => (snd b147_)) (x := fun b147_ => (fst b147_)) (p := fun b147_ => (P.val ((encL encI) (fst b147_)))) ⟨_, rfl⟩ (xv_VP (xv_VP (xv_PV' (a := [(P.val ((encL (encL encI)) steps_124_)), (P.var 2), (P.val (encI a133_))]) (e2 := [some (O.fz ((encL (encL encI)) steps_124_)), some (O.fz (encI size_125_)), some (O.ow (List.map (encL encI) s144_)), some (O.fz (encI a133_))]) rfl (xo_call (tk_ways_on steps_124_ s144_ a133_) rfl rfl rfl (fun _ => rfl))) (fun b147_ => rfl)) (fun b147_ => rfl)) (fun _ => rfl) (fun _ => rfl) (fun _ => rfl)) ?_
    intro q149_
    refine sv_let (v := (snd q149_)) (E := fun (y151_ : (List (List Int))) => [some (O.fz ((encL (encL encI)) steps_124_)), some (O.fz (encI size_125_)), some (O.ow (List.map (encL encI) y151_)), some (O.fz (encI a133_))]) ?_
    intro table_150_
    exact sv_end ⟨.inl rfl, _, rfl⟩
  intro q132_
  rintro table_152_ _ ⟨u145_, rfl⟩
  exact sv_exit (ct := (Ctl.rt (O.fz ((encL (encL encI)) table_152_)))) (e := [some (O.fz ((encL (encL encI)) steps_124_)), some (O.fz (encI size_125_)), some (O.fz ((encL (encL encI)) table_152_)), u145_]) rfl (fun h => nomatch h) ⟨.inl rfl, rfl⟩
def t_count_paths (rule_153_ : (List (List Int))) : Option Int := (t_check_rule rule_153_).bind fun b154_ => ((t_step_table rule_153_).bind fun b155_ => (t_ways_table b155_).map fun b156_ => (b155_, b156_)).bind fun q157_ => (some (snd q157_)).bind fun (table_158_ : (List (List Int))) => ((atI table_158_ (-(1 : Int))).bind fun b160_ => (atI b160_ (-(1 : Int))).map fun b161_ => (b160_, b161_)).map fun q162_ => (snd q162_)
theorem tk_count_paths (rule_153_ : (List (List Int))) : ∀ bb, t_count_paths rule_153_ = some bb → m_count_paths [(O.fz ((encL (encL encI)) rule_153_))] = some ((fun (bb : Int) => (O.fz (encI bb))) bb, (fun (bb : Int) => [(O.fz ((encL (encL encI)) rule_153_))]) bb) := by
  unfold t_count_paths m_count_paths
  refine def_T (ro := (fun (bb : Int) => (O.fz (encI bb)))) (ios := (fun (bb : Int) => [(O.fz ((encL (encL encI)) rule_153_))])) rfl ?_
  show SV _ [some (O.fz ((encL (encL encI)) rule_153_)), none] _ _
  refine sv_last ?_
  refine sv_assoc ?_
  refine sv_V (st := fun b154_ => [some (O.fz ((encL (encL encI)) rule_153_)), none]) (xv_VP (xv_VP (xv_PV' (a := [(P.val ((encL (encL encI)) rule_153_))]) (e2 := [some (O.fz ((encL (encL encI)) rule_153_)), none]) rfl (xo_call (tk_check_rule rule_153_) rfl rfl rfl (fun _ => rfl))) (fun b154_ => rfl)) (fun b154_ => rfl)) ?_
  intro b154_
  refine sv_assoc ?_
  refine sv_V (st := fun q157_ => [some (O.fz ((encL (encL encI)) rule_153_)), some (O.fz ((encL (encL encI)) (snd q157_)))]) (xv_VP (xv_VP (xv_VV (t := (t_step_table rule_153_)) (t2 := fun b155_ => (t_ways_table b155_)) (cv := fun q157_ => (O.fz ((encL (encL encI)) (snd q157_)))) (st2 := fun q157_ => [some (O.fz ((encL (encL encI)) rule_153_)), none]) (xv_VP (xv_VP (xv_PV' (a := [(P.val ((encL (encL encI)) rule_153_))]) (e2 := [some (O.fz ((encL (encL encI)) rule_153_)), none]) rfl (xo_call (tk_step_table rule_153_) rfl rfl rfl (fun _ => rfl))) (fun b155_ => rfl)) (fun b155_ => rfl)) (fun b155_ => (xo_call (tk_ways_table b155_) rfl rfl rfl (fun _ => rfl)))) (fun q157_ => rfl)) (fun q157_ => rfl)) ?_
  intro q157_
  refine sv_let (v := (snd q157_)) (E := fun (y159_ : (List (List Int))) => [some (O.fz ((encL (encL encI)) rule_153_)), some (O.fz ((encL (encL encI)) y159_))]) ?_
  intro table_158_
  exact sv_exitV (ct := fun q162_ => (Ctl.rt (O.fz (encI (snd q162_))))) (st := fun q162_ => [some (O.fz ((encL (encL encI)) rule_153_)), some (O.fz ((encL (encL encI)) table_158_))]) (xv_VP (xv_VV (t := (atI table_158_ (-(1 : Int)))) (t2 := fun b160_ => (atI b160_ (-(1 : Int)))) (cv := fun q162_ => (P.val (encI (snd q162_)))) (st2 := fun q162_ => [some (O.fz ((encL (encL encI)) rule_153_)), some (O.fz ((encL (encL encI)) table_158_))]) (xv_PV' (a := (P.val ((encL (encL encI)) table_158_))) (e2 := [some (O.fz ((encL (encL encI)) rule_153_)), some (O.fz ((encL (encL encI)) table_158_))]) rfl (xv_PV' (a := (P.val (encI (-(1 : Int))))) (e2 := [some (O.fz ((encL (encL encI)) rule_153_)), some (O.fz ((encL (encL encI)) table_158_))]) rfl (xo_ix rfl))) (fun b160_ => (xv_PV' (a := (P.val (encI (-(1 : Int))))) (e2 := [some (O.fz ((encL (encL encI)) rule_153_)), some (O.fz ((encL (encL encI)) table_158_))]) rfl (xo_ix rfl)))) (fun q162_ => rfl)) (fun _ h => nomatch h) (fun _ => ⟨.inl rfl, rfl⟩)
def t__law_draws (cell_163_ : Int) : Option (Int × Int × Bool) := (((((powI (10 : Int) (60 : Int)).bind fun b164_ => (powI b164_ (60 : Int)).map fun b165_ => (b164_, b165_)).bind fun q166_ => (powI (snd q166_) (4 : Int)).map fun b167_ => (q166_, b167_)).bind fun q168_ => (modI cell_163_ (snd q168_)).map fun b169_ => (q168_, b169_)).bind fun q170_ => (powI (10 : Int) (18 : Int)).map fun b171_ => (q170_, b171_)).map fun q172_ => ((snd (fst q172_)), (0 : Int), (decide ((snd q172_) ≤ cell_163_)))
theorem tk__law_draws (cell_163_ : Int) : ∀ bb, t__law_draws cell_163_ = some bb → m__law_draws [(O.fz (encI cell_163_))] = some ((fun (bb : (Int × Int × Bool)) => (O.ow [(encI (fst bb)), (encI (fst (snd bb))), (encB (snd (snd bb)))])) bb, (fun (bb : (Int × Int × Bool)) => [(O.fz (encI cell_163_))]) bb) := by
  unfold t__law_draws m__law_draws
  refine def_T (ro := (fun (bb : (Int × Int × Bool)) => (O.ow [(encI (fst bb)), (encI (fst (snd bb))), (encB (snd (snd bb)))]))) (ios := (fun (bb : (Int × Int × Bool)) => [(O.fz (encI cell_163_))])) rfl ?_
  show SV _ [some (O.fz (encI cell_163_))] _ _
  refine sv_last ?_
  exact sv_exitV (ct := fun q172_ => (Ctl.rt (O.ow [(encI ((snd (fst q172_)), (0 : Int), (decide ((snd q172_) ≤ cell_163_))).1), (encI ((snd (fst q172_)), (0 : Int), (decide ((snd q172_) ≤ cell_163_))).2.1), (encB ((snd (fst q172_)), (0 : Int), (decide ((snd q172_) ≤ cell_163_))).2.2)]))) (st := fun q172_ => [some (O.fz (encI cell_163_))]) (xv_VP (xv_VP (xv_VP (xv_VV (t := ((((powI (10 : Int) (60 : Int)).bind fun b164_ => (powI b164_ (60 : Int)).map fun b165_ => (b164_, b165_)).bind fun q166_ => (powI (snd q166_) (4 : Int)).map fun b167_ => (q166_, b167_)).bind fun q168_ => (modI cell_163_ (snd q168_)).map fun b169_ => (q168_, b169_))) (t2 := fun q170_ => (powI (10 : Int) (18 : Int))) (cv := fun q172_ => [(P.val (encI (snd (fst q172_)))), (P.val (encI (0 : Int))), (P.val (encB (decide ((snd q172_) ≤ cell_163_))))]) (st2 := fun q172_ => [some (O.fz (encI cell_163_))]) (xv_PV' (a := (P.val (encI cell_163_))) (e2 := [some (O.fz (encI cell_163_))]) rfl (xv_VV (t := (((powI (10 : Int) (60 : Int)).bind fun b164_ => (powI b164_ (60 : Int)).map fun b165_ => (b164_, b165_)).bind fun q166_ => (powI (snd q166_) (4 : Int)).map fun b167_ => (q166_, b167_))) (t2 := fun q168_ => (modI cell_163_ (snd q168_))) (cv := fun q170_ => (P.val (encI (snd q170_)))) (st2 := fun q170_ => [some (O.fz (encI cell_163_))]) (xv_VV (t := ((powI (10 : Int) (60 : Int)).bind fun b164_ => (powI b164_ (60 : Int)).map fun b165_ => (b164_, b165_))) (t2 := fun q166_ => (powI (snd q166_) (4 : Int))) (cv := fun q168_ => (P.val (encI (snd q168_)))) (st2 := fun q168_ => [some (O.fz (encI cell_163_))]) (xv_VV (t := (powI (10 : Int) (60 : Int))) (t2 := fun b164_ => (powI b164_ (60 : Int))) (cv := fun q166_ => (P.val (encI (snd q166_)))) (st2 := fun q166_ => [some (O.fz (encI cell_163_))]) (xv_PV' (a := (P.val (encI (10 : Int)))) (e2 := [some (O.fz (encI cell_163_))]) rfl (xv_PV' (a := (P.val (encI (60 : Int)))) (e2 := [some (O.fz (encI cell_163_))]) rfl xo_pow)) (fun b164_ => (xv_PV' (a := (P.val (encI (60 : Int)))) (e2 := [some (O.fz (encI cell_163_))]) rfl xo_pow))) (fun q166_ => (xv_PV' (a := (P.val (encI (4 : Int)))) (e2 := [some (O.fz (encI cell_163_))]) rfl xo_pow))) (fun q168_ => xo_mod))) (fun q170_ => (xv_VP (xv_PV' (a := (P.val (encI (0 : Int)))) (e2 := [some (O.fz (encI cell_163_))]) rfl (xv_VP (xv_VP (xv_PV' (a := (P.val (encI cell_163_))) (e2 := [some (O.fz (encI cell_163_))]) rfl (xv_VP (xv_PV' (a := (P.val (encI (10 : Int)))) (e2 := [some (O.fz (encI cell_163_))]) rfl (xv_PV' (a := (P.val (encI (18 : Int)))) (e2 := [some (O.fz (encI cell_163_))]) rfl xo_pow)) (fun b171_ => rfl))) (fun b171_ => rfl)) (fun b171_ => rfl))) (fun b171_ => rfl)))) (fun q172_ => rfl)) (fun q172_ => rfl)) (fun q172_ => rfl)) (fun _ h => nomatch h) (fun _ => ⟨.inl rfl, rfl⟩)
def t__law_next (draws_173_ : (Int × Int × Bool)) : Option (Int × (Int × Int × Bool)) := (some ((fst draws_173_), ((fst (snd draws_173_)) + (1 : Int)), (snd (snd draws_173_)))).bind fun (draws_174_ : (Int × Int × Bool)) => (some (fst (snd draws_174_))).bind fun (k_176_ : Int) => (if (snd (snd draws_174_)) = true then (((powI (10 : Int) (6 : Int)).bind fun b178_ => (modI (fst draws_174_) b178_).map fun b179_ => (b178_, b179_)).bind fun q180_ => (some (snd q180_)).bind fun (number_181_ : Int) => ((powI (10 : Int) (6 : Int)).bind fun b183_ => (fdivI (fst draws_174_) b183_).map fun b184_ => (b183_, b184_)).bind fun q185_ => (some ((snd q185_), (fst (snd draws_174_)), (snd (snd draws_174_)))).bind fun (draws_186_ : (Int × Int × Bool)) => some (number_181_, draws_186_)) else ((((mulI k_176_ k_176_).bind fun b188_ => (mulI b188_ (7919 : Int)).map fun b189_ => (b188_, b189_)).bind fun q190_ => (mulI (((Int.fmod (fst draws_174_) (1000003 : Int)) + (snd q190_)) + k_176_) (48271 : Int)).map fun b191_ => (q190_, b191_)).bind fun q192_ => (some (Int.fmod (snd q192_) (2147483629 : Int))).bind fun (number_193_ : Int) => (mulI number_193_ number_193_).bind fun b195_ => (some (Int.fmod b195_ (2147483587 : Int))).bind fun (number_196_ : Int) => (mulI number_196_ (number_196_ + (2 : Int))).map fun b198_ => ((Int.fdiv (Int.fmod b198_ (2147483579 : Int)) (7 : Int)), draws_174_)))
theorem tk__law_next (draws_173_ : (Int × Int × Bool)) : ∀ bb, t__law_next draws_173_ = some bb → m__law_next [(O.ow [(encI (fst draws_173_)), (encI (fst (snd draws_173_))), (encB (snd (snd draws_173_)))])] = some ((fun (bb : (Int × (Int × Int × Bool))) => (O.fz (encI (fst bb)))) bb, (fun (bb : (Int × (Int × Int × Bool))) => [(O.ow [(encI (fst (snd bb))), (encI (fst (snd (snd bb)))), (encB (snd (snd (snd bb))))])]) bb) := by
  unfold t__law_next m__law_next
  refine def_T (ro := (fun (bb : (Int × (Int × Int × Bool))) => (O.fz (encI (fst bb))))) (ios := (fun (bb : (Int × (Int × Int × Bool))) => [(O.ow [(encI (fst (snd bb))), (encI (fst (snd (snd bb)))), (encB (snd (snd (snd bb))))])])) rfl ?_
  show SV _ [some (O.ow [(encI (fst draws_173_)), (encI (fst (snd draws_173_))), (encB (snd (snd draws_173_)))]), none, none] _ _
  refine sv_last ?_
  refine sv_assoc ?_
  refine sv_nx (e := [some (O.ow [(encI ((fst draws_173_), ((fst (snd draws_173_)) + (1 : Int)), (snd (snd draws_173_))).1), (encI ((fst draws_173_), ((fst (snd draws_173_)) + (1 : Int)), (snd (snd draws_173_))).2.1), (encB ((fst draws_173_), ((fst (snd draws_173_)) + (1 : Int)), (snd (snd draws_173_))).2.2)]), none, none]) rfl ?_
  refine sv_let (v := ((fst draws_173_), ((fst (snd draws_173_)) + (1 : Int)), (snd (snd draws_173_)))) (E := fun (y175_ : (Int × Int × Bool)) => [some (O.ow [(encI (fst y175_)), (encI (fst (snd y175_))), (encB (snd (snd y175_)))]), none, none]) ?_
  intro draws_174_
  refine sv_assoc ?_
  refine sv_nx (e := [some (O.ow [(encI (fst draws_174_)), (encI (fst (snd draws_174_))), (encB (snd (snd draws_174_)))]), some (O.fz (encI (fst (snd draws_174_)))), none]) rfl ?_
  refine sv_let (v := (fst (snd draws_174_))) (E := fun (y177_ : Int) => [some (O.ow [(encI (fst draws_174_)), (encI (fst (snd draws_174_))), (encB (snd (snd draws_174_)))]), some (O.fz (encI y177_)), none]) ?_
  intro k_176_
  refine sv_assoc ?_
  refine sv_if rfl ?_ ?_
  · refine sv_assoc ?_
    refine sv_V (st := fun q180_ => [some (O.ow [(encI (fst draws_174_)), (encI (fst (snd draws_174_))), (encB (snd (snd draws_174_)))]), some (O.fz (encI k_176_)), some (O.fz (encI (snd q180_)))]) (xv_VP (xv_PV' (a := (P.val (encI (fst draws_174_)))) (e2 := [some (O.ow [(encI (fst draws_174_)), (encI (fst (snd draws_174_))), (encB (snd (snd draws_174_)))]), some (O.fz (encI k_176_)), none]) rfl (xv_VV (t := (powI (10 : Int) (6 : Int))) (t2 := fun b178_ => (modI (fst draws_174_) b178_)) (cv := fun q180_ => (P.val (encI (snd q180_)))) (st2 := fun q180_ => [some (O.ow [(encI (fst draws_174_)), (encI (fst (snd draws_174_))), (encB (snd (snd draws_174_)))]), some (O.fz (encI k_176_)), none]) (xv_PV' (a := (P.val (encI (10 : Int)))) (e2 := [some (O.ow [(encI (fst draws_174_)), (encI (fst (snd draws_174_))), (encB (snd (snd draws_174_)))]), some (O.fz (encI k_176_)), none]) rfl (xv_PV' (a := (P.val (encI (6 : Int)))) (e2 := [some (O.ow [(encI (fst draws_174_)), (encI (fst (snd draws_174_))), (encB (snd (snd draws_174_)))]), some (O.fz (encI k_176_)), none]) rfl xo_pow)) (fun b178_ => xo_mod))) (fun q180_ => rfl)) ?_
    intro q180_
    refine sv_let (v := (snd q180_)) (E := fun (y182_ : Int) => [some (O.ow [(encI (fst draws_174_)), (encI (fst (snd draws_174_))), (encB (snd (snd draws_174_)))]), some (O.fz (encI k_176_)), some (O.fz (encI y182_))]) ?_
    intro number_181_
    refine sv_assoc ?_
    refine sv_V (st := fun q185_ => [some (O.ow [(encI ((snd q185_), (fst (snd draws_174_)), (snd (snd draws_174_))).1), (encI ((snd q185_), (fst (snd draws_174_)), (snd (snd draws_174_))).2.1), (encB ((snd q185_), (fst (snd draws_174_)), (snd (snd draws_174_))).2.2)]), some (O.fz (encI k_176_)), some (O.fz (encI number_181_))]) (xv_VP (xv_PV' (a := (P.val (encI (fst draws_174_)))) (e2 := [some (O.ow [(encI (fst draws_174_)), (encI (fst (snd draws_174_))), (encB (snd (snd draws_174_)))]), some (O.fz (encI k_176_)), some (O.fz (encI number_181_))]) rfl (xv_VV (t := (powI (10 : Int) (6 : Int))) (t2 := fun b183_ => (fdivI (fst draws_174_) b183_)) (cv := fun q185_ => (P.val (encI (snd q185_)))) (st2 := fun q185_ => [some (O.ow [(encI (fst draws_174_)), (encI (fst (snd draws_174_))), (encB (snd (snd draws_174_)))]), some (O.fz (encI k_176_)), some (O.fz (encI number_181_))]) (xv_PV' (a := (P.val (encI (10 : Int)))) (e2 := [some (O.ow [(encI (fst draws_174_)), (encI (fst (snd draws_174_))), (encB (snd (snd draws_174_)))]), some (O.fz (encI k_176_)), some (O.fz (encI number_181_))]) rfl (xv_PV' (a := (P.val (encI (6 : Int)))) (e2 := [some (O.ow [(encI (fst draws_174_)), (encI (fst (snd draws_174_))), (encB (snd (snd draws_174_)))]), some (O.fz (encI k_176_)), some (O.fz (encI number_181_))]) rfl xo_pow)) (fun b183_ => xo_fdiv))) (fun q185_ => rfl)) ?_
    intro q185_
    refine sv_let (v := ((snd q185_), (fst (snd draws_174_)), (snd (snd draws_174_)))) (E := fun (y187_ : (Int × Int × Bool)) => [some (O.ow [(encI (fst y187_)), (encI (fst (snd y187_))), (encB (snd (snd y187_)))]), some (O.fz (encI k_176_)), some (O.fz (encI number_181_))]) ?_
    intro draws_186_
    exact sv_exit (ct := (Ctl.rt (O.fz (encI number_181_)))) (e := [some (O.ow [(encI (fst draws_186_)), (encI (fst (snd draws_186_))), (encB (snd (snd draws_186_)))]), some (O.fz (encI k_176_)), some (O.fz (encI number_181_))]) rfl (fun h => nomatch h) ⟨.inl rfl, rfl⟩
  · refine sv_nx (e := [some (O.ow [(encI (fst draws_174_)), (encI (fst (snd draws_174_))), (encB (snd (snd draws_174_)))]), some (O.fz (encI k_176_)), none]) rfl ?_
    refine sv_assoc ?_
    refine sv_V (st := fun q192_ => [some (O.ow [(encI (fst draws_174_)), (encI (fst (snd draws_174_))), (encB (snd (snd draws_174_)))]), some (O.fz (encI k_176_)), some (O.fz (encI (Int.fmod (snd q192_) (2147483629 : Int))))]) (xv_VP (xv_VP (xv_VP (xv_VP (xv_VV (t := ((mulI k_176_ k_176_).bind fun b188_ => (mulI b188_ (7919 : Int)).map fun b189_ => (b188_, b189_))) (t2 := fun q190_ => (mulI (((Int.fmod (fst draws_174_) (1000003 : Int)) + (snd q190_)) + k_176_) (48271 : Int))) (cv := fun q192_ => (P.val (encI (snd q192_)))) (st2 := fun q192_ => [some (O.ow [(encI (fst draws_174_)), (encI (fst (snd draws_174_))), (encB (snd (snd draws_174_)))]), some (O.fz (encI k_176_)), none]) (xv_VP (xv_PV' (a := (P.val (encI (Int.fmod (fst draws_174_) (1000003 : Int))))) (e2 := [some (O.ow [(encI (fst draws_174_)), (encI (fst (snd draws_174_))), (encB (snd (snd draws_174_)))]), some (O.fz (encI k_176_)), none]) rfl (xv_VP (xv_VV (t := (mulI k_176_ k_176_)) (t2 := fun b188_ => (mulI b188_ (7919 : Int))) (cv := fun q190_ => (P.val (encI (snd q190_)))) (st2 := fun q190_ => [some (O.ow [(encI (fst draws_174_)), (encI (fst (snd draws_174_))), (encB (snd (snd draws_174_)))]), some (O.fz (encI k_176_)), none]) (xv_PV' (a := (P.val (encI k_176_))) (e2 := [some (O.ow [(encI (fst draws_174_)), (encI (fst (snd draws_174_))), (encB (snd (snd draws_174_)))]), some (O.fz (encI k_176_)), none]) rfl (xv_PV' (a := (P.val (encI k_176_))) (e2 := [some (O.ow [(encI (fst draws_174_)), (encI (fst (snd draws_174_))), (encB (snd (snd draws_174_)))]), some (O.fz (encI k_176_)), none]) rfl xo_mul)) (fun b188_ => (xv_PV' (a := (P.val (encI (7919 : Int)))) (e2 := [some (O.ow [(encI (fst draws_174_)), (encI (fst (snd draws_174_))), (encB (snd (snd draws_174_)))]), some (O.fz (encI k_176_)), none]) rfl xo_mul))) (fun q190_ => rfl))) (fun q190_ => rfl)) (fun q190_ => (xv_PV' (a := (P.val (encI (48271 : Int)))) (e2 := [some (O.ow [(encI (fst draws_174_)), (encI (fst (snd draws_174_))), (encB (snd (snd draws_174_)))]), some (O.fz (encI k_176_)), none]) rfl xo_mul))) (fun q192_ => rfl)) (fun q192_ => rfl)) (fun q192_ => rfl)) (fun q192_ => rfl)) ?_
    intro q192_
    refine sv_let (v := (Int.fmod (snd q192_) (2147483629 : Int))) (E := fun (y194_ : Int) => [some (O.ow [(encI (fst draws_174_)), (encI (fst (snd draws_174_))), (encB (snd (snd draws_174_)))]), some (O.fz (encI k_176_)), some (O.fz (encI y194_))]) ?_
    intro number_193_
    refine sv_assoc ?_
    refine sv_V (st := fun b195_ => [some (O.ow [(encI (fst draws_174_)), (encI (fst (snd draws_174_))), (encB (snd (snd draws_174_)))]), some (O.fz (encI k_176_)), some (O.fz (encI (Int.fmod b195_ (2147483587 : Int))))]) (xv_VP (xv_VP (xv_VP (xv_VP (xv_PV' (a := (P.val (encI number_193_))) (e2 := [some (O.ow [(encI (fst draws_174_)), (encI (fst (snd draws_174_))), (encB (snd (snd draws_174_)))]), some (O.fz (encI k_176_)), some (O.fz (encI number_193_))]) rfl (xv_PV' (a := (P.val (encI number_193_))) (e2 := [some (O.ow [(encI (fst draws_174_)), (encI (fst (snd draws_174_))), (encB (snd (snd draws_174_)))]), some (O.fz (encI k_176_)), some (O.fz (encI number_193_))]) rfl xo_mul)) (fun b195_ => rfl)) (fun b195_ => rfl)) (fun b195_ => rfl)) (fun b195_ => rfl)) ?_
    intro b195_
    refine sv_let (v := (Int.fmod b195_ (2147483587 : Int))) (E := fun (y197_ : Int) => [some (O.ow [(encI (fst draws_174_)), (encI (fst (snd draws_174_))), (encB (snd (snd draws_174_)))]), some (O.fz (encI k_176_)), some (O.fz (encI y197_))]) ?_
    intro number_196_
    exact sv_exitV (ct := fun b198_ => (Ctl.rt (O.fz (encI (Int.fdiv (Int.fmod b198_ (2147483579 : Int)) (7 : Int)))))) (st := fun b198_ => [some (O.ow [(encI (fst draws_174_)), (encI (fst (snd draws_174_))), (encB (snd (snd draws_174_)))]), some (O.fz (encI k_176_)), some (O.fz (encI number_196_))]) (xv_VP (xv_VP (xv_VP (xv_VP (xv_VP (xv_PV' (a := (P.val (encI number_196_))) (e2 := [some (O.ow [(encI (fst draws_174_)), (encI (fst (snd draws_174_))), (encB (snd (snd draws_174_)))]), some (O.fz (encI k_176_)), some (O.fz (encI number_196_))]) rfl (xv_PV' (a := (P.val (encI (number_196_ + (2 : Int))))) (e2 := [some (O.ow [(encI (fst draws_174_)), (encI (fst (snd draws_174_))), (encB (snd (snd draws_174_)))]), some (O.fz (encI k_176_)), some (O.fz (encI number_196_))]) rfl xo_mul)) (fun b198_ => rfl)) (fun b198_ => rfl)) (fun b198_ => rfl)) (fun b198_ => rfl)) (fun b198_ => rfl)) (fun _ h => nomatch h) (fun _ => ⟨.inl rfl, rfl⟩)
def t__law_rule (draws_199_ : (Int × Int × Bool)) (size_200_ : Int) : Option ((List (List Int)) × (Int × Int × Bool)) := (t__law_next draws_199_).bind fun b201_ => (some (Int.fmod (fst b201_) (6 : Int))).bind fun (kind_202_ : Int) => (some (snd b201_)).bind fun (draws_204_ : (Int × Int × Bool)) => ((rng1 size_200_).bind fun b206_ => (cmpO (fun _ => some true) (fun a207_ => (repG [(0 : Int)] size_200_).map fun b208_ => b208_) b206_).map fun b209_ => (b206_, b209_)).bind fun q210_ => (some (snd q210_)).bind fun (told_211_ : (List (List Int))) => ((rng1 size_200_).bind fun b213_ => (cmpG (fun a214_ s218_ => (some (true, s218_))) (fun a214_ s218_ => (((t__law_next s218_).bind fun b219_ => (modI (fst b219_) (size_200_ + (3 : Int))).map fun b220_ => (b219_, b220_)).map fun q221_ => ((snd q221_), (snd (fst q221_))))) b213_ draws_204_).map fun b222_ => (b213_, b222_)).bind fun q223_ => (some (fst (snd q223_))).bind fun (worths_224_ : (List Int)) => (some (snd (snd q223_))).bind fun (draws_226_ : (Int × Int × Bool)) => (rng1 size_200_).bind fun b228_ => (forN (fun (a229_ : Int) (s1172_ : ((Int × Int × Bool) × (List (List Int)))) => (some (fst s1172_)).bind fun (draws_1178_ : (Int × Int × Bool)) => (some (snd s1172_)).bind fun (told_1180_ : (List (List Int))) => (rng2 (a229_ + (1 : Int)) size_200_).bind fun b1182_ => (forN (fun (a1183_ : Int) (s1488_ : ((Int × Int × Bool) × (List (List Int)))) => (some (fst s1488_)).bind fun (draws_1493_ : (Int × Int × Bool)) => (some (snd s1488_)).bind fun (told_1495_ : (List (List Int))) => (t__law_next draws_1493_).bind fun b1497_ => (some ((Int.fmod (fst b1497_) (3 : Int)) - (1 : Int))).bind fun (answer_1498_ : Int) => (some (snd b1497_)).bind fun (draws_1500_ : (Int × Int × Bool)) => (if (decide (kind_202_ < (2 : Int))) = true then (((t__law_next draws_1500_).bind fun b1570_ => (atI [(-(1 : Int)), (1 : Int)] (Int.fmod (fst b1570_) (2 : Int))).map fun b1571_ => (b1570_, b1571_)).bind fun q1572_ => (some (snd q1572_)).bind fun (answer_1573_ : Int) => (some (snd (fst q1572_))).bind fun (draws_1575_ : (Int × Int × Bool)) => some (draws_1575_, answer_1573_)) else ((if (decide (kind_202_ < (5 : Int))) = true then (((atI worths_224_ a229_).bind fun b1604_ => (atI worths_224_ a1183_).map fun b1605_ => (b1604_, b1605_)).bind fun q1606_ => (some (if (decide ((kind_202_ - (3 : Int)) < (if ((fst q1606_) - (snd q1606_)) < 0 then -((fst q1606_) - (snd q1606_)) else ((fst q1606_) - (snd q1606_))))) = true then (1 : Int) else 0)).bind fun (near_1607_ : Int) => ((((atI worths_224_ a229_).bind fun b1609_ => (atI worths_224_ a1183_).map fun b1610_ => (b1609_, b1610_)).bind fun q1611_ => (mulI (2 : Int) (if (decide ((fst q1611_) < (snd q1611_))) = true then (1 : Int) else 0)).map fun b1612_ => (q1611_, b1612_)).bind fun q1613_ => (mulI ((1 : Int) - (snd q1613_)) near_1607_).map fun b1614_ => (q1613_, b1614_)).bind fun q1615_ => (some (snd q1615_)).bind fun (answer_1616_ : Int) => ((if (decide (kind_202_ = (3 : Int))) = true then ((t__law_next draws_1500_).map fun b1618_ => ((decide ((Int.fmod (fst b1618_) (7 : Int)) = (0 : Int))), (snd b1618_))) else some (false, draws_1500_)).bind fun b1619_ => if (fst b1619_) = true then ((some (-answer_1616_)).bind fun (answer_1623_ : Int) => some ((snd b1619_), answer_1623_)) else (some ((snd b1619_), answer_1616_))).bind fun (s1625_ : ((Int × Int × Bool) × Int)) => (some (fst s1625_)).bind fun (draws_1627_ : (Int × Int × Bool)) => (some (snd s1625_)).bind fun (answer_1629_ : Int) => some (draws_1627_, answer_1629_)) else (some (draws_1500_, answer_1498_))).bind fun (s1631_ : ((Int × Int × Bool) × Int)) => (some (fst s1631_)).bind fun (draws_1634_ : (Int × Int × Bool)) => (some (snd s1631_)).bind fun (answer_1636_ : Int) => some (draws_1634_, answer_1636_))).bind fun (s1638_ : ((Int × Int × Bool) × Int)) => (some (fst s1638_)).bind fun (draws_1641_ : (Int × Int × Bool)) => (some (snd s1638_)).bind fun (answer_1643_ : Int) => (set2G told_1495_ a229_ a1183_ answer_1643_).bind fun told_1646_ => (set2G told_1646_ a1183_ a229_ (-answer_1643_)).bind fun told_1648_ => some (draws_1641_, told_1648_)) b1182_ (draws_1178_, told_1180_)).bind fun (s1488_ : ((Int × Int × Bool) × (List (List Int)))) => (some (fst s1488_)).bind fun (draws_1649_ : (Int × Int × Bool)) => (some (snd s1488_)).bind fun (told_1651_ : (List (List Int))) => some (draws_1649_, told_1651_)) b228_ (draws_226_, told_211_)).bind fun (s1172_ : ((Int × Int × Bool) × (List (List Int)))) => (some (fst s1172_)).bind fun (draws_1653_ : (Int × Int × Bool)) => (some (snd s1172_)).bind fun (told_1655_ : (List (List Int))) => some (told_1655_, draws_1653_)
theorem tk__law_rule (draws_199_ : (Int × Int × Bool)) (size_200_ : Int) : ∀ bb, t__law_rule draws_199_ size_200_ = some bb → m__law_rule [(O.ow [(encI (fst draws_199_)), (encI (fst (snd draws_199_))), (encB (snd (snd draws_199_)))]), (O.fz (encI size_200_))] = some ((fun (bb : ((List (List Int)) × (Int × Int × Bool))) => (O.fz ((encL (encL encI)) (fst bb)))) bb, (fun (bb : ((List (List Int)) × (Int × Int × Bool))) => [(O.ow [(encI (fst (snd bb))), (encI (fst (snd (snd bb)))), (encB (snd (snd (snd bb))))]), (O.fz (encI size_200_))]) bb) := by
  unfold t__law_rule m__law_rule
  refine def_T (ro := (fun (bb : ((List (List Int)) × (Int × Int × Bool))) => (O.fz ((encL (encL encI)) (fst bb))))) (ios := (fun (bb : ((List (List Int)) × (Int × Int × Bool))) => [(O.ow [(encI (fst (snd bb))), (encI (fst (snd (snd bb)))), (encB (snd (snd (snd bb))))]), (O.fz (encI size_200_))])) rfl ?_
  show SV _ [some (O.ow [(encI (fst draws_199_)), (encI (fst (snd draws_199_))), (encB (snd (snd draws_199_)))]), some (O.fz (encI size_200_)), none, none, none, none, none, none, none, none] _ _
  refine sv_last ?_
  refine sv_assoc ?_
  refine sv_V (st := fun b201_ => [some (O.ow [(encI (fst (snd b201_))), (encI (fst (snd (snd b201_)))), (encB (snd (snd (snd b201_))))]), some (O.fz (encI size_200_)), some (O.fz (encI (Int.fmod (fst b201_) (6 : Int)))), none, none, none, none, none, none, none]) (xv_VP (xv_VP (xv_VP (xv_VP (xv_VP (xv_PV' (a := [(P.var 0)]) (e2 := [some (O.ow [(encI (fst draws_199_)), (encI (fst (snd draws_199_))), (encB (snd (snd draws_199_)))]), some (O.fz (encI size_200_)), none, none, none, none, none, none, none, none]) rfl (xo_call (tk__law_next draws_199_) rfl rfl rfl (fun _ => rfl))) (fun b201_ => rfl)) (fun b201_ => rfl)) (fun b201_ => rfl)) (fun b201_ => rfl)) (fun b201_ => rfl)) ?_
  intro b201_
  refine sv_let (v := (Int.fmod (fst b201_) (6 : Int))) (E := fun (y203_ : Int) => [some (O.ow [(encI (fst (snd b201_))), (encI (fst (snd (snd b201_)))), (encB (snd (snd (snd b201_))))]), some (O.fz (encI size_200_)), some (O.fz (encI y203_)), none, none, none, none, none, none, none]) ?_
  intro kind_202_
  refine sv_let (v := (snd b201_)) (E := fun (y205_ : (Int × Int × Bool)) => [some (O.ow [(encI (fst y205_)), (encI (fst (snd y205_))), (encB (snd (snd y205_)))]), some (O.fz (encI size_200_)), some (O.fz (encI kind_202_)), none, none, none, none, none, none, none]) ?_
  intro draws_204_
  refine sv_assoc ?_
  refine sv_V (st := fun q210_ => [some (O.ow [(encI (fst draws_204_)), (encI (fst (snd draws_204_))), (encB (snd (snd draws_204_)))]), some (O.fz (encI size_200_)), some (O.fz (encI kind_202_)), some (O.ow2 (List.map (fun r => List.map encI r) (snd q210_))), none, none, none, none, none, none]) (xv_VP (xv_VV (t := (rng1 size_200_)) (t2 := fun b206_ => (cmpO (fun _ => some true) (fun a207_ => (repG [(0 : Int)] size_200_).map fun b208_ => b208_) b206_)) (cv := fun q210_ => (O.ow2 (List.map (fun r => List.map encI r) (snd q210_)))) (st2 := fun q210_ => [some (O.ow [(encI (fst draws_204_)), (encI (fst (snd draws_204_))), (encB (snd (snd draws_204_)))]), some (O.fz (encI size_200_)), some (O.fz (encI kind_202_)), none, none, none, none, none, none, none]) (xv_PV' (a := [(P.val (encI size_200_))]) (e2 := [some (O.ow [(encI (fst draws_204_)), (encI (fst (snd draws_204_))), (encB (snd (snd draws_204_)))]), some (O.fz (encI size_200_)), some (O.fz (encI kind_202_)), none, none, none, none, none, none, none]) rfl xo_rng1) (fun b206_ => (lc_2 (en := encI) (en' := encI) (E1 := (fun a207_ => [some (O.ow [(encI (fst draws_204_)), (encI (fst (snd draws_204_))), (encB (snd (snd draws_204_)))]), some (O.fz (encI size_200_)), some (O.fz (encI kind_202_)), none, none, none, none, some (O.fz (encI a207_)), none, none])) rfl (fun _ => rfl) (fun a207_ => xv_map (xv_VP (xv_PV' (a := (P.val ((encL encI) [(0 : Int)]))) (e2 := [some (O.ow [(encI (fst draws_204_)), (encI (fst (snd draws_204_))), (encB (snd (snd draws_204_)))]), some (O.fz (encI size_200_)), some (O.fz (encI kind_202_)), none, none, none, none, some (O.fz (encI a207_)), none, none]) rfl (xv_PV' (a := (P.val (encI size_200_))) (e2 := [some (O.ow [(encI (fst draws_204_)), (encI (fst (snd draws_204_))), (encB (snd (snd draws_204_)))]), some (O.fz (encI size_200_)), some (O.fz (encI kind_202_)), none, none, none, none, some (O.fz (encI a207_)), none, none]) rfl (xo_rep rfl))) (fun b208_ => rfl))) (fun _ => rfl)))) (fun q210_ => rfl)) ?_
  intro q210_
  refine sv_let (v := (snd q210_)) (E := fun (y212_ : (List (List Int))) => [some (O.ow [(encI (fst draws_204_)), (encI (fst (snd draws_204_))), (encB (snd (snd draws_204_)))]), some (O.fz (encI size_200_)), some (O.fz (encI kind_202_)), some (O.ow2 (List.map (fun r => List.map encI r) y212_)), none, none, none, none, none, none]) ?_
  intro told_211_
  refine sv_assoc ?_
  refine sv_V (st := fun q223_ => [some (O.ow [(encI (fst (snd (snd q223_)))), (encI (fst (snd (snd (snd q223_))))), (encB (snd (snd (snd (snd q223_)))))]), some (O.fz (encI size_200_)), some (O.fz (encI kind_202_)), some (O.ow2 (List.map (fun r => List.map encI r) told_211_)), some (O.fz ((encL encI) (fst (snd q223_)))), none, none, none, none, none]) (xv_VP (xv_VP (xv_VV (t := (rng1 size_200_)) (t2 := fun b213_ => (cmpG (fun a214_ s218_ => (some (true, s218_))) (fun a214_ s218_ => (((t__law_next s218_).bind fun b219_ => (modI (fst b219_) (size_200_ + (3 : Int))).map fun b220_ => (b219_, b220_)).map fun q221_ => ((snd q221_), (snd (fst q221_))))) b213_ draws_204_)) (cv := fun q223_ => (List.map encI (fst (snd q223_)))) (st2 := fun q223_ => [some (O.ow [(encI (fst (snd (snd q223_)))), (encI (fst (snd (snd (snd q223_))))), (encB (snd (snd (snd (snd q223_)))))]), some (O.fz (encI size_200_)), some (O.fz (encI kind_202_)), some (O.ow2 (List.map (fun r => List.map encI r) told_211_)), none, none, none, none, none, none]) (xv_PV' (a := [(P.val (encI size_200_))]) (e2 := [some (O.ow [(encI (fst draws_204_)), (encI (fst (snd draws_204_))), (encB (snd (snd draws_204_)))]), some (O.fz (encI size_200_)), some (O.fz (encI kind_202_)), some (O.ow2 (List.map (fun r => List.map encI r) told_211_)), none, none, none, none, none, none]) rfl xo_rng1) (fun b213_ => (lc_G (en := encI) (en' := encI) (E := (fun s218_ => [some (O.ow [(encI (fst s218_)), (encI (fst (snd s218_))), (encB (snd (snd s218_)))]), some (O.fz (encI size_200_)), some (O.fz (encI kind_202_)), some (O.ow2 (List.map (fun r => List.map encI r) told_211_)), none, none, none, none, none, none])) (E1 := (fun a214_ s218_ => [some (O.ow [(encI (fst s218_)), (encI (fst (snd s218_))), (encB (snd (snd s218_)))]), some (O.fz (encI size_200_)), some (O.fz (encI kind_202_)), some (O.ow2 (List.map (fun r => List.map encI r) told_211_)), none, none, none, some (O.fz (encI a214_)), none, none])) (cond := fun a214_ s218_ => (some (true, s218_))) (elt := fun a214_ s218_ => (((t__law_next s218_).bind fun b219_ => (modI (fst b219_) (size_200_ + (3 : Int))).map fun b220_ => (b219_, b220_)).map fun q221_ => ((snd q221_), (snd (fst q221_))))) rfl (fun _ _ => rfl) (fun a214_ s218_ => (xv_some rfl)) (fun a214_ s218_ => (xv_map (t := ((t__law_next s218_).bind fun b219_ => (modI (fst b219_) (size_200_ + (3 : Int))).map fun b220_ => (b219_, b220_))) (f := fun q221_ => ((snd q221_), (snd (fst q221_)))) (xv_VV (t := (t__law_next s218_)) (t2 := fun b219_ => (modI (fst b219_) (size_200_ + (3 : Int)))) (cv := fun q221_ => (P.val (encI (snd q221_)))) (st2 := fun q221_ => [some (O.ow [(encI (fst (snd (fst q221_)))), (encI (fst (snd (snd (fst q221_))))), (encB (snd (snd (snd (fst q221_)))))]), some (O.fz (encI size_200_)), some (O.fz (encI kind_202_)), some (O.ow2 (List.map (fun r => List.map encI r) told_211_)), none, none, none, some (O.fz (encI a214_)), none, none]) (xv_VP (xv_VP (xv_VP (xv_PV' (a := [(P.var 0)]) (e2 := [some (O.ow [(encI (fst s218_)), (encI (fst (snd s218_))), (encB (snd (snd s218_)))]), some (O.fz (encI size_200_)), some (O.fz (encI kind_202_)), some (O.ow2 (List.map (fun r => List.map encI r) told_211_)), none, none, none, some (O.fz (encI a214_)), none, none]) rfl (xo_call (tk__law_next s218_) rfl rfl rfl (fun _ => rfl))) (fun b219_ => rfl)) (fun b219_ => rfl)) (fun b219_ => rfl)) (fun b219_ => (xv_PV' (a := (P.val (encI (size_200_ + (3 : Int))))) (e2 := [some (O.ow [(encI (fst (snd b219_))), (encI (fst (snd (snd b219_)))), (encB (snd (snd (snd b219_))))]), some (O.fz (encI size_200_)), some (O.fz (encI kind_202_)), some (O.ow2 (List.map (fun r => List.map encI r) told_211_)), none, none, none, some (O.fz (encI a214_)), none, none]) rfl xo_mod))))) (fun _ _ => rfl)))) (fun q223_ => rfl)) (fun q223_ => rfl)) ?_
  intro q223_
  refine sv_let (v := (fst (snd q223_))) (E := fun (y225_ : (List Int)) => [some (O.ow [(encI (fst (snd (snd q223_)))), (encI (fst (snd (snd (snd q223_))))), (encB (snd (snd (snd (snd q223_)))))]), some (O.fz (encI size_200_)), some (O.fz (encI kind_202_)), some (O.ow2 (List.map (fun r => List.map encI r) told_211_)), some (O.fz ((encL encI) y225_)), none, none, none, none, none]) ?_
  intro worths_224_
  refine sv_let (v := (snd (snd q223_))) (E := fun (y227_ : (Int × Int × Bool)) => [some (O.ow [(encI (fst y227_)), (encI (fst (snd y227_))), (encB (snd (snd y227_)))]), some (O.fz (encI size_200_)), some (O.fz (encI kind_202_)), some (O.ow2 (List.map (fun r => List.map encI r) told_211_)), some (O.fz ((encL encI) worths_224_)), none, none, none, none, none]) ?_
  intro draws_226_
  refine sv_assoc ?_
  refine sv_forNV (en := encI) (st := fun b228_ => [some (O.ow [(encI (fst draws_226_)), (encI (fst (snd draws_226_))), (encB (snd (snd draws_226_)))]), some (O.fz (encI size_200_)), some (O.fz (encI kind_202_)), some (O.ow2 (List.map (fun r => List.map encI r) told_211_)), some (O.fz ((encL encI) worths_224_)), none, none, none, none, none]) (Q := fun b228_ => fun (s1172_ : ((Int × Int × Bool) × (List (List Int)))) e1177_ => ∃ u1173_, ∃ u1174_, ∃ u1175_, ∃ u1176_, e1177_ = [some (O.ow [(encI (fst (fst s1172_))), (encI (fst (snd (fst s1172_)))), (encB (snd (snd (fst s1172_))))]), some (O.fz (encI size_200_)), some (O.fz (encI kind_202_)), some (O.ow2 (List.map (fun r => List.map encI r) (snd s1172_))), some (O.fz ((encL encI) worths_224_)), u1173_, u1174_, none, u1175_, u1176_]) (xv_PV' (a := [(P.val (encI size_200_))]) (e2 := [some (O.ow [(encI (fst draws_226_)), (encI (fst (snd draws_226_))), (encB (snd (snd draws_226_)))]), some (O.fz (encI size_200_)), some (O.fz (encI kind_202_)), some (O.ow2 (List.map (fun r => List.map encI r) told_211_)), some (O.fz ((encL encI) worths_224_)), none, none, none, none, none]) rfl xo_rng1) (fun b228_ => ⟨_, _, _, _, rfl⟩) ?_ ?_
  · intro b228_
    rintro a229_ s1172_ _ ⟨u1173_, u1174_, u1175_, u1176_, rfl⟩
    refine ⟨[some (O.ow [(encI (fst (fst s1172_))), (encI (fst (snd (fst s1172_)))), (encB (snd (snd (fst s1172_))))]), some (O.fz (encI size_200_)), some (O.fz (encI kind_202_)), some (O.ow2 (List.map (fun r => List.map encI r) (snd s1172_))), some (O.fz ((encL encI) worths_224_)), some (O.fz (encI a229_)), u1174_, none, u1175_, u1176_], rfl, ?_⟩
    refine sv_last ?_
    refine sv_let (v := (fst s1172_)) (E := fun (y1179_ : (Int × Int × Bool)) => [some (O.ow [(encI (fst y1179_)), (encI (fst (snd y1179_))), (encB (snd (snd y1179_)))]), some (O.fz (encI size_200_)), some (O.fz (encI kind_202_)), some (O.ow2 (List.map (fun r => List.map encI r) (snd s1172_))), some (O.fz ((encL encI) worths_224_)), some (O.fz (encI a229_)), u1174_, none, u1175_, u1176_]) ?_
    intro draws_1178_
    refine sv_let (v := (snd s1172_)) (E := fun (y1181_ : (List (List Int))) => [some (O.ow [(encI (fst draws_1178_)), (encI (fst (snd draws_1178_))), (encB (snd (snd draws_1178_)))]), some (O.fz (encI size_200_)), some (O.fz (encI kind_202_)), some (O.ow2 (List.map (fun r => List.map encI r) y1181_)), some (O.fz ((encL encI) worths_224_)), some (O.fz (encI a229_)), u1174_, none, u1175_, u1176_]) ?_
    intro told_1180_
    refine sv_forNV (en := encI) (st := fun b1182_ => [some (O.ow [(encI (fst draws_1178_)), (encI (fst (snd draws_1178_))), (encB (snd (snd draws_1178_)))]), some (O.fz (encI size_200_)), some (O.fz (encI kind_202_)), some (O.ow2 (List.map (fun r => List.map encI r) told_1180_)), some (O.fz ((encL encI) worths_224_)), some (O.fz (encI a229_)), u1174_, none, u1175_, u1176_]) (Q := fun b1182_ => fun (s1488_ : ((Int × Int × Bool) × (List (List Int)))) e1492_ => ∃ u1489_, ∃ u1490_, ∃ u1491_, e1492_ = [some (O.ow [(encI (fst (fst s1488_))), (encI (fst (snd (fst s1488_)))), (encB (snd (snd (fst s1488_))))]), some (O.fz (encI size_200_)), some (O.fz (encI kind_202_)), some (O.ow2 (List.map (fun r => List.map encI r) (snd s1488_))), some (O.fz ((encL encI) worths_224_)), some (O.fz (encI a229_)), u1489_, none, u1490_, u1491_]) (xv_PV' (a := [(P.val (encI (a229_ + (1 : Int)))), (P.val (encI size_200_))]) (e2 := [some (O.ow [(encI (fst draws_1178_)), (encI (fst (snd draws_1178_))), (encB (snd (snd draws_1178_)))]), some (O.fz (encI size_200_)), some (O.fz (encI kind_202_)), some (O.ow2 (List.map (fun r => List.map encI r) told_1180_)), some (O.fz ((encL encI) worths_224_)), some (O.fz (encI a229_)), u1174_, none, u1175_, u1176_]) rfl xo_rng2) (fun b1182_ => ⟨_, _, _, rfl⟩) ?_ ?_
    · intro b1182_
      rintro a1183_ s1488_ _ ⟨u1489_, u1490_, u1491_, rfl⟩
      refine ⟨[some (O.ow [(encI (fst (fst s1488_))), (encI (fst (snd (fst s1488_)))), (encB (snd (snd (fst s1488_))))]), some (O.fz (encI size_200_)), some (O.fz (encI kind_202_)), some (O.ow2 (List.map (fun r => List.map encI r) (snd s1488_))), some (O.fz ((encL encI) worths_224_)), some (O.fz (encI a229_)), some (O.fz (encI a1183_)), none, u1490_, u1491_], rfl, ?_⟩
      refine sv_last ?_
      refine sv_let (v := (fst s1488_)) (E := fun (y1494_ : (Int × Int × Bool)) => [some (O.ow [(encI (fst y1494_)), (encI (fst (snd y1494_))), (encB (snd (snd y1494_)))]), some (O.fz (encI size_200_)), some (O.fz (encI kind_202_)), some (O.ow2 (List.map (fun r => List.map encI r) (snd s1488_))), some (O.fz ((encL encI) worths_224_)), some (O.fz (encI a229_)), some (O.fz (encI a1183_)), none, u1490_, u1491_]) ?_
      intro draws_1493_
      refine sv_let (v := (snd s1488_)) (E := fun (y1496_ : (List (List Int))) => [some (O.ow [(encI (fst draws_1493_)), (encI (fst (snd draws_1493_))), (encB (snd (snd draws_1493_)))]), some (O.fz (encI size_200_)), some (O.fz (encI kind_202_)), some (O.ow2 (List.map (fun r => List.map encI r) y1496_)), some (O.fz ((encL encI) worths_224_)), some (O.fz (encI a229_)), some (O.fz (encI a1183_)), none, u1490_, u1491_]) ?_
      intro told_1495_
      refine sv_assoc ?_
      refine sv_V (st := fun b1497_ => [some (O.ow [(encI (fst (snd b1497_))), (encI (fst (snd (snd b1497_)))), (encB (snd (snd (snd b1497_))))]), some (O.fz (encI size_200_)), some (O.fz (encI kind_202_)), some (O.ow2 (List.map (fun r => List.map encI r) told_1495_)), some (O.fz ((encL encI) worths_224_)), some (O.fz (encI a229_)), some (O.fz (encI a1183_)), none, some (O.fz (encI ((Int.fmod (fst b1497_) (3 : Int)) - (1 : Int)))), u1491_]) (xv_VP (xv_VP (xv_VP (xv_VP (xv_VP (xv_VP (xv_PV' (a := [(P.var 0)]) (e2 := [some (O.ow [(encI (fst draws_1493_)), (encI (fst (snd draws_1493_))), (encB (snd (snd draws_1493_)))]), some (O.fz (encI size_200_)), some (O.fz (encI kind_202_)), some (O.ow2 (List.map (fun r => List.map encI r) told_1495_)), some (O.fz ((encL encI) worths_224_)), some (O.fz (encI a229_)), some (O.fz (encI a1183_)), none, u1490_, u1491_]) rfl (xo_call (tk__law_next draws_1493_) rfl rfl rfl (fun _ => rfl))) (fun b1497_ => rfl)) (fun b1497_ => rfl)) (fun b1497_ => rfl)) (fun b1497_ => rfl)) (fun b1497_ => rfl)) (fun b1497_ => rfl)) ?_
      intro b1497_
      refine sv_let (v := ((Int.fmod (fst b1497_) (3 : Int)) - (1 : Int))) (E := fun (y1499_ : Int) => [some (O.ow [(encI (fst (snd b1497_))), (encI (fst (snd (snd b1497_)))), (encB (snd (snd (snd b1497_))))]), some (O.fz (encI size_200_)), some (O.fz (encI kind_202_)), some (O.ow2 (List.map (fun r => List.map encI r) told_1495_)), some (O.fz ((encL encI) worths_224_)), some (O.fz (encI a229_)), some (O.fz (encI a1183_)), none, some (O.fz (encI y1499_)), u1491_]) ?_
      intro answer_1498_
      refine sv_let (v := (snd b1497_)) (E := fun (y1501_ : (Int × Int × Bool)) => [some (O.ow [(encI (fst y1501_)), (encI (fst (snd y1501_))), (encB (snd (snd y1501_)))]), some (O.fz (encI size_200_)), some (O.fz (encI kind_202_)), some (O.ow2 (List.map (fun r => List.map encI r) told_1495_)), some (O.fz ((encL encI) worths_224_)), some (O.fz (encI a229_)), some (O.fz (encI a1183_)), none, some (O.fz (encI answer_1498_)), u1491_]) ?_
      intro draws_1500_
      refine sv_assoc ?_
      refine sv_seq (Q := fun (s1638_ : ((Int × Int × Bool) × Int)) e1640_ => ∃ u1639_, e1640_ = [some (O.ow [(encI (fst (fst s1638_))), (encI (fst (snd (fst s1638_)))), (encB (snd (snd (fst s1638_))))]), some (O.fz (encI size_200_)), some (O.fz (encI kind_202_)), some (O.ow2 (List.map (fun r => List.map encI r) told_1495_)), some (O.fz ((encL encI) worths_224_)), some (O.fz (encI a229_)), some (O.fz (encI a1183_)), none, some (O.fz (encI (snd s1638_))), u1639_]) ?_ ?_
      · refine sv_last ?_
        refine sv_if rfl ?_ ?_
        · refine sv_V (st := fun q1572_ => [some (O.ow [(encI (fst (snd (fst q1572_)))), (encI (fst (snd (snd (fst q1572_))))), (encB (snd (snd (snd (fst q1572_)))))]), some (O.fz (encI size_200_)), some (O.fz (encI kind_202_)), some (O.ow2 (List.map (fun r => List.map encI r) told_1495_)), some (O.fz ((encL encI) worths_224_)), some (O.fz (encI a229_)), some (O.fz (encI a1183_)), none, some (O.fz (encI (snd q1572_))), u1491_]) (xv_VP (xv_PV' (a := (P.val ((encL encI) [(-(1 : Int)), (1 : Int)]))) (e2 := [some (O.ow [(encI (fst draws_1500_)), (encI (fst (snd draws_1500_))), (encB (snd (snd draws_1500_)))]), some (O.fz (encI size_200_)), some (O.fz (encI kind_202_)), some (O.ow2 (List.map (fun r => List.map encI r) told_1495_)), some (O.fz ((encL encI) worths_224_)), some (O.fz (encI a229_)), some (O.fz (encI a1183_)), none, some (O.fz (encI answer_1498_)), u1491_]) rfl (xv_VV (t := (t__law_next draws_1500_)) (t2 := fun b1570_ => (atI [(-(1 : Int)), (1 : Int)] (Int.fmod (fst b1570_) (2 : Int)))) (cv := fun q1572_ => (P.val (encI (snd q1572_)))) (st2 := fun q1572_ => [some (O.ow [(encI (fst (snd (fst q1572_)))), (encI (fst (snd (snd (fst q1572_))))), (encB (snd (snd (snd (fst q1572_)))))]), some (O.fz (encI size_200_)), some (O.fz (encI kind_202_)), some (O.ow2 (List.map (fun r => List.map encI r) told_1495_)), some (O.fz ((encL encI) worths_224_)), some (O.fz (encI a229_)), some (O.fz (encI a1183_)), none, some (O.fz (encI answer_1498_)), u1491_]) (xv_VP (xv_VP (xv_VP (xv_VP (xv_PV' (a := [(P.var 0)]) (e2 := [some (O.ow [(encI (fst draws_1500_)), (encI (fst (snd draws_1500_))), (encB (snd (snd draws_1500_)))]), some (O.fz (encI size_200_)), some (O.fz (encI kind_202_)), some (O.ow2 (List.map (fun r => List.map encI r) told_1495_)), some (O.fz ((encL encI) worths_224_)), some (O.fz (encI a229_)), some (O.fz (encI a1183_)), none, some (O.fz (encI answer_1498_)), u1491_]) rfl (xo_call (tk__law_next draws_1500_) rfl rfl rfl (fun _ => rfl))) (fun b1570_ => rfl)) (fun b1570_ => rfl)) (fun b1570_ => rfl)) (fun b1570_ => rfl)) (fun b1570_ => (xo_ix rfl)))) (fun q1572_ => rfl)) ?_
          intro q1572_
          refine sv_let (v := (snd q1572_)) (E := fun (y1574_ : Int) => [some (O.ow [(encI (fst (snd (fst q1572_)))), (encI (fst (snd (snd (fst q1572_))))), (encB (snd (snd (snd (fst q1572_)))))]), some (O.fz (encI size_200_)), some (O.fz (encI kind_202_)), some (O.ow2 (List.map (fun r => List.map encI r) told_1495_)), some (O.fz ((encL encI) worths_224_)), some (O.fz (encI a229_)), some (O.fz (encI a1183_)), none, some (O.fz (encI y1574_)), u1491_]) ?_
          intro answer_1573_
          refine sv_let (v := (snd (fst q1572_))) (E := fun (y1576_ : (Int × Int × Bool)) => [some (O.ow [(encI (fst y1576_)), (encI (fst (snd y1576_))), (encB (snd (snd y1576_)))]), some (O.fz (encI size_200_)), some (O.fz (encI kind_202_)), some (O.ow2 (List.map (fun r => List.map encI r) told_1495_)), some (O.fz ((encL encI) worths_224_)), some (O.fz (encI a229_)), some (O.fz (encI a1183_)), none, some (O.fz (encI answer_1573_)), u1491_]) ?_
          intro draws_1575_
          exact sv_end ⟨rfl, _, rfl⟩
        · refine sv_seq (Q := fun (s1631_ : ((Int × Int × Bool) × Int)) e1633_ => ∃ u1632_, e1633_ = [some (O.ow [(encI (fst (fst s1631_))), (encI (fst (snd (fst s1631_)))), (encB (snd (snd (fst s1631_))))]), some (O.fz (encI size_200_)), some (O.fz (encI kind_202_)), some (O.ow2 (List.map (fun r => List.map encI r) told_1495_)), some (O.fz ((encL encI) worths_224_)), some (O.fz (encI a229_)), some (O.fz (encI a1183_)), none, some (O.fz (encI (snd s1631_))), u1632_]) ?_ ?_
          · refine sv_last ?_
            refine sv_if rfl ?_ ?_
            · refine sv_assoc ?_
              refine sv_V (st := fun q1606_ => [some (O.ow [(encI (fst draws_1500_)), (encI (fst (snd draws_1500_))), (encB (snd (snd draws_1500_)))]), some (O.fz (encI size_200_)), some (O.fz (encI kind_202_)), some (O.ow2 (List.map (fun r => List.map encI r) told_1495_)), some (O.fz ((encL encI) worths_224_)), some (O.fz (encI a229_)), some (O.fz (encI a1183_)), none, some (O.fz (encI answer_1498_)), some (O.fz (encI (if (decide ((kind_202_ - (3 : Int)) < (if ((fst q1606_) - (snd q1606_)) < 0 then -((fst q1606_) - (snd q1606_)) else ((fst q1606_) - (snd q1606_))))) = true then (1 : Int) else 0)))]) (xv_VP (xv_VP (xv_VP (xv_VP (xv_VP (xv_VP (xv_VV (t := (atI worths_224_ a229_)) (t2 := fun b1604_ => (atI worths_224_ a1183_)) (cv := fun q1606_ => (P.val (encI ((fst q1606_) - (snd q1606_))))) (st2 := fun q1606_ => [some (O.ow [(encI (fst draws_1500_)), (encI (fst (snd draws_1500_))), (encB (snd (snd draws_1500_)))]), some (O.fz (encI size_200_)), some (O.fz (encI kind_202_)), some (O.ow2 (List.map (fun r => List.map encI r) told_1495_)), some (O.fz ((encL encI) worths_224_)), some (O.fz (encI a229_)), some (O.fz (encI a1183_)), none, some (O.fz (encI answer_1498_)), u1491_]) (xv_PV' (a := (P.val ((encL encI) worths_224_))) (e2 := [some (O.ow [(encI (fst draws_1500_)), (encI (fst (snd draws_1500_))), (encB (snd (snd draws_1500_)))]), some (O.fz (encI size_200_)), some (O.fz (encI kind_202_)), some (O.ow2 (List.map (fun r => List.map encI r) told_1495_)), some (O.fz ((encL encI) worths_224_)), some (O.fz (encI a229_)), some (O.fz (encI a1183_)), none, some (O.fz (encI answer_1498_)), u1491_]) rfl (xv_PV' (a := (P.val (encI a229_))) (e2 := [some (O.ow [(encI (fst draws_1500_)), (encI (fst (snd draws_1500_))), (encB (snd (snd draws_1500_)))]), some (O.fz (encI size_200_)), some (O.fz (encI kind_202_)), some (O.ow2 (List.map (fun r => List.map encI r) told_1495_)), some (O.fz ((encL encI) worths_224_)), some (O.fz (encI a229_)), some (O.fz (encI a1183_)), none, some (O.fz (encI answer_1498_)), u1491_]) rfl (xo_ix rfl))) (fun b1604_ => (xv_VP (xv_PV' (a := (P.val ((encL encI) worths_224_))) (e2 := [some (O.ow [(encI (fst draws_1500_)), (encI (fst (snd draws_1500_))), (encB (snd (snd draws_1500_)))]), some (O.fz (encI size_200_)), some (O.fz (encI kind_202_)), some (O.ow2 (List.map (fun r => List.map encI r) told_1495_)), some (O.fz ((encL encI) worths_224_)), some (O.fz (encI a229_)), some (O.fz (encI a1183_)), none, some (O.fz (encI answer_1498_)), u1491_]) rfl (xv_PV' (a := (P.val (encI a1183_))) (e2 := [some (O.ow [(encI (fst draws_1500_)), (encI (fst (snd draws_1500_))), (encB (snd (snd draws_1500_)))]), some (O.fz (encI size_200_)), some (O.fz (encI kind_202_)), some (O.ow2 (List.map (fun r => List.map encI r) told_1495_)), some (O.fz ((encL encI) worths_224_)), some (O.fz (encI a229_)), some (O.fz (encI a1183_)), none, some (O.fz (encI answer_1498_)), u1491_]) rfl (xo_ix rfl))) (fun b1605_ => rfl)))) (fun q1606_ => rfl)) (fun q1606_ => rfl)) (fun q1606_ => rfl)) (fun q1606_ => rfl)) (fun q1606_ => rfl)) (fun q1606_ => rfl)) ?_
              intro q1606_
              refine sv_let (v := (if (decide ((kind_202_ - (3 : Int)) < (if ((fst q1606_) - (snd q1606_)) < 0 then -((fst q1606_) - (snd q1606_)) else ((fst q1606_) - (snd q1606_))))) = true then (1 : Int) else 0)) (E := fun (y1608_ : Int) => [some (O.ow [(encI (fst draws_1500_)), (encI (fst (snd draws_1500_))), (encB (snd (snd draws_1500_)))]), some (O.fz (encI size_200_)), some (O.fz (encI kind_202_)), some (O.ow2 (List.map (fun r => List.map encI r) told_1495_)), some (O.fz ((encL encI) worths_224_)), some (O.fz (encI a229_)), some (O.fz (encI a1183_)), none, some (O.fz (encI answer_1498_)), some (O.fz (encI y1608_))]) ?_
              intro near_1607_
              refine sv_assoc ?_
              refine sv_V (st := fun q1615_ => [some (O.ow [(encI (fst draws_1500_)), (encI (fst (snd draws_1500_))), (encB (snd (snd draws_1500_)))]), some (O.fz (encI size_200_)), some (O.fz (encI kind_202_)), some (O.ow2 (List.map (fun r => List.map encI r) told_1495_)), some (O.fz ((encL encI) worths_224_)), some (O.fz (encI a229_)), some (O.fz (encI a1183_)), none, some (O.fz (encI (snd q1615_))), some (O.fz (encI near_1607_))]) (xv_VP (xv_VV (t := (((atI worths_224_ a229_).bind fun b1609_ => (atI worths_224_ a1183_).map fun b1610_ => (b1609_, b1610_)).bind fun q1611_ => (mulI (2 : Int) (if (decide ((fst q1611_) < (snd q1611_))) = true then (1 : Int) else 0)).map fun b1612_ => (q1611_, b1612_))) (t2 := fun q1613_ => (mulI ((1 : Int) - (snd q1613_)) near_1607_)) (cv := fun q1615_ => (P.val (encI (snd q1615_)))) (st2 := fun q1615_ => [some (O.ow [(encI (fst draws_1500_)), (encI (fst (snd draws_1500_))), (encB (snd (snd draws_1500_)))]), some (O.fz (encI size_200_)), some (O.fz (encI kind_202_)), some (O.ow2 (List.map (fun r => List.map encI r) told_1495_)), some (O.fz ((encL encI) worths_224_)), some (O.fz (encI a229_)), some (O.fz (encI a1183_)), none, some (O.fz (encI answer_1498_)), some (O.fz (encI near_1607_))]) (xv_PV' (a := (P.val (encI (1 : Int)))) (e2 := [some (O.ow [(encI (fst draws_1500_)), (encI (fst (snd draws_1500_))), (encB (snd (snd draws_1500_)))]), some (O.fz (encI size_200_)), some (O.fz (encI kind_202_)), some (O.ow2 (List.map (fun r => List.map encI r) told_1495_)), some (O.fz ((encL encI) worths_224_)), some (O.fz (encI a229_)), some (O.fz (encI a1183_)), none, some (O.fz (encI answer_1498_)), some (O.fz (encI near_1607_))]) rfl (xv_VP (xv_PV' (a := (P.val (encI (2 : Int)))) (e2 := [some (O.ow [(encI (fst draws_1500_)), (encI (fst (snd draws_1500_))), (encB (snd (snd draws_1500_)))]), some (O.fz (encI size_200_)), some (O.fz (encI kind_202_)), some (O.ow2 (List.map (fun r => List.map encI r) told_1495_)), some (O.fz ((encL encI) worths_224_)), some (O.fz (encI a229_)), some (O.fz (encI a1183_)), none, some (O.fz (encI answer_1498_)), some (O.fz (encI near_1607_))]) rfl (xv_VV (t := ((atI worths_224_ a229_).bind fun b1609_ => (atI worths_224_ a1183_).map fun b1610_ => (b1609_, b1610_))) (t2 := fun q1611_ => (mulI (2 : Int) (if (decide ((fst q1611_) < (snd q1611_))) = true then (1 : Int) else 0))) (cv := fun q1613_ => (P.val (encI (snd q1613_)))) (st2 := fun q1613_ => [some (O.ow [(encI (fst draws_1500_)), (encI (fst (snd draws_1500_))), (encB (snd (snd draws_1500_)))]), some (O.fz (encI size_200_)), some (O.fz (encI kind_202_)), some (O.ow2 (List.map (fun r => List.map encI r) told_1495_)), some (O.fz ((encL encI) worths_224_)), some (O.fz (encI a229_)), some (O.fz (encI a1183_)), none, some (O.fz (encI answer_1498_)), some (O.fz (encI near_1607_))]) (xv_VP (xv_VP (xv_VV (t := (atI worths_224_ a229_)) (t2 := fun b1609_ => (atI worths_224_ a1183_)) (cv := fun q1611_ => (P.val (encB (decide ((fst q1611_) < (snd q1611_)))))) (st2 := fun q1611_ => [some (O.ow [(encI (fst draws_1500_)), (encI (fst (snd draws_1500_))), (encB (snd (snd draws_1500_)))]), some (O.fz (encI size_200_)), some (O.fz (encI kind_202_)), some (O.ow2 (List.map (fun r => List.map encI r) told_1495_)), some (O.fz ((encL encI) worths_224_)), some (O.fz (encI a229_)), some (O.fz (encI a1183_)), none, some (O.fz (encI answer_1498_)), some (O.fz (encI near_1607_))]) (xv_PV' (a := (P.val ((encL encI) worths_224_))) (e2 := [some (O.ow [(encI (fst draws_1500_)), (encI (fst (snd draws_1500_))), (encB (snd (snd draws_1500_)))]), some (O.fz (encI size_200_)), some (O.fz (encI kind_202_)), some (O.ow2 (List.map (fun r => List.map encI r) told_1495_)), some (O.fz ((encL encI) worths_224_)), some (O.fz (encI a229_)), some (O.fz (encI a1183_)), none, some (O.fz (encI answer_1498_)), some (O.fz (encI near_1607_))]) rfl (xv_PV' (a := (P.val (encI a229_))) (e2 := [some (O.ow [(encI (fst draws_1500_)), (encI (fst (snd draws_1500_))), (encB (snd (snd draws_1500_)))]), some (O.fz (encI size_200_)), some (O.fz (encI kind_202_)), some (O.ow2 (List.map (fun r => List.map encI r) told_1495_)), some (O.fz ((encL encI) worths_224_)), some (O.fz (encI a229_)), some (O.fz (encI a1183_)), none, some (O.fz (encI answer_1498_)), some (O.fz (encI near_1607_))]) rfl (xo_ix rfl))) (fun b1609_ => (xv_VP (xv_PV' (a := (P.val ((encL encI) worths_224_))) (e2 := [some (O.ow [(encI (fst draws_1500_)), (encI (fst (snd draws_1500_))), (encB (snd (snd draws_1500_)))]), some (O.fz (encI size_200_)), some (O.fz (encI kind_202_)), some (O.ow2 (List.map (fun r => List.map encI r) told_1495_)), some (O.fz ((encL encI) worths_224_)), some (O.fz (encI a229_)), some (O.fz (encI a1183_)), none, some (O.fz (encI answer_1498_)), some (O.fz (encI near_1607_))]) rfl (xv_PV' (a := (P.val (encI a1183_))) (e2 := [some (O.ow [(encI (fst draws_1500_)), (encI (fst (snd draws_1500_))), (encB (snd (snd draws_1500_)))]), some (O.fz (encI size_200_)), some (O.fz (encI kind_202_)), some (O.ow2 (List.map (fun r => List.map encI r) told_1495_)), some (O.fz ((encL encI) worths_224_)), some (O.fz (encI a229_)), some (O.fz (encI a1183_)), none, some (O.fz (encI answer_1498_)), some (O.fz (encI near_1607_))]) rfl (xo_ix rfl))) (fun b1610_ => rfl)))) (fun q1611_ => rfl)) (fun q1611_ => rfl)) (fun q1611_ => xo_mul))) (fun q1613_ => rfl))) (fun q1613_ => (xv_PV' (a := (P.val (encI near_1607_))) (e2 := [some (O.ow [(encI (fst draws_1500_)), (encI (fst (snd draws_1500_))), (encB (snd (snd draws_1500_)))]), some (O.fz (encI size_200_)), some (O.fz (encI kind_202_)), some (O.ow2 (List.map (fun r => List.map encI r) told_1495_)), some (O.fz ((encL encI) worths_224_)), some (O.fz (encI a229_)), some (O.fz (encI a1183_)), none, some (O.fz (encI answer_1498_)), some (O.fz (encI near_1607_))]) rfl xo_mul))) (fun q1615_ => rfl)) ?_
              intro q1615_
              refine sv_let (v := (snd q1615_)) (E := fun (y1617_ : Int) => [some (O.ow [(encI (fst draws_1500_)), (encI (fst (snd draws_1500_))), (encB (snd (snd draws_1500_)))]), some (O.fz (encI size_200_)), some (O.fz (encI kind_202_)), some (O.ow2 (List.map (fun r => List.map encI r) told_1495_)), some (O.fz ((encL encI) worths_224_)), some (O.fz (encI a229_)), some (O.fz (encI a1183_)), none, some (O.fz (encI y1617_)), some (O.fz (encI near_1607_))]) ?_
              intro answer_1616_
              refine sv_seq (Q := fun (s1625_ : ((Int × Int × Bool) × Int)) e1626_ => e1626_ = [some (O.ow [(encI (fst (fst s1625_))), (encI (fst (snd (fst s1625_)))), (encB (snd (snd (fst s1625_))))]), some (O.fz (encI size_200_)), some (O.fz (encI kind_202_)), some (O.ow2 (List.map (fun r => List.map encI r) told_1495_)), some (O.fz ((encL encI) worths_224_)), some (O.fz (encI a229_)), some (O.fz (encI a1183_)), none, some (O.fz (encI (snd s1625_))), some (O.fz (encI near_1607_))]) ?_ ?_
              · refine sv_last ?_
                refine sv_ifV (st := fun b1619_ => [some (O.ow [(encI (fst (snd b1619_))), (encI (fst (snd (snd b1619_)))), (encB (snd (snd (snd b1619_))))]), some (O.fz (encI size_200_)), some (O.fz (encI kind_202_)), some (O.ow2 (List.map (fun r => List.map encI r) told_1495_)), some (O.fz ((encL encI) worths_224_)), some (O.fz (encI a229_)), some (O.fz (encI a1183_)), none, some (O.fz (encI answer_1616_)), some (O.fz (encI near_1607_))]) (xv_andP (s := draws_1500_) (E := (fun s1620_ => [some (O.ow [(encI (fst s1620_)), (encI (fst (snd s1620_))), (encB (snd (snd s1620_)))]), some (O.fz (encI size_200_)), some (O.fz (encI kind_202_)), some (O.ow2 (List.map (fun r => List.map encI r) told_1495_)), some (O.fz ((encL encI) worths_224_)), some (O.fz (encI a229_)), some (O.fz (encI a1183_)), none, some (O.fz (encI answer_1616_)), some (O.fz (encI near_1607_))])) ((bnd_eq (a := (P.val (encB (decide (kind_202_ = (3 : Int)))))) (e := [some (O.ow [(encI (fst draws_1500_)), (encI (fst (snd draws_1500_))), (encB (snd (snd draws_1500_)))]), some (O.fz (encI size_200_)), some (O.fz (encI kind_202_)), some (O.ow2 (List.map (fun r => List.map encI r) told_1495_)), some (O.fz ((encL encI) worths_224_)), some (O.fz (encI a229_)), some (O.fz (encI a1183_)), none, some (O.fz (encI answer_1616_)), some (O.fz (encI near_1607_))]) ((bnd_eq (a := (P.val (encI kind_202_))) (e := [some (O.ow [(encI (fst draws_1500_)), (encI (fst (snd draws_1500_))), (encB (snd (snd draws_1500_)))]), some (O.fz (encI size_200_)), some (O.fz (encI kind_202_)), some (O.ow2 (List.map (fun r => List.map encI r) told_1495_)), some (O.fz ((encL encI) worths_224_)), some (O.fz (encI a229_)), some (O.fz (encI a1183_)), none, some (O.fz (encI answer_1616_)), some (O.fz (encI near_1607_))]) rfl).trans ((bnd_eq (a := (P.val (encI (3 : Int)))) (e := [some (O.ow [(encI (fst draws_1500_)), (encI (fst (snd draws_1500_))), (encB (snd (snd draws_1500_)))]), some (O.fz (encI size_200_)), some (O.fz (encI kind_202_)), some (O.ow2 (List.map (fun r => List.map encI r) told_1495_)), some (O.fz ((encL encI) worths_224_)), some (O.fz (encI a229_)), some (O.fz (encI a1183_)), none, some (O.fz (encI answer_1616_)), some (O.fz (encI near_1607_))]) rfl).trans (oe_eq (a := kind_202_) (b := (3 : Int)) eo_I rfl rfl)))).trans rfl) (xv_map (t := (t__law_next draws_1500_)) (f := fun b1618_ => ((decide ((Int.fmod (fst b1618_) (7 : Int)) = (0 : Int))), (snd b1618_))) (xv_VP (xv_VP (xv_VP (xv_VP (xv_VP (xv_VP (xv_PV' (a := [(P.var 0)]) (e2 := [some (O.ow [(encI (fst draws_1500_)), (encI (fst (snd draws_1500_))), (encB (snd (snd draws_1500_)))]), some (O.fz (encI size_200_)), some (O.fz (encI kind_202_)), some (O.ow2 (List.map (fun r => List.map encI r) told_1495_)), some (O.fz ((encL encI) worths_224_)), some (O.fz (encI a229_)), some (O.fz (encI a1183_)), none, some (O.fz (encI answer_1616_)), some (O.fz (encI near_1607_))]) rfl (xo_call (tk__law_next draws_1500_) rfl rfl rfl (fun _ => rfl))) (fun b1618_ => rfl)) (fun b1618_ => rfl)) (fun b1618_ => rfl)) (fun b1618_ => rfl)) (fun b1618_ => ((bnd_eq (a := (P.val (encI (0 : Int)))) (e := [some (O.ow [(encI (fst (snd b1618_))), (encI (fst (snd (snd b1618_)))), (encB (snd (snd (snd b1618_))))]), some (O.fz (encI size_200_)), some (O.fz (encI kind_202_)), some (O.ow2 (List.map (fun r => List.map encI r) told_1495_)), some (O.fz ((encL encI) worths_224_)), some (O.fz (encI a229_)), some (O.fz (encI a1183_)), none, some (O.fz (encI answer_1616_)), some (O.fz (encI near_1607_))]) rfl).trans (oe_eq (a := (Int.fmod (fst b1618_) (7 : Int))) (b := (0 : Int)) eo_I rfl rfl)))) (fun b1618_ => rfl)))) ?_ ?_
                · intro b1619_
                  refine sv_nx (e := [some (O.ow [(encI (fst (snd b1619_))), (encI (fst (snd (snd b1619_)))), (encB (snd (snd (snd b1619_))))]), some (O.fz (encI size_200_)), some (O.fz (encI kind_202_)), some (O.ow2 (List.map (fun r => List.map encI r) told_1495_)), some (O.fz ((encL encI) worths_224_)), some (O.fz (encI a229_)), some (O.fz (encI a1183_)), none, some (O.fz (encI (-answer_1616_))), some (O.fz (encI near_1607_))]) rfl ?_
                  refine sv_let (v := (-answer_1616_)) (E := fun (y1624_ : Int) => [some (O.ow [(encI (fst (snd b1619_))), (encI (fst (snd (snd b1619_)))), (encB (snd (snd (snd b1619_))))]), some (O.fz (encI size_200_)), some (O.fz (encI kind_202_)), some (O.ow2 (List.map (fun r => List.map encI r) told_1495_)), some (O.fz ((encL encI) worths_224_)), some (O.fz (encI a229_)), some (O.fz (encI a1183_)), none, some (O.fz (encI y1624_)), some (O.fz (encI near_1607_))]) ?_
                  intro answer_1623_
                  exact sv_end ⟨rfl, rfl⟩
                · intro b1619_
                  refine sv_nx (e := [some (O.ow [(encI (fst (snd b1619_))), (encI (fst (snd (snd b1619_)))), (encB (snd (snd (snd b1619_))))]), some (O.fz (encI size_200_)), some (O.fz (encI kind_202_)), some (O.ow2 (List.map (fun r => List.map encI r) told_1495_)), some (O.fz ((encL encI) worths_224_)), some (O.fz (encI a229_)), some (O.fz (encI a1183_)), none, some (O.fz (encI answer_1616_)), some (O.fz (encI near_1607_))]) rfl ?_
                  exact sv_end ⟨rfl, rfl⟩
              rintro s1625_ _ ⟨rfl⟩
              refine sv_let (v := (fst s1625_)) (E := fun (y1628_ : (Int × Int × Bool)) => [some (O.ow [(encI (fst y1628_)), (encI (fst (snd y1628_))), (encB (snd (snd y1628_)))]), some (O.fz (encI size_200_)), some (O.fz (encI kind_202_)), some (O.ow2 (List.map (fun r => List.map encI r) told_1495_)), some (O.fz ((encL encI) worths_224_)), some (O.fz (encI a229_)), some (O.fz (encI a1183_)), none, some (O.fz (encI (snd s1625_))), some (O.fz (encI near_1607_))]) ?_
              intro draws_1627_
              refine sv_let (v := (snd s1625_)) (E := fun (y1630_ : Int) => [some (O.ow [(encI (fst draws_1627_)), (encI (fst (snd draws_1627_))), (encB (snd (snd draws_1627_)))]), some (O.fz (encI size_200_)), some (O.fz (encI kind_202_)), some (O.ow2 (List.map (fun r => List.map encI r) told_1495_)), some (O.fz ((encL encI) worths_224_)), some (O.fz (encI a229_)), some (O.fz (encI a1183_)), none, some (O.fz (encI y1630_)), some (O.fz (encI near_1607_))]) ?_
              intro answer_1629_
              exact sv_end ⟨rfl, _, rfl⟩
            · refine sv_nx (e := [some (O.ow [(encI (fst draws_1500_)), (encI (fst (snd draws_1500_))), (encB (snd (snd draws_1500_)))]), some (O.fz (encI size_200_)), some (O.fz (encI kind_202_)), some (O.ow2 (List.map (fun r => List.map encI r) told_1495_)), some (O.fz ((encL encI) worths_224_)), some (O.fz (encI a229_)), some (O.fz (encI a1183_)), none, some (O.fz (encI answer_1498_)), u1491_]) rfl ?_
              exact sv_end ⟨rfl, _, rfl⟩
          rintro s1631_ _ ⟨u1632_, rfl⟩
          refine sv_let (v := (fst s1631_)) (E := fun (y1635_ : (Int × Int × Bool)) => [some (O.ow [(encI (fst y1635_)), (encI (fst (snd y1635_))), (encB (snd (snd y1635_)))]), some (O.fz (encI size_200_)), some (O.fz (encI kind_202_)), some (O.ow2 (List.map (fun r => List.map encI r) told_1495_)), some (O.fz ((encL encI) worths_224_)), some (O.fz (encI a229_)), some (O.fz (encI a1183_)), none, some (O.fz (encI (snd s1631_))), u1632_]) ?_
          intro draws_1634_
          refine sv_let (v := (snd s1631_)) (E := fun (y1637_ : Int) => [some (O.ow [(encI (fst draws_1634_)), (encI (fst (snd draws_1634_))), (encB (snd (snd draws_1634_)))]), some (O.fz (encI size_200_)), some (O.fz (encI kind_202_)), some (O.ow2 (List.map (fun r => List.map encI r) told_1495_)), some (O.fz ((encL encI) worths_224_)), some (O.fz (encI a229_)), some (O.fz (encI a1183_)), none, some (O.fz (encI y1637_)), u1632_]) ?_
          intro answer_1636_
          exact sv_end ⟨rfl, _, rfl⟩
      rintro s1638_ _ ⟨u1639_, rfl⟩
      refine sv_let (v := (fst s1638_)) (E := fun (y1642_ : (Int × Int × Bool)) => [some (O.ow [(encI (fst y1642_)), (encI (fst (snd y1642_))), (encB (snd (snd y1642_)))]), some (O.fz (encI size_200_)), some (O.fz (encI kind_202_)), some (O.ow2 (List.map (fun r => List.map encI r) told_1495_)), some (O.fz ((encL encI) worths_224_)), some (O.fz (encI a229_)), some (O.fz (encI a1183_)), none, some (O.fz (encI (snd s1638_))), u1639_]) ?_
      intro draws_1641_
      refine sv_let (v := (snd s1638_)) (E := fun (y1644_ : Int) => [some (O.ow [(encI (fst draws_1641_)), (encI (fst (snd draws_1641_))), (encB (snd (snd draws_1641_)))]), some (O.fz (encI size_200_)), some (O.fz (encI kind_202_)), some (O.ow2 (List.map (fun r => List.map encI r) told_1495_)), some (O.fz ((encL encI) worths_224_)), some (O.fz (encI a229_)), some (O.fz (encI a1183_)), none, some (O.fz (encI y1644_)), u1639_]) ?_
      intro answer_1643_
      refine sv_assoc ?_
      refine sv_V (st := fun b1645_ => [some (O.ow [(encI (fst draws_1641_)), (encI (fst (snd draws_1641_))), (encB (snd (snd draws_1641_)))]), some (O.fz (encI size_200_)), some (O.fz (encI kind_202_)), some (O.ow2 (List.map (fun r => List.map encI r) b1645_)), some (O.fz ((encL encI) worths_224_)), some (O.fz (encI a229_)), some (O.fz (encI a1183_)), none, some (O.fz (encI answer_1643_)), u1639_]) (xo_set2 (en := encI) (xs := told_1495_) (x := answer_1643_) rfl rfl rfl rfl rfl (fun _ => rfl)) ?_
      intro told_1646_
      refine sv_V (st := fun b1647_ => [some (O.ow [(encI (fst draws_1641_)), (encI (fst (snd draws_1641_))), (encB (snd (snd draws_1641_)))]), some (O.fz (encI size_200_)), some (O.fz (encI kind_202_)), some (O.ow2 (List.map (fun r => List.map encI r) b1647_)), some (O.fz ((encL encI) worths_224_)), some (O.fz (encI a229_)), some (O.fz (encI a1183_)), none, some (O.fz (encI answer_1643_)), u1639_]) (xo_set2 (en := encI) (xs := told_1646_) (x := (-answer_1643_)) rfl rfl rfl rfl rfl (fun _ => rfl)) ?_
      intro told_1648_
      exact sv_end ⟨.inl rfl, _, _, _, rfl⟩
    intro b1182_
    rintro s1488_ _ ⟨u1489_, u1490_, u1491_, rfl⟩
    refine sv_let (v := (fst s1488_)) (E := fun (y1650_ : (Int × Int × Bool)) => [some (O.ow [(encI (fst y1650_)), (encI (fst (snd y1650_))), (encB (snd (snd y1650_)))]), some (O.fz (encI size_200_)), some (O.fz (encI kind_202_)), some (O.ow2 (List.map (fun r => List.map encI r) (snd s1488_))), some (O.fz ((encL encI) worths_224_)), some (O.fz (encI a229_)), u1489_, none, u1490_, u1491_]) ?_
    intro draws_1649_
    refine sv_let (v := (snd s1488_)) (E := fun (y1652_ : (List (List Int))) => [some (O.ow [(encI (fst draws_1649_)), (encI (fst (snd draws_1649_))), (encB (snd (snd draws_1649_)))]), some (O.fz (encI size_200_)), some (O.fz (encI kind_202_)), some (O.ow2 (List.map (fun r => List.map encI r) y1652_)), some (O.fz ((encL encI) worths_224_)), some (O.fz (encI a229_)), u1489_, none, u1490_, u1491_]) ?_
    intro told_1651_
    exact sv_end ⟨.inl rfl, _, _, _, _, rfl⟩
  intro b228_
  rintro s1172_ _ ⟨u1173_, u1174_, u1175_, u1176_, rfl⟩
  refine sv_let (v := (fst s1172_)) (E := fun (y1654_ : (Int × Int × Bool)) => [some (O.ow [(encI (fst y1654_)), (encI (fst (snd y1654_))), (encB (snd (snd y1654_)))]), some (O.fz (encI size_200_)), some (O.fz (encI kind_202_)), some (O.ow2 (List.map (fun r => List.map encI r) (snd s1172_))), some (O.fz ((encL encI) worths_224_)), u1173_, u1174_, none, u1175_, u1176_]) ?_
  intro draws_1653_
  refine sv_let (v := (snd s1172_)) (E := fun (y1656_ : (List (List Int))) => [some (O.ow [(encI (fst draws_1653_)), (encI (fst (snd draws_1653_))), (encB (snd (snd draws_1653_)))]), some (O.fz (encI size_200_)), some (O.fz (encI kind_202_)), some (O.ow2 (List.map (fun r => List.map encI r) y1656_)), some (O.fz ((encL encI) worths_224_)), u1173_, u1174_, none, u1175_, u1176_]) ?_
  intro told_1655_
  exact sv_exit (ct := (Ctl.rt (O.fz ((encL (encL encI)) told_1655_)))) (e := [some (O.ow [(encI (fst draws_1653_)), (encI (fst (snd draws_1653_))), (encB (snd (snd draws_1653_)))]), some (O.fz (encI size_200_)), some (O.fz (encI kind_202_)), some (O.fz ((encL (encL encI)) told_1655_)), some (O.fz ((encL encI) worths_224_)), u1173_, u1174_, none, u1175_, u1176_]) (os_ret2 (en := encI) (xs := told_1655_) rfl rfl) (fun h => nomatch h) ⟨.inl rfl, rfl⟩
def t__law_orders (items_1657_ : (List Int)) : Option (List (List Int)) := (some [[]]).bind fun (told_1658_ : (List (List Int))) => (rng1 ((List.length items_1657_ : Nat) : Int)).bind fun b1660_ => (forN (fun (a1661_ : Int) (s1680_ : (List (List Int))) => ((cmpO (fun _ => some true) (fun a1683_ => (cmpO (fun a1684_ => some (!(decide (a1684_ ∈ a1683_)))) (fun a1684_ => (catG a1683_ [a1684_]).map fun b1685_ => b1685_) items_1657_).map fun b1686_ => b1686_) s1680_).bind fun b1687_ => (sumG b1687_).map fun b1688_ => (b1687_, b1688_)).bind fun q1689_ => (some (snd q1689_)).bind fun (told_1690_ : (List (List Int))) => some told_1690_) b1660_ told_1658_).bind fun (told_1692_ : (List (List Int))) => some told_1692_
theorem tk__law_orders (items_1657_ : (List Int)) : ∀ bb, t__law_orders items_1657_ = some bb → m__law_orders [(O.fz ((encL encI) items_1657_))] = some ((fun (bb : (List (List Int))) => (O.fz ((encL (encL encI)) bb))) bb, (fun (bb : (List (List Int))) => [(O.fz ((encL encI) items_1657_))]) bb) := by
  unfold t__law_orders m__law_orders
  refine def_T (ro := (fun (bb : (List (List Int))) => (O.fz ((encL (encL encI)) bb)))) (ios := (fun (bb : (List (List Int))) => [(O.fz ((encL encI) items_1657_))])) rfl ?_
  show SV _ [some (O.fz ((encL encI) items_1657_)), none, none, none, none] _ _
  refine sv_last ?_
  refine sv_assoc ?_
  refine sv_nx (e := [some (O.fz ((encL encI) items_1657_)), some (O.fz ((encL (encL encI)) [[]])), none, none, none]) rfl ?_
  refine sv_let (v := [[]]) (E := fun (y1659_ : (List (List Int))) => [some (O.fz ((encL encI) items_1657_)), some (O.fz ((encL (encL encI)) y1659_)), none, none, none]) ?_
  intro told_1658_
  refine sv_assoc ?_
  refine sv_forNV (en := encI) (st := fun b1660_ => [some (O.fz ((encL encI) items_1657_)), some (O.fz ((encL (encL encI)) told_1658_)), none, none, none]) (Q := fun b1660_ => fun (s1680_ : (List (List Int))) e1682_ => ∃ u1681_, e1682_ = [some (O.fz ((encL encI) items_1657_)), some (O.fz ((encL (encL encI)) s1680_)), u1681_, none, none]) (xv_PV' (a := [(P.val (encI ((List.length items_1657_ : Nat) : Int)))]) (e2 := [some (O.fz ((encL encI) items_1657_)), some (O.fz ((encL (encL encI)) told_1658_)), none, none, none]) ((bnd_eq (a := (P.val (encI ((List.length items_1657_ : Nat) : Int)))) (e := [some (O.fz ((encL encI) items_1657_)), some (O.fz ((encL (encL encI)) told_1658_)), none, none, none]) ((bnd_eq (a := [(P.val ((encL encI) items_1657_))]) (e := [some (O.fz ((encL encI) items_1657_)), some (O.fz ((encL (encL encI)) told_1658_)), none, none, none]) rfl).trans (oe_len rfl))).trans rfl) xo_rng1) (fun b1660_ => ⟨_, rfl⟩) ?_ ?_
  · intro b1660_
    rintro a1661_ s1680_ _ ⟨u1681_, rfl⟩
    refine ⟨[some (O.fz ((encL encI) items_1657_)), some (O.fz ((encL (encL encI)) s1680_)), some (O.fz (encI a1661_)), none, none], rfl, ?_⟩
    refine sv_last ?_
    refine sv_V (st := fun q1689_ => [some (O.fz ((encL encI) items_1657_)), some (O.fz ((encL (encL encI)) (snd q1689_))), some (O.fz (encI a1661_)), none, none]) (xv_VP (xv_VP (xv_VV (t := (cmpO (fun _ => some true) (fun a1683_ => (cmpO (fun a1684_ => some (!(decide (a1684_ ∈ a1683_)))) (fun a1684_ => (catG a1683_ [a1684_]).map fun b1685_ => b1685_) items_1657_).map fun b1686_ => b1686_) s1680_)) (t2 := fun b1687_ => (sumG b1687_)) (cv := fun q1689_ => (List.map (encL encI) (snd q1689_))) (st2 := fun q1689_ => [some (O.fz ((encL encI) items_1657_)), some (O.fz ((encL (encL encI)) s1680_)), some (O.fz (encI a1661_)), none, none]) (xv_VP (xv_PV' (a := (List.map (encL encI) s1680_)) (e2 := [some (O.fz ((encL encI) items_1657_)), some (O.fz ((encL (encL encI)) s1680_)), some (O.fz (encI a1661_)), none, none]) rfl (lc_O (en := (encL encI)) (en' := (encL (encL encI))) (E1 := (fun a1683_ => [some (O.fz ((encL encI) items_1657_)), some (O.fz ((encL (encL encI)) s1680_)), some (O.fz (encI a1661_)), some (O.fz ((encL encI) a1683_)), none])) rfl (fun _ => rfl) (fun _ => xv_some rfl) (fun a1683_ => xv_map (xv_VP (xv_PV' (a := (List.map encI items_1657_)) (e2 := [some (O.fz ((encL encI) items_1657_)), some (O.fz ((encL (encL encI)) s1680_)), some (O.fz (encI a1661_)), some (O.fz ((encL encI) a1683_)), none]) rfl (lc_O (en := encI) (en' := (encL encI)) (E1 := (fun a1684_ => [some (O.fz ((encL encI) items_1657_)), some (O.fz ((encL (encL encI)) s1680_)), some (O.fz (encI a1661_)), some (O.fz ((encL encI) a1683_)), some (O.fz (encI a1684_))])) rfl (fun _ => rfl) (fun a1684_ => xv_some ((bnd_eq (a := (P.val (encB (!(decide (a1684_ ∈ a1683_)))))) (e := [some (O.fz ((encL encI) items_1657_)), some (O.fz ((encL (encL encI)) s1680_)), some (O.fz (encI a1661_)), some (O.fz ((encL encI) a1683_)), some (O.fz (encI a1684_))]) ((bnd_eq (a := (P.val (encI a1684_))) (e := [some (O.fz ((encL encI) items_1657_)), some (O.fz ((encL (encL encI)) s1680_)), some (O.fz (encI a1661_)), some (O.fz ((encL encI) a1683_)), some (O.fz (encI a1684_))]) rfl).trans ((bnd_eq (a := (P.val ((encL encI) a1683_))) (e := [some (O.fz ((encL encI) items_1657_)), some (O.fz ((encL (encL encI)) s1680_)), some (O.fz (encI a1661_)), some (O.fz ((encL encI) a1683_)), some (O.fz (encI a1684_))]) rfl).trans (oe_inI rfl)))).trans rfl)) (fun a1684_ => xv_map (xv_VP (xv_PV' (a := (P.val ((encL encI) a1683_))) (e2 := [some (O.fz ((encL encI) items_1657_)), some (O.fz ((encL (encL encI)) s1680_)), some (O.fz (encI a1661_)), some (O.fz ((encL encI) a1683_)), some (O.fz (encI a1684_))]) rfl (xv_PV' (a := (P.val ((encL encI) [a1684_]))) (e2 := [some (O.fz ((encL encI) items_1657_)), some (O.fz ((encL (encL encI)) s1680_)), some (O.fz (encI a1661_)), some (O.fz ((encL encI) a1683_)), some (O.fz (encI a1684_))]) rfl (xo_cat rfl rfl))) (fun b1685_ => rfl))) (fun _ => rfl))) (fun b1686_ => rfl))) (fun _ => rfl))) (fun b1687_ => rfl)) (fun b1687_ => (xo_sumK (en := (encL encI)) (xss := b1687_) rfl))) (fun q1689_ => rfl)) (fun q1689_ => rfl)) ?_
    intro q1689_
    refine sv_let (v := (snd q1689_)) (E := fun (y1691_ : (List (List Int))) => [some (O.fz ((encL encI) items_1657_)), some (O.fz ((encL (encL encI)) y1691_)), some (O.fz (encI a1661_)), none, none]) ?_
    intro told_1690_
    exact sv_end ⟨.inl rfl, _, rfl⟩
  intro b1660_
  rintro told_1692_ _ ⟨u1681_, rfl⟩
  exact sv_exit (ct := (Ctl.rt (O.fz ((encL (encL encI)) told_1692_)))) (e := [some (O.fz ((encL encI) items_1657_)), some (O.fz ((encL (encL encI)) told_1692_)), u1681_, none, none]) rfl (fun h => nomatch h) ⟨.inl rfl, rfl⟩
def t__law_path (rule_1693_ : (List (List Int))) (row_1694_ : (List Int)) : Option Bool := (cmpO (fun a1695_ => ((atI rule_1693_ (snd a1695_)).bind fun b1696_ => (atI b1696_ (fst a1695_)).map fun b1697_ => (b1696_, b1697_)).map fun q1698_ => (decide ((snd q1698_) = (-(1 : Int))))) (fun a1695_ => some (fst a1695_)) (List.zip row_1694_ (cutG row_1694_ (some (1 : Int)) none))).map fun b1699_ => (decide (b1699_ = []))
theorem tk__law_path (rule_1693_ : (List (List Int))) (row_1694_ : (List Int)) : ∀ bb, t__law_path rule_1693_ row_1694_ = some bb → m__law_path [(O.fz ((encL (encL encI)) rule_1693_)), (O.fz ((encL encI) row_1694_))] = some ((fun (bb : Bool) => (O.fz (encB bb))) bb, (fun (bb : Bool) => [(O.fz ((encL (encL encI)) rule_1693_)), (O.fz ((encL encI) row_1694_))]) bb) := by
  unfold t__law_path m__law_path
  refine def_T (ro := (fun (bb : Bool) => (O.fz (encB bb)))) (ios := (fun (bb : Bool) => [(O.fz ((encL (encL encI)) rule_1693_)), (O.fz ((encL encI) row_1694_))])) rfl ?_
  show SV _ [some (O.fz ((encL (encL encI)) rule_1693_)), some (O.fz ((encL encI) row_1694_)), none, none] _ _
  refine sv_last ?_
  exact sv_exitV (ct := fun b1699_ => (Ctl.rt (O.fz (encB (decide (b1699_ = [])))))) (st := fun b1699_ => [some (O.fz ((encL (encL encI)) rule_1693_)), some (O.fz ((encL encI) row_1694_)), none, none]) (xv_VP (xv_VP (xv_VP (xv_PV' (a := (List.map (encT encI encI) (List.zip row_1694_ (cutG row_1694_ (some (1 : Int)) none)))) (e2 := [some (O.fz ((encL (encL encI)) rule_1693_)), some (O.fz ((encL encI) row_1694_)), none, none]) (zip_M (p := (P.val ((encL encI) row_1694_))) (q := (P.val ((encL encI) (cutG row_1694_ (some (1 : Int)) none)))) (xs := row_1694_) (ys := (cutG row_1694_ (some (1 : Int)) none)) ((bnd_eq (a := (P.val ((encL encI) row_1694_))) (e := [some (O.fz ((encL (encL encI)) rule_1693_)), some (O.fz ((encL encI) row_1694_)), none, none]) rfl).trans ((bnd_eq (a := [(P.val ((encL encI) (cutG row_1694_ (some (1 : Int)) none)))]) (e := [some (O.fz ((encL (encL encI)) rule_1693_)), some (O.fz ((encL encI) row_1694_)), none, none]) ((bnd_eq (a := (P.val ((encL encI) (cutG row_1694_ (some (1 : Int)) none)))) (e := [some (O.fz ((encL (encL encI)) rule_1693_)), some (O.fz ((encL encI) row_1694_)), none, none]) ((bnd_eq (a := (List.map encI (cutG row_1694_ (some (1 : Int)) none))) (e := [some (O.fz ((encL (encL encI)) rule_1693_)), some (O.fz ((encL encI) row_1694_)), none, none]) ((bnd_eq (a := (P.val ((encL encI) row_1694_))) (e := [some (O.fz ((encL (encL encI)) rule_1693_)), some (O.fz ((encL encI) row_1694_)), none, none]) rfl).trans ((bnd_eq (a := (some (1 : Int))) (e := [some (O.fz ((encL (encL encI)) rule_1693_)), some (O.fz ((encL encI) row_1694_)), none, none]) rfl).trans ((bnd_eq (a := none) (e := [some (O.fz ((encL (encL encI)) rule_1693_)), some (O.fz ((encL encI) row_1694_)), none, none]) rfl).trans (oe_cut rfl))))).trans rfl)).trans rfl)).trans rfl)) rfl rfl) (lc_O (en := (encT encI encI)) (en' := encI) (E1 := (fun a1695_ => [some (O.fz ((encL (encL encI)) rule_1693_)), some (O.fz ((encL encI) row_1694_)), some (O.fz (encI (fst a1695_))), some (O.fz (encI (snd a1695_)))])) rfl (fun _ => rfl) (fun a1695_ => xv_map (xv_VP (xv_VP (xv_VV (t := (atI rule_1693_ (snd a1695_))) (t2 := fun b1696_ => (atI b1696_ (fst a1695_))) (cv := fun q1698_ => (P.val (encI (snd q1698_)))) (st2 := fun q1698_ => [some (O.fz ((encL (encL encI)) rule_1693_)), some (O.fz ((encL encI) row_1694_)), some (O.fz (encI (fst a1695_))), some (O.fz (encI (snd a1695_)))]) (xv_PV' (a := (P.val ((encL (encL encI)) rule_1693_))) (e2 := [some (O.fz ((encL (encL encI)) rule_1693_)), some (O.fz ((encL encI) row_1694_)), some (O.fz (encI (fst a1695_))), some (O.fz (encI (snd a1695_)))]) rfl (xv_PV' (a := (P.val (encI (snd a1695_)))) (e2 := [some (O.fz ((encL (encL encI)) rule_1693_)), some (O.fz ((encL encI) row_1694_)), some (O.fz (encI (fst a1695_))), some (O.fz (encI (snd a1695_)))]) rfl (xo_ix rfl))) (fun b1696_ => (xv_PV' (a := (P.val (encI (fst a1695_)))) (e2 := [some (O.fz ((encL (encL encI)) rule_1693_)), some (O.fz ((encL encI) row_1694_)), some (O.fz (encI (fst a1695_))), some (O.fz (encI (snd a1695_)))]) rfl (xo_ix rfl)))) (fun q1698_ => ((bnd_eq (a := (P.val (encI (-(1 : Int))))) (e := [some (O.fz ((encL (encL encI)) rule_1693_)), some (O.fz ((encL encI) row_1694_)), some (O.fz (encI (fst a1695_))), some (O.fz (encI (snd a1695_)))]) rfl).trans (oe_eq (a := (snd q1698_)) (b := (-(1 : Int))) eo_I rfl rfl)))) (fun q1698_ => rfl))) (fun a1695_ => xv_some rfl) (fun _ => rfl))) (fun b1699_ => rfl)) (fun b1699_ => ((bnd_eq (a := (P.val ((encL encD) []))) (e := [some (O.fz ((encL (encL encI)) rule_1693_)), some (O.fz ((encL encI) row_1694_)), none, none]) rfl).trans (oe_eq (a := b1699_) (b := []) (eo_L eo_I) rfl rfl)))) (fun b1699_ => rfl)) (fun _ h => nomatch h) (fun _ => ⟨.inl rfl, rfl⟩)
def t__law_strict (rule_1700_ : (List (List Int))) (row_1701_ : (List Int)) : Option Bool := (cmpO (fun a1702_ => ((atI rule_1700_ (fst a1702_)).bind fun b1703_ => (atI b1703_ (snd a1702_)).map fun b1704_ => (b1703_, b1704_)).map fun q1705_ => (!(decide ((snd q1705_) = (-(1 : Int)))))) (fun a1702_ => some (fst a1702_)) (List.zip row_1701_ (cutG row_1701_ (some (1 : Int)) none))).map fun b1706_ => (decide (b1706_ = []))
theorem tk__law_strict (rule_1700_ : (List (List Int))) (row_1701_ : (List Int)) : ∀ bb, t__law_strict rule_1700_ row_1701_ = some bb → m__law_strict [(O.fz ((encL (encL encI)) rule_1700_)), (O.fz ((encL encI) row_1701_))] = some ((fun (bb : Bool) => (O.fz (encB bb))) bb, (fun (bb : Bool) => [(O.fz ((encL (encL encI)) rule_1700_)), (O.fz ((encL encI) row_1701_))]) bb) := by
  unfold t__law_strict m__law_strict
  refine def_T (ro := (fun (bb : Bool) => (O.fz (encB bb)))) (ios := (fun (bb : Bool) => [(O.fz ((encL (encL encI)) rule_1700_)), (O.fz ((encL encI) row_1701_))])) rfl ?_
  show SV _ [some (O.fz ((encL (encL encI)) rule_1700_)), some (O.fz ((encL encI) row_1701_)), none, none] _ _
  refine sv_last ?_
  exact sv_exitV (ct := fun b1706_ => (Ctl.rt (O.fz (encB (decide (b1706_ = [])))))) (st := fun b1706_ => [some (O.fz ((encL (encL encI)) rule_1700_)), some (O.fz ((encL encI) row_1701_)), none, none]) (xv_VP (xv_VP (xv_VP (xv_PV' (a := (List.map (encT encI encI) (List.zip row_1701_ (cutG row_1701_ (some (1 : Int)) none)))) (e2 := [some (O.fz ((encL (encL encI)) rule_1700_)), some (O.fz ((encL encI) row_1701_)), none, none]) (zip_M (p := (P.val ((encL encI) row_1701_))) (q := (P.val ((encL encI) (cutG row_1701_ (some (1 : Int)) none)))) (xs := row_1701_) (ys := (cutG row_1701_ (some (1 : Int)) none)) ((bnd_eq (a := (P.val ((encL encI) row_1701_))) (e := [some (O.fz ((encL (encL encI)) rule_1700_)), some (O.fz ((encL encI) row_1701_)), none, none]) rfl).trans ((bnd_eq (a := [(P.val ((encL encI) (cutG row_1701_ (some (1 : Int)) none)))]) (e := [some (O.fz ((encL (encL encI)) rule_1700_)), some (O.fz ((encL encI) row_1701_)), none, none]) ((bnd_eq (a := (P.val ((encL encI) (cutG row_1701_ (some (1 : Int)) none)))) (e := [some (O.fz ((encL (encL encI)) rule_1700_)), some (O.fz ((encL encI) row_1701_)), none, none]) ((bnd_eq (a := (List.map encI (cutG row_1701_ (some (1 : Int)) none))) (e := [some (O.fz ((encL (encL encI)) rule_1700_)), some (O.fz ((encL encI) row_1701_)), none, none]) ((bnd_eq (a := (P.val ((encL encI) row_1701_))) (e := [some (O.fz ((encL (encL encI)) rule_1700_)), some (O.fz ((encL encI) row_1701_)), none, none]) rfl).trans ((bnd_eq (a := (some (1 : Int))) (e := [some (O.fz ((encL (encL encI)) rule_1700_)), some (O.fz ((encL encI) row_1701_)), none, none]) rfl).trans ((bnd_eq (a := none) (e := [some (O.fz ((encL (encL encI)) rule_1700_)), some (O.fz ((encL encI) row_1701_)), none, none]) rfl).trans (oe_cut rfl))))).trans rfl)).trans rfl)).trans rfl)) rfl rfl) (lc_O (en := (encT encI encI)) (en' := encI) (E1 := (fun a1702_ => [some (O.fz ((encL (encL encI)) rule_1700_)), some (O.fz ((encL encI) row_1701_)), some (O.fz (encI (fst a1702_))), some (O.fz (encI (snd a1702_)))])) rfl (fun _ => rfl) (fun a1702_ => xv_map (xv_VP (xv_VP (xv_VV (t := (atI rule_1700_ (fst a1702_))) (t2 := fun b1703_ => (atI b1703_ (snd a1702_))) (cv := fun q1705_ => (P.val (encI (snd q1705_)))) (st2 := fun q1705_ => [some (O.fz ((encL (encL encI)) rule_1700_)), some (O.fz ((encL encI) row_1701_)), some (O.fz (encI (fst a1702_))), some (O.fz (encI (snd a1702_)))]) (xv_PV' (a := (P.val ((encL (encL encI)) rule_1700_))) (e2 := [some (O.fz ((encL (encL encI)) rule_1700_)), some (O.fz ((encL encI) row_1701_)), some (O.fz (encI (fst a1702_))), some (O.fz (encI (snd a1702_)))]) rfl (xv_PV' (a := (P.val (encI (fst a1702_)))) (e2 := [some (O.fz ((encL (encL encI)) rule_1700_)), some (O.fz ((encL encI) row_1701_)), some (O.fz (encI (fst a1702_))), some (O.fz (encI (snd a1702_)))]) rfl (xo_ix rfl))) (fun b1703_ => (xv_PV' (a := (P.val (encI (snd a1702_)))) (e2 := [some (O.fz ((encL (encL encI)) rule_1700_)), some (O.fz ((encL encI) row_1701_)), some (O.fz (encI (fst a1702_))), some (O.fz (encI (snd a1702_)))]) rfl (xo_ix rfl)))) (fun q1705_ => ((bnd_eq (a := (P.val (encI (-(1 : Int))))) (e := [some (O.fz ((encL (encL encI)) rule_1700_)), some (O.fz ((encL encI) row_1701_)), some (O.fz (encI (fst a1702_))), some (O.fz (encI (snd a1702_)))]) rfl).trans (oe_eq (a := (snd q1705_)) (b := (-(1 : Int))) eo_I rfl rfl)))) (fun q1705_ => rfl))) (fun a1702_ => xv_some rfl) (fun _ => rfl))) (fun b1706_ => rfl)) (fun b1706_ => ((bnd_eq (a := (P.val ((encL encD) []))) (e := [some (O.fz ((encL (encL encI)) rule_1700_)), some (O.fz ((encL encI) row_1701_)), none, none]) rfl).trans (oe_eq (a := b1706_) (b := []) (eo_L eo_I) rfl rfl)))) (fun b1706_ => rfl)) (fun _ h => nomatch h) (fun _ => ⟨.inl rfl, rfl⟩)
def t__law_right (draws_1707_ : (Int × Int × Bool)) : Option (Bool × (Int × Int × Bool)) := ((t__law_next draws_1707_).bind fun b1708_ => (t__law_rule (snd b1708_) (Int.fmod (fst b1708_) (7 : Int))).map fun b1709_ => (b1708_, b1709_)).bind fun q1710_ => (some (fst (snd q1710_))).bind fun (rule_1711_ : (List (List Int))) => (some (snd (snd q1710_))).bind fun (draws_1713_ : (Int × Int × Bool)) => ((rngV 0 ((List.length rule_1711_ : Nat) : Int)).bind fun b1715_ => (t__law_orders b1715_).map fun b1716_ => (b1715_, b1716_)).bind fun q1717_ => (some (snd q1717_)).bind fun (rows_1718_ : (List (List Int))) => (cmpO (fun a1720_ => (t__law_path rule_1711_ a1720_).map fun b1721_ => b1721_) (fun a1720_ => some a1720_) rows_1718_).bind fun b1722_ => (some ((List.length b1722_ : Nat) : Int)).bind fun (paths_1723_ : Int) => (cmpO (fun a1725_ => (t__law_strict rule_1711_ a1725_).map fun b1726_ => b1726_) (fun a1725_ => some a1725_) rows_1718_).bind fun b1727_ => (some ((List.length b1727_ : Nat) : Int)).bind fun (strict_1728_ : Int) => (((t_count_paths rule_1711_).map fun b1730_ => ((!(decide (b1730_ = paths_1723_))), ())).bind fun b1733_ => if (fst b1733_) = true then some (true, (snd b1733_)) else (fun s1731_ => (some ((!(decide ((Int.fmod (paths_1723_ - strict_1728_) (2 : Int)) = (0 : Int)))), ()))) (snd b1733_)).bind fun b1732_ => if (fst b1732_) = true then (some (false, draws_1713_)) else (((t__law_next draws_1713_).bind fun b1734_ => (t__law_rule (snd b1734_) ((7 : Int) + (Int.fmod (fst b1734_) (3 : Int)))).map fun b1735_ => (b1734_, b1735_)).bind fun q1736_ => (some (fst (snd q1736_))).bind fun (great_1737_ : (List (List Int))) => (some (snd (snd q1736_))).bind fun (draws_1739_ : (Int × Int × Bool)) => (cmpO (fun a1741_ => (some ((List.count (0 : Int) a1741_ : Nat) : Int)).map fun b1742_ => (decide ((1 : Int) < b1742_))) (fun a1741_ => some a1741_) great_1737_).bind fun ties_1744_ => (if (!(decide (ties_1744_ = []))) = true then some (true, ()) else ((t_count_paths great_1737_).map fun b1745_ => ((decide ((Int.fmod b1745_ (2 : Int)) = (1 : Int))), ()))).map fun b1746_ => ((fst b1746_), draws_1739_))
theorem tk__law_right (draws_1707_ : (Int × Int × Bool)) : ∀ bb, t__law_right draws_1707_ = some bb → m__law_right [(O.ow [(encI (fst draws_1707_)), (encI (fst (snd draws_1707_))), (encB (snd (snd draws_1707_)))])] = some ((fun (bb : (Bool × (Int × Int × Bool))) => (O.fz (encB (fst bb)))) bb, (fun (bb : (Bool × (Int × Int × Bool))) => [(O.ow [(encI (fst (snd bb))), (encI (fst (snd (snd bb)))), (encB (snd (snd (snd bb))))])]) bb) := by
  unfold t__law_right m__law_right
  refine def_T (ro := (fun (bb : (Bool × (Int × Int × Bool))) => (O.fz (encB (fst bb))))) (ios := (fun (bb : (Bool × (Int × Int × Bool))) => [(O.ow [(encI (fst (snd bb))), (encI (fst (snd (snd bb)))), (encB (snd (snd (snd bb))))])])) rfl ?_
  show SV _ [some (O.ow [(encI (fst draws_1707_)), (encI (fst (snd draws_1707_))), (encB (snd (snd draws_1707_)))]), none, none, none, none, none, none, none, none] _ _
  refine sv_last ?_
  refine sv_assoc ?_
  refine sv_V (st := fun q1710_ => [some (O.ow [(encI (fst (snd (snd q1710_)))), (encI (fst (snd (snd (snd q1710_))))), (encB (snd (snd (snd (snd q1710_)))))]), some (O.fz ((encL (encL encI)) (fst (snd q1710_)))), none, none, none, none, none, none, none]) (xv_VP (xv_VP (xv_VV (t := (t__law_next draws_1707_)) (t2 := fun b1708_ => (t__law_rule (snd b1708_) (Int.fmod (fst b1708_) (7 : Int)))) (cv := fun q1710_ => (O.fz ((encL (encL encI)) (fst (snd q1710_))))) (st2 := fun q1710_ => [some (O.ow [(encI (fst (snd (snd q1710_)))), (encI (fst (snd (snd (snd q1710_))))), (encB (snd (snd (snd (snd q1710_)))))]), none, none, none, none, none, none, none, none]) (xv_PV' (a := (P.var 0)) (e2 := [some (O.ow [(encI (fst draws_1707_)), (encI (fst (snd draws_1707_))), (encB (snd (snd draws_1707_)))]), none, none, none, none, none, none, none, none]) rfl (xv_VP (xv_VP (xv_VP (xv_VP (xv_VP (xv_VP (xv_PV' (a := [(P.var 0)]) (e2 := [some (O.ow [(encI (fst draws_1707_)), (encI (fst (snd draws_1707_))), (encB (snd (snd draws_1707_)))]), none, none, none, none, none, none, none, none]) rfl (xo_call (tk__law_next draws_1707_) rfl rfl rfl (fun _ => rfl))) (fun b1708_ => rfl)) (fun b1708_ => rfl)) (fun b1708_ => rfl)) (fun b1708_ => rfl)) (fun b1708_ => rfl)) (fun b1708_ => rfl))) (fun b1708_ => (xo_call (tk__law_rule (snd b1708_) (Int.fmod (fst b1708_) (7 : Int))) rfl rfl rfl (fun _ => rfl)))) (fun q1710_ => rfl)) (fun q1710_ => rfl)) ?_
  intro q1710_
  refine sv_let (v := (fst (snd q1710_))) (E := fun (y1712_ : (List (List Int))) => [some (O.ow [(encI (fst (snd (snd q1710_)))), (encI (fst (snd (snd (snd q1710_))))), (encB (snd (snd (snd (snd q1710_)))))]), some (O.fz ((encL (encL encI)) y1712_)), none, none, none, none, none, none, none]) ?_
  intro rule_1711_
  refine sv_let (v := (snd (snd q1710_))) (E := fun (y1714_ : (Int × Int × Bool)) => [some (O.ow [(encI (fst y1714_)), (encI (fst (snd y1714_))), (encB (snd (snd y1714_)))]), some (O.fz ((encL (encL encI)) rule_1711_)), none, none, none, none, none, none, none]) ?_
  intro draws_1713_
  refine sv_assoc ?_
  refine sv_V (st := fun q1717_ => [some (O.ow [(encI (fst draws_1713_)), (encI (fst (snd draws_1713_))), (encB (snd (snd draws_1713_)))]), some (O.fz ((encL (encL encI)) rule_1711_)), some (O.fz ((encL (encL encI)) (snd q1717_))), none, none, none, none, none, none]) (xv_VP (xv_VP (xv_VV (t := (rngV 0 ((List.length rule_1711_ : Nat) : Int))) (t2 := fun b1715_ => (t__law_orders b1715_)) (cv := fun q1717_ => (O.fz ((encL (encL encI)) (snd q1717_)))) (st2 := fun q1717_ => [some (O.ow [(encI (fst draws_1713_)), (encI (fst (snd draws_1713_))), (encB (snd (snd draws_1713_)))]), some (O.fz ((encL (encL encI)) rule_1711_)), none, none, none, none, none, none, none]) (xv_VP (xv_VP (xv_PV' (a := (P.val (encI ((List.length rule_1711_ : Nat) : Int)))) (e2 := [some (O.ow [(encI (fst draws_1713_)), (encI (fst (snd draws_1713_))), (encB (snd (snd draws_1713_)))]), some (O.fz ((encL (encL encI)) rule_1711_)), none, none, none, none, none, none, none]) ((bnd_eq (a := [(P.val ((encL (encL encI)) rule_1711_))]) (e := [some (O.ow [(encI (fst draws_1713_)), (encI (fst (snd draws_1713_))), (encB (snd (snd draws_1713_)))]), some (O.fz ((encL (encL encI)) rule_1711_)), none, none, none, none, none, none, none]) rfl).trans (oe_len rfl)) xo_lrg1) (fun b1715_ => rfl)) (fun b1715_ => rfl)) (fun b1715_ => (xo_call (tk__law_orders b1715_) rfl rfl rfl (fun _ => rfl)))) (fun q1717_ => rfl)) (fun q1717_ => rfl)) ?_
  intro q1717_
  refine sv_let (v := (snd q1717_)) (E := fun (y1719_ : (List (List Int))) => [some (O.ow [(encI (fst draws_1713_)), (encI (fst (snd draws_1713_))), (encB (snd (snd draws_1713_)))]), some (O.fz ((encL (encL encI)) rule_1711_)), some (O.fz ((encL (encL encI)) y1719_)), none, none, none, none, none, none]) ?_
  intro rows_1718_
  refine sv_assoc ?_
  refine sv_V (st := fun b1722_ => [some (O.ow [(encI (fst draws_1713_)), (encI (fst (snd draws_1713_))), (encB (snd (snd draws_1713_)))]), some (O.fz ((encL (encL encI)) rule_1711_)), some (O.fz ((encL (encL encI)) rows_1718_)), some (O.fz (encI ((List.length b1722_ : Nat) : Int))), none, none, none, none, none]) (xv_VP (xv_VP (xv_VP (xv_VP (xv_PV' (a := (List.map (encL encI) rows_1718_)) (e2 := [some (O.ow [(encI (fst draws_1713_)), (encI (fst (snd draws_1713_))), (encB (snd (snd draws_1713_)))]), some (O.fz ((encL (encL encI)) rule_1711_)), some (O.fz ((encL (encL encI)) rows_1718_)), none, none, none, none, none, none]) rfl (lc_O (en := (encL encI)) (en' := (encL encI)) (E1 := (fun a1720_ => [some (O.ow [(encI (fst draws_1713_)), (encI (fst (snd draws_1713_))), (encB (snd (snd draws_1713_)))]), some (O.fz ((encL (encL encI)) rule_1711_)), some (O.fz ((encL (encL encI)) rows_1718_)), none, none, none, none, none, some (O.fz ((encL encI) a1720_))])) rfl (fun _ => rfl) (fun a1720_ => xv_map (xv_VP (xv_VP (xv_PV' (a := [(P.val ((encL (encL encI)) rule_1711_)), (P.val ((encL encI) a1720_))]) (e2 := [some (O.ow [(encI (fst draws_1713_)), (encI (fst (snd draws_1713_))), (encB (snd (snd draws_1713_)))]), some (O.fz ((encL (encL encI)) rule_1711_)), some (O.fz ((encL (encL encI)) rows_1718_)), none, none, none, none, none, some (O.fz ((encL encI) a1720_))]) rfl (xo_call (tk__law_path rule_1711_ a1720_) rfl rfl rfl (fun _ => rfl))) (fun b1721_ => rfl)) (fun b1721_ => rfl))) (fun a1720_ => xv_some rfl) (fun _ => rfl))) (fun b1722_ => rfl)) (fun b1722_ => rfl)) (fun b1722_ => (oe_len rfl))) (fun b1722_ => rfl)) ?_
  intro b1722_
  refine sv_let (v := ((List.length b1722_ : Nat) : Int)) (E := fun (y1724_ : Int) => [some (O.ow [(encI (fst draws_1713_)), (encI (fst (snd draws_1713_))), (encB (snd (snd draws_1713_)))]), some (O.fz ((encL (encL encI)) rule_1711_)), some (O.fz ((encL (encL encI)) rows_1718_)), some (O.fz (encI y1724_)), none, none, none, none, none]) ?_
  intro paths_1723_
  refine sv_assoc ?_
  refine sv_V (st := fun b1727_ => [some (O.ow [(encI (fst draws_1713_)), (encI (fst (snd draws_1713_))), (encB (snd (snd draws_1713_)))]), some (O.fz ((encL (encL encI)) rule_1711_)), some (O.fz ((encL (encL encI)) rows_1718_)), some (O.fz (encI paths_1723_)), some (O.fz (encI ((List.length b1727_ : Nat) : Int))), none, none, none, none]) (xv_VP (xv_VP (xv_VP (xv_VP (xv_PV' (a := (List.map (encL encI) rows_1718_)) (e2 := [some (O.ow [(encI (fst draws_1713_)), (encI (fst (snd draws_1713_))), (encB (snd (snd draws_1713_)))]), some (O.fz ((encL (encL encI)) rule_1711_)), some (O.fz ((encL (encL encI)) rows_1718_)), some (O.fz (encI paths_1723_)), none, none, none, none, none]) rfl (lc_O (en := (encL encI)) (en' := (encL encI)) (E1 := (fun a1725_ => [some (O.ow [(encI (fst draws_1713_)), (encI (fst (snd draws_1713_))), (encB (snd (snd draws_1713_)))]), some (O.fz ((encL (encL encI)) rule_1711_)), some (O.fz ((encL (encL encI)) rows_1718_)), some (O.fz (encI paths_1723_)), none, none, none, none, some (O.fz ((encL encI) a1725_))])) rfl (fun _ => rfl) (fun a1725_ => xv_map (xv_VP (xv_VP (xv_PV' (a := [(P.val ((encL (encL encI)) rule_1711_)), (P.val ((encL encI) a1725_))]) (e2 := [some (O.ow [(encI (fst draws_1713_)), (encI (fst (snd draws_1713_))), (encB (snd (snd draws_1713_)))]), some (O.fz ((encL (encL encI)) rule_1711_)), some (O.fz ((encL (encL encI)) rows_1718_)), some (O.fz (encI paths_1723_)), none, none, none, none, some (O.fz ((encL encI) a1725_))]) rfl (xo_call (tk__law_strict rule_1711_ a1725_) rfl rfl rfl (fun _ => rfl))) (fun b1726_ => rfl)) (fun b1726_ => rfl))) (fun a1725_ => xv_some rfl) (fun _ => rfl))) (fun b1727_ => rfl)) (fun b1727_ => rfl)) (fun b1727_ => (oe_len rfl))) (fun b1727_ => rfl)) ?_
  intro b1727_
  refine sv_let (v := ((List.length b1727_ : Nat) : Int)) (E := fun (y1729_ : Int) => [some (O.ow [(encI (fst draws_1713_)), (encI (fst (snd draws_1713_))), (encB (snd (snd draws_1713_)))]), some (O.fz ((encL (encL encI)) rule_1711_)), some (O.fz ((encL (encL encI)) rows_1718_)), some (O.fz (encI paths_1723_)), some (O.fz (encI y1729_)), none, none, none, none]) ?_
  intro strict_1728_
  refine sv_assoc ?_
  refine sv_ifV (st := fun b1732_ => [some (O.ow [(encI (fst draws_1713_)), (encI (fst (snd draws_1713_))), (encB (snd (snd draws_1713_)))]), some (O.fz ((encL (encL encI)) rule_1711_)), some (O.fz ((encL (encL encI)) rows_1718_)), some (O.fz (encI paths_1723_)), some (O.fz (encI strict_1728_)), none, none, none, none]) (xv_orV (E := (fun s1731_ => [some (O.ow [(encI (fst draws_1713_)), (encI (fst (snd draws_1713_))), (encB (snd (snd draws_1713_)))]), some (O.fz ((encL (encL encI)) rule_1711_)), some (O.fz ((encL (encL encI)) rows_1718_)), some (O.fz (encI paths_1723_)), some (O.fz (encI strict_1728_)), none, none, none, none])) (t2 := (fun s1731_ => (some ((!(decide ((Int.fmod (paths_1723_ - strict_1728_) (2 : Int)) = (0 : Int)))), ())))) (xv_map (t := (t_count_paths rule_1711_)) (f := fun b1730_ => ((!(decide (b1730_ = paths_1723_))), ())) (xv_VP (xv_VP (xv_VP (xv_PV' (a := [(P.val ((encL (encL encI)) rule_1711_))]) (e2 := [some (O.ow [(encI (fst draws_1713_)), (encI (fst (snd draws_1713_))), (encB (snd (snd draws_1713_)))]), some (O.fz ((encL (encL encI)) rule_1711_)), some (O.fz ((encL (encL encI)) rows_1718_)), some (O.fz (encI paths_1723_)), some (O.fz (encI strict_1728_)), none, none, none, none]) rfl (xo_call (tk_count_paths rule_1711_) rfl rfl rfl (fun _ => rfl))) (fun b1730_ => rfl)) (fun b1730_ => ((bnd_eq (a := (P.val (encI paths_1723_))) (e := [some (O.ow [(encI (fst draws_1713_)), (encI (fst (snd draws_1713_))), (encB (snd (snd draws_1713_)))]), some (O.fz ((encL (encL encI)) rule_1711_)), some (O.fz ((encL (encL encI)) rows_1718_)), some (O.fz (encI paths_1723_)), some (O.fz (encI strict_1728_)), none, none, none, none]) rfl).trans (oe_eq (a := b1730_) (b := paths_1723_) eo_I rfl rfl)))) (fun b1730_ => rfl))) (fun s1731_ => (xv_some ((bnd_eq (a := (P.val (encB (!(decide ((Int.fmod (paths_1723_ - strict_1728_) (2 : Int)) = (0 : Int))))))) (e := [some (O.ow [(encI (fst draws_1713_)), (encI (fst (snd draws_1713_))), (encB (snd (snd draws_1713_)))]), some (O.fz ((encL (encL encI)) rule_1711_)), some (O.fz ((encL (encL encI)) rows_1718_)), some (O.fz (encI paths_1723_)), some (O.fz (encI strict_1728_)), none, none, none, none]) ((bnd_eq (a := (P.val (encI (Int.fmod (paths_1723_ - strict_1728_) (2 : Int))))) (e := [some (O.ow [(encI (fst draws_1713_)), (encI (fst (snd draws_1713_))), (encB (snd (snd draws_1713_)))]), some (O.fz ((encL (encL encI)) rule_1711_)), some (O.fz ((encL (encL encI)) rows_1718_)), some (O.fz (encI paths_1723_)), some (O.fz (encI strict_1728_)), none, none, none, none]) rfl).trans ((bnd_eq (a := (P.val (encI (0 : Int)))) (e := [some (O.ow [(encI (fst draws_1713_)), (encI (fst (snd draws_1713_))), (encB (snd (snd draws_1713_)))]), some (O.fz ((encL (encL encI)) rule_1711_)), some (O.fz ((encL (encL encI)) rows_1718_)), some (O.fz (encI paths_1723_)), some (O.fz (encI strict_1728_)), none, none, none, none]) rfl).trans (oe_eq (a := (Int.fmod (paths_1723_ - strict_1728_) (2 : Int))) (b := (0 : Int)) eo_I rfl rfl)))).trans rfl)))) ?_ ?_
  · intro b1732_
    exact sv_exit (ct := (Ctl.rt (O.fz (encB false)))) (e := [some (O.ow [(encI (fst draws_1713_)), (encI (fst (snd draws_1713_))), (encB (snd (snd draws_1713_)))]), some (O.fz ((encL (encL encI)) rule_1711_)), some (O.fz ((encL (encL encI)) rows_1718_)), some (O.fz (encI paths_1723_)), some (O.fz (encI strict_1728_)), none, none, none, none]) rfl (fun h => nomatch h) ⟨.inl rfl, rfl⟩
  · intro b1732_
    refine sv_nx (e := [some (O.ow [(encI (fst draws_1713_)), (encI (fst (snd draws_1713_))), (encB (snd (snd draws_1713_)))]), some (O.fz ((encL (encL encI)) rule_1711_)), some (O.fz ((encL (encL encI)) rows_1718_)), some (O.fz (encI paths_1723_)), some (O.fz (encI strict_1728_)), none, none, none, none]) rfl ?_
    refine sv_assoc ?_
    refine sv_V (st := fun q1736_ => [some (O.ow [(encI (fst (snd (snd q1736_)))), (encI (fst (snd (snd (snd q1736_))))), (encB (snd (snd (snd (snd q1736_)))))]), some (O.fz ((encL (encL encI)) rule_1711_)), some (O.fz ((encL (encL encI)) rows_1718_)), some (O.fz (encI paths_1723_)), some (O.fz (encI strict_1728_)), some (O.fz ((encL (encL encI)) (fst (snd q1736_)))), none, none, none]) (xv_VP (xv_VP (xv_VV (t := (t__law_next draws_1713_)) (t2 := fun b1734_ => (t__law_rule (snd b1734_) ((7 : Int) + (Int.fmod (fst b1734_) (3 : Int))))) (cv := fun q1736_ => (O.fz ((encL (encL encI)) (fst (snd q1736_))))) (st2 := fun q1736_ => [some (O.ow [(encI (fst (snd (snd q1736_)))), (encI (fst (snd (snd (snd q1736_))))), (encB (snd (snd (snd (snd q1736_)))))]), some (O.fz ((encL (encL encI)) rule_1711_)), some (O.fz ((encL (encL encI)) rows_1718_)), some (O.fz (encI paths_1723_)), some (O.fz (encI strict_1728_)), none, none, none, none]) (xv_PV' (a := (P.var 0)) (e2 := [some (O.ow [(encI (fst draws_1713_)), (encI (fst (snd draws_1713_))), (encB (snd (snd draws_1713_)))]), some (O.fz ((encL (encL encI)) rule_1711_)), some (O.fz ((encL (encL encI)) rows_1718_)), some (O.fz (encI paths_1723_)), some (O.fz (encI strict_1728_)), none, none, none, none]) rfl (xv_VP (xv_VP (xv_PV' (a := (P.val (encI (7 : Int)))) (e2 := [some (O.ow [(encI (fst draws_1713_)), (encI (fst (snd draws_1713_))), (encB (snd (snd draws_1713_)))]), some (O.fz ((encL (encL encI)) rule_1711_)), some (O.fz ((encL (encL encI)) rows_1718_)), some (O.fz (encI paths_1723_)), some (O.fz (encI strict_1728_)), none, none, none, none]) rfl (xv_VP (xv_VP (xv_VP (xv_VP (xv_VP (xv_PV' (a := [(P.var 0)]) (e2 := [some (O.ow [(encI (fst draws_1713_)), (encI (fst (snd draws_1713_))), (encB (snd (snd draws_1713_)))]), some (O.fz ((encL (encL encI)) rule_1711_)), some (O.fz ((encL (encL encI)) rows_1718_)), some (O.fz (encI paths_1723_)), some (O.fz (encI strict_1728_)), none, none, none, none]) rfl (xo_call (tk__law_next draws_1713_) rfl rfl rfl (fun _ => rfl))) (fun b1734_ => rfl)) (fun b1734_ => rfl)) (fun b1734_ => rfl)) (fun b1734_ => rfl)) (fun b1734_ => rfl))) (fun b1734_ => rfl)) (fun b1734_ => rfl))) (fun b1734_ => (xo_call (tk__law_rule (snd b1734_) ((7 : Int) + (Int.fmod (fst b1734_) (3 : Int)))) rfl rfl rfl (fun _ => rfl)))) (fun q1736_ => rfl)) (fun q1736_ => rfl)) ?_
    intro q1736_
    refine sv_let (v := (fst (snd q1736_))) (E := fun (y1738_ : (List (List Int))) => [some (O.ow [(encI (fst (snd (snd q1736_)))), (encI (fst (snd (snd (snd q1736_))))), (encB (snd (snd (snd (snd q1736_)))))]), some (O.fz ((encL (encL encI)) rule_1711_)), some (O.fz ((encL (encL encI)) rows_1718_)), some (O.fz (encI paths_1723_)), some (O.fz (encI strict_1728_)), some (O.fz ((encL (encL encI)) y1738_)), none, none, none]) ?_
    intro great_1737_
    refine sv_let (v := (snd (snd q1736_))) (E := fun (y1740_ : (Int × Int × Bool)) => [some (O.ow [(encI (fst y1740_)), (encI (fst (snd y1740_))), (encB (snd (snd y1740_)))]), some (O.fz ((encL (encL encI)) rule_1711_)), some (O.fz ((encL (encL encI)) rows_1718_)), some (O.fz (encI paths_1723_)), some (O.fz (encI strict_1728_)), some (O.fz ((encL (encL encI)) great_1737_)), none, none, none]) ?_
    intro draws_1739_
    refine sv_assoc ?_
    refine sv_V (st := fun b1743_ => [some (O.ow [(encI (fst draws_1739_)), (encI (fst (snd draws_1739_))), (encB (snd (snd draws_1739_)))]), some (O.fz ((encL (encL encI)) rule_1711_)), some (O.fz ((encL (encL encI)) rows_1718_)), some (O.fz (encI paths_1723_)), some (O.fz (encI strict_1728_)), some (O.fz ((encL (encL encI)) great_1737_)), some (O.fz ((encL (encL encI)) b1743_)), none, none]) (xv_VP (xv_VP (xv_PV' (a := (List.map (encL encI) great_1737_)) (e2 := [some (O.ow [(encI (fst draws_1739_)), (encI (fst (snd draws_1739_))), (encB (snd (snd draws_1739_)))]), some (O.fz ((encL (encL encI)) rule_1711_)), some (O.fz ((encL (encL encI)) rows_1718_)), some (O.fz (encI paths_1723_)), some (O.fz (encI strict_1728_)), some (O.fz ((encL (encL encI)) great_1737_)), none, none, none]) rfl (lc_O (en := (encL encI)) (en' := (encL encI)) (E1 := (fun a1741_ => [some (O.ow [(encI (fst draws_1739_)), (encI (fst (snd draws_1739_))), (encB (snd (snd draws_1739_)))]), some (O.fz ((encL (encL encI)) rule_1711_)), some (O.fz ((encL (encL encI)) rows_1718_)), some (O.fz (encI paths_1723_)), some (O.fz (encI strict_1728_)), some (O.fz ((encL (encL encI)) great_1737_)), none, some (O.fz ((encL encI) a1741_)), none])) rfl (fun _ => rfl) (fun a1741_ => xv_map (xv_VP (xv_VP (xv_cnt (p := (P.val ((encL encI) a1741_))) rfl rfl (xv_PV' (a := (P.val (encI (0 : Int)))) (e2 := [some (O.ow [(encI (fst draws_1739_)), (encI (fst (snd draws_1739_))), (encB (snd (snd draws_1739_)))]), some (O.fz ((encL (encL encI)) rule_1711_)), some (O.fz ((encL (encL encI)) rows_1718_)), some (O.fz (encI paths_1723_)), some (O.fz (encI strict_1728_)), some (O.fz ((encL (encL encI)) great_1737_)), none, some (O.fz ((encL encI) a1741_)), none]) rfl (xo_cnt rfl))) (fun b1742_ => rfl)) (fun b1742_ => rfl))) (fun a1741_ => xv_some rfl) (fun _ => rfl))) (fun b1743_ => rfl)) (fun b1743_ => rfl)) ?_
    intro ties_1744_
    exact sv_exitV (ct := fun b1746_ => (Ctl.rt (O.fz (encB (fst b1746_))))) (st := fun b1746_ => [some (O.ow [(encI (fst draws_1739_)), (encI (fst (snd draws_1739_))), (encB (snd (snd draws_1739_)))]), some (O.fz ((encL (encL encI)) rule_1711_)), some (O.fz ((encL (encL encI)) rows_1718_)), some (O.fz (encI paths_1723_)), some (O.fz (encI strict_1728_)), some (O.fz ((encL (encL encI)) great_1737_)), some (O.fz ((encL (encL encI)) ties_1744_)), none, none]) (xv_VP (xv_orVP (s := ()) (E := (fun s1747_ => [some (O.ow [(encI (fst draws_1739_)), (encI (fst (snd draws_1739_))), (encB (snd (snd draws_1739_)))]), some (O.fz ((encL (encL encI)) rule_1711_)), some (O.fz ((encL (encL encI)) rows_1718_)), some (O.fz (encI paths_1723_)), some (O.fz (encI strict_1728_)), some (O.fz ((encL (encL encI)) great_1737_)), some (O.fz ((encL (encL encI)) ties_1744_)), none, none])) ((bnd_eq (a := (P.val ((encL (encL encI)) ties_1744_))) (e := [some (O.ow [(encI (fst draws_1739_)), (encI (fst (snd draws_1739_))), (encB (snd (snd draws_1739_)))]), some (O.fz ((encL (encL encI)) rule_1711_)), some (O.fz ((encL (encL encI)) rows_1718_)), some (O.fz (encI paths_1723_)), some (O.fz (encI strict_1728_)), some (O.fz ((encL (encL encI)) great_1737_)), some (O.fz ((encL (encL encI)) ties_1744_)), none, none]) rfl).trans ((bnd_eq (a := (P.val ((encL encD) []))) (e := [some (O.ow [(encI (fst draws_1739_)), (encI (fst (snd draws_1739_))), (encB (snd (snd draws_1739_)))]), some (O.fz ((encL (encL encI)) rule_1711_)), some (O.fz ((encL (encL encI)) rows_1718_)), some (O.fz (encI paths_1723_)), some (O.fz (encI strict_1728_)), some (O.fz ((encL (encL encI)) great_1737_)), some (O.fz ((encL (encL encI)) ties_1744_)), none, none]) rfl).trans (oe_eq (a := ties_1744_) (b := []) (eo_L (eo_L eo_I)) rfl rfl))) (xv_map (t := (t_count_paths great_1737_)) (f := fun b1745_ => ((decide ((Int.fmod b1745_ (2 : Int)) = (1 : Int))), ())) (xv_VP (xv_VP (xv_VP (xv_VP (xv_VP (xv_PV' (a := [(P.val ((encL (encL encI)) great_1737_))]) (e2 := [some (O.ow [(encI (fst draws_1739_)), (encI (fst (snd draws_1739_))), (encB (snd (snd draws_1739_)))]), some (O.fz ((encL (encL encI)) rule_1711_)), some (O.fz ((encL (encL encI)) rows_1718_)), some (O.fz (encI paths_1723_)), some (O.fz (encI strict_1728_)), some (O.fz ((encL (encL encI)) great_1737_)), some (O.fz ((encL (encL encI)) ties_1744_)), none, none]) rfl (xo_call (tk_count_paths great_1737_) rfl rfl rfl (fun _ => rfl))) (fun b1745_ => rfl)) (fun b1745_ => rfl)) (fun b1745_ => rfl)) (fun b1745_ => rfl)) (fun b1745_ => ((bnd_eq (a := (P.val (encI (1 : Int)))) (e := [some (O.ow [(encI (fst draws_1739_)), (encI (fst (snd draws_1739_))), (encB (snd (snd draws_1739_)))]), some (O.fz ((encL (encL encI)) rule_1711_)), some (O.fz ((encL (encL encI)) rows_1718_)), some (O.fz (encI paths_1723_)), some (O.fz (encI strict_1728_)), some (O.fz ((encL (encL encI)) great_1737_)), some (O.fz ((encL (encL encI)) ties_1744_)), none, none]) rfl).trans (oe_eq (a := (Int.fmod b1745_ (2 : Int))) (b := (1 : Int)) eo_I rfl rfl)))))) (fun b1746_ => rfl)) (fun _ h => nomatch h) (fun _ => ⟨.inl rfl, rfl⟩)
def t_law (script_1748_ : (List Int)) : Option Bool := (catG (cutG script_1748_ none (some (6 : Int))) [(0 : Int)]).bind fun b1749_ => (forR (ρ := Bool) (fun (a1750_ : Int) (s1797_ : Unit) => (t__law_draws a1750_).bind fun draws_1803_ => (rng1 (2 : Int)).bind fun b1804_ => (forR (ρ := Bool) (fun (a1805_ : Int) (s1816_ : (Int × Int × Bool)) => (t__law_right s1816_).bind fun b1819_ => if (!(fst b1819_)) = true then ((some (snd b1819_)).bind fun (draws_1820_ : (Int × Int × Bool)) => some (Rs.rt false)) else ((some (snd b1819_)).bind fun (draws_1822_ : (Int × Int × Bool)) => some (Rs.nx draws_1822_))) b1804_ draws_1803_).bind fun r => r.on (fun r => some (Rs.rt r)) (fun (draws_1824_ : (Int × Int × Bool)) => some (Rs.nx ()))) b1749_ ()).bind fun r => r.on (fun r => some r) (fun (s1797_ : Unit) => some true)
theorem tk_law {K : PySem.W.Frag} {ca : Nat → Addr} (script_1748_ : (List Int)) : ∀ bb, t_law script_1748_ = some bb → m_law K ca [(O.sc K script_1748_)] = some ((fun (bb : Bool) => (O.fz (encB bb))) bb, (fun (bb : Bool) => [(O.sc K script_1748_)]) bb) := by
  unfold t_law m_law
  refine def_T (ro := (fun (bb : Bool) => (O.fz (encB bb)))) (ios := (fun (bb : Bool) => [(O.sc K script_1748_)])) rfl ?_
  show SV _ [some (O.sc K script_1748_), none, none, none] _ _
  refine sv_last ?_
  refine sv_assoc ?_
  refine sv_forRV (en := encI) (st := fun b1749_ => [some (O.sc K script_1748_), none, none, none]) (Q := fun b1749_ => fun (s1797_ : Unit) e1801_ => ∃ u1798_, ∃ u1799_, ∃ u1800_, e1801_ = [some (O.sc K script_1748_), u1798_, u1799_, u1800_]) (PR := fun _ r c e => (c = .rt ((((fun (bb : Bool) => (O.fz (encB bb)))) r)) ∨ (c = .nx ∧ (((fun (bb : Bool) => (O.fz (encB bb)))) r) = .fz .none)) ∧ mDef.finL [] [(O.sc K script_1748_)] e = some (((fun (bb : Bool) => [(O.sc K script_1748_)])) r)) (xv_VP (xv_VP (xv_PV' (a := (P.val ((encL encI) (cutG script_1748_ none (some (6 : Int)))))) (e2 := [some (O.sc K script_1748_), none, none, none]) ((bnd_eq (a := (List.map encI (cutG script_1748_ none (some (6 : Int))))) (e := [some (O.sc K script_1748_), none, none, none]) (xo_slS rfl rfl rfl)).trans rfl) (xv_PV' (a := (P.val ((encL encI) [(0 : Int)]))) (e2 := [some (O.sc K script_1748_), none, none, none]) rfl (xo_cat rfl rfl))) (fun b1749_ => rfl)) (fun b1749_ => rfl)) (fun b1749_ => ⟨_, _, _, rfl⟩) ?_ (fun _ r c e b h hp hb => by cases hb; exact hp) ?_
  · intro b1749_
    rintro a1750_ s1797_ _ ⟨u1798_, u1799_, u1800_, rfl⟩
    refine ⟨[some (O.sc K script_1748_), some (O.fz (encI a1750_)), u1799_, u1800_], rfl, ?_⟩
    refine sv_last ?_
    refine sv_assoc ?_
    refine sv_V (st := fun b1802_ => [some (O.sc K script_1748_), some (O.fz (encI a1750_)), some (O.ow [(encI (fst b1802_)), (encI (fst (snd b1802_))), (encB (snd (snd b1802_)))]), u1800_]) (xv_VP (xv_PV' (a := [(P.val (encI a1750_))]) (e2 := [some (O.sc K script_1748_), some (O.fz (encI a1750_)), u1799_, u1800_]) rfl (xo_call (tk__law_draws a1750_) rfl rfl rfl (fun _ => rfl))) (fun b1802_ => rfl)) ?_
    intro draws_1803_
    refine sv_forRV (en := encI) (st := fun b1804_ => [some (O.sc K script_1748_), some (O.fz (encI a1750_)), some (O.ow [(encI (fst draws_1803_)), (encI (fst (snd draws_1803_))), (encB (snd (snd draws_1803_)))]), u1800_]) (Q := fun b1804_ => fun (s1816_ : (Int × Int × Bool)) e1818_ => ∃ u1817_, e1818_ = [some (O.sc K script_1748_), some (O.fz (encI a1750_)), some (O.ow [(encI (fst s1816_)), (encI (fst (snd s1816_))), (encB (snd (snd s1816_)))]), u1817_]) (PR := fun _ r c e => (c = .rt ((((fun (bb : Bool) => (O.fz (encB bb)))) r)) ∨ (c = .nx ∧ (((fun (bb : Bool) => (O.fz (encB bb)))) r) = .fz .none)) ∧ mDef.finL [] [(O.sc K script_1748_)] e = some (((fun (bb : Bool) => [(O.sc K script_1748_)])) r)) (xv_PV' (a := [(P.val (encI (2 : Int)))]) (e2 := [some (O.sc K script_1748_), some (O.fz (encI a1750_)), some (O.ow [(encI (fst draws_1803_)), (encI (fst (snd draws_1803_))), (encB (snd (snd draws_1803_)))]), u1800_]) rfl xo_rng1) (fun b1804_ => ⟨_, rfl⟩) ?_ (fun _ r c e b h hp hb => by cases hb; exact ⟨h, hp⟩) ?_
    · intro b1804_
      rintro a1805_ s1816_ _ ⟨u1817_, rfl⟩
      refine ⟨[some (O.sc K script_1748_), some (O.fz (encI a1750_)), some (O.ow [(encI (fst s1816_)), (encI (fst (snd s1816_))), (encB (snd (snd s1816_)))]), some (O.fz (encI a1805_))], rfl, ?_⟩
      refine sv_last ?_
      refine sv_ifV (st := fun b1819_ => [some (O.sc K script_1748_), some (O.fz (encI a1750_)), some (O.ow [(encI (fst (snd b1819_))), (encI (fst (snd (snd b1819_)))), (encB (snd (snd (snd b1819_))))]), some (O.fz (encI a1805_))]) (xv_not (xv_VP (xv_VP (xv_PV' (a := [(P.var 2)]) (e2 := [some (O.sc K script_1748_), some (O.fz (encI a1750_)), some (O.ow [(encI (fst s1816_)), (encI (fst (snd s1816_))), (encB (snd (snd s1816_)))]), some (O.fz (encI a1805_))]) rfl (xo_call (tk__law_right s1816_) rfl rfl rfl (fun _ => rfl))) (fun b1819_ => rfl)) (fun b1819_ => rfl))) ?_ ?_
      · intro b1819_
        refine sv_let (v := (snd b1819_)) (E := fun (y1821_ : (Int × Int × Bool)) => [some (O.sc K script_1748_), some (O.fz (encI a1750_)), some (O.ow [(encI (fst y1821_)), (encI (fst (snd y1821_))), (encB (snd (snd y1821_)))]), some (O.fz (encI a1805_))]) ?_
        intro draws_1820_
        exact sv_exit (ct := (Ctl.rt (O.fz (encB false)))) (e := [some (O.sc K script_1748_), some (O.fz (encI a1750_)), some (O.ow [(encI (fst draws_1820_)), (encI (fst (snd draws_1820_))), (encB (snd (snd draws_1820_)))]), some (O.fz (encI a1805_))]) rfl (fun h => nomatch h) ⟨⟨_, rfl⟩, ⟨.inl rfl, rfl⟩⟩
      · intro b1819_
        refine sv_let (v := (snd b1819_)) (E := fun (y1823_ : (Int × Int × Bool)) => [some (O.sc K script_1748_), some (O.fz (encI a1750_)), some (O.ow [(encI (fst y1823_)), (encI (fst (snd y1823_))), (encB (snd (snd y1823_)))]), some (O.fz (encI a1805_))]) ?_
        intro draws_1822_
        refine sv_nx (e := [some (O.sc K script_1748_), some (O.fz (encI a1750_)), some (O.ow [(encI (fst draws_1822_)), (encI (fst (snd draws_1822_))), (encB (snd (snd draws_1822_)))]), some (O.fz (encI a1805_))]) rfl ?_
        exact sv_end ⟨.inl rfl, _, rfl⟩
    intro b1804_
    rintro draws_1824_ _ ⟨u1817_, rfl⟩
    exact sv_end ⟨.inl rfl, _, _, _, rfl⟩
  intro b1749_
  rintro s1797_ _ ⟨u1798_, u1799_, u1800_, rfl⟩
  exact sv_exit (ct := (Ctl.rt (O.fz (encB true)))) (e := [some (O.sc K script_1748_), u1798_, u1799_, u1800_]) rfl (fun h => nomatch h) ⟨.inl rfl, rfl⟩
end My
namespace My
open PySem PySem.Spec PyProof.Rows L2 Tr
open Prod (fst snd)
/-! ### asking -/
/-! ### the place of an item, from the end -/
theorem getD_get {xs : List Int} {p : Nat} (h : p < xs.length) : xs[p]? = some (xs.getD p 0) := by
  rw [List.getD_eq_getElem?_getD, List.getElem?_eq_getElem h]
  rfl
end My
namespace My
open PySem PySem.Spec PyProof.Rows L2 Tr
open Prod (fst snd)
/-! ### the place of an item, by halves -/
section
variable {b : Int → Int → Bool} {x : Int} {xs : List Int} {f lo hi : Nat}
end
/-! ### item by item -/
def insAt (xs : List Int) (p : Nat) (x : Int) : List Int := xs.take p ++ [x] ++ xs.drop p
end My
namespace My
open PySem PySem.Spec PyProof.Rows L2 Tr
open Prod (fst snd)
/-! ### merging -/
section
variable {b : Int → Int → Bool} {x y : Int} {xs ys : List Int}
end
end My
namespace My
open PySem PySem.Spec PyProof.Rows L2 Tr
open Prod (fst snd)
/-! ### parting -/
/-! ### choosing -/
end My
namespace My
open PySem PySem.Spec PyProof.Rows L2 Tr
open Prod (fst snd)
/-! ### bubbling -/
theorem rangeL0 {n : Nat} : rangeL 0 n = (List.range n).map fun (p : Nat) => (p : Int) := by
  unfold rangeL
  exact List.map_congr_left fun k _ => by omega
end My
namespace My
open PySem PySem.Spec PyProof.Rows L2 Tr
open Prod (fst snd)
/-! ### heaping -/
section
variable {b : Int → Int → Bool} {h : List Int} {p c f : Nat}
end
end My
namespace My
open PySem PySem.Spec PyProof.Rows L2 Tr
open Prod (fst snd)
end My
namespace My
open PySem PySem.Spec PyProof.Rows L2 Tr
open Prod (fst snd)
/-! ### the checks, the dict of sorts -/
structure Rl (r : List (List Int)) (n : Nat) : Prop extends Sq r n where
  val : ∀ row ∈ r, ∀ a ∈ row, -1 ≤ a ∧ a ≤ 1
  skew : ∀ x y, InR n x → InR n y → ansN r x y = -ansN r y x
structure Rw (row : List Int) (n : Nat) : Prop where
  len : row.length = n
  nd : row.Nodup
  inr : ∀ y ∈ row, InR n y
theorem forN_unit {α : Type} {body : α → Unit → Option Unit} : ∀ (xs : List α), (∀ x ∈ xs, body x () = some ()) → forN body xs () = some ()
  | [], _ => rfl
  | x :: xs, h => (forN_cons (h x (List.mem_cons_self ..))).trans (forN_unit xs fun y hy => h y (List.mem_cons_of_mem _ hy))
theorem enL_mem {α : Type} {xs : List α} {p : Int × α} (h : p ∈ enL xs) : ∃ k : Nat, p.1 = (k : Int) ∧ xs[k]? = some p.2 := by
  unfold enL at h
  obtain ⟨i, hi, e⟩ := List.mem_mapIdx.mp h
  exact ⟨i, by rw [← e], by rw [← e]; exact List.getElem?_eq_getElem hi⟩
theorem all_true {α : Type} {xs : List α} : (List.all (xs.map fun _ => true) id) = true := by
  rw [List.all_eq_true]
  intro x hx
  obtain ⟨_, _, rfl⟩ := List.mem_map.mp hx
  rfl
theorem cmpO_true {α : Type} {xs : List α} {elt : α → Option Bool} (hl : xs.length ≤ 1000000) (h : ∀ x ∈ xs, elt x = some true) : cmpO (fun _ => some true) elt xs = some (xs.map fun _ => true) := by
  have go : ∀ xs : List α, (∀ x ∈ xs, elt x = some true) → cmpOGo (fun _ => some true) elt xs = some (xs.map fun _ => true) := by
    intro xs
    induction xs with
    | nil => intro _; rfl
    | cons x xs ih =>
      intro h
      unfold cmpOGo
      simp only [Option.bind_some, if_true, h x (List.mem_cons_self ..), ih fun y hy => h y (List.mem_cons_of_mem _ hy), Option.map_some]
      rfl
  unfold cmpO
  rw [if_pos (le_line hl), go xs h]
theorem is_answer_ok {a : Int} (h : -1 ≤ a ∧ a ≤ 1) : t_is_answer a = some true := by
  unfold t_is_answer t_is_whole
  simp only [Option.map_some, Option.bind_some, Bool.not_false, Bool.and_true, if_true]
  rw [decide_eq_true (show -(1 : Int) ≤ a from h.1), decide_eq_true h.2]
  rfl
theorem check_rule_ok {r : List (List Int)} {n : Nat} (h : Rl r n) (hn : n ≤ 1000) : t_check_rule r = some () := by
  have hlen := h.len
  unfold t_check_rule
  have c1 : cmpT (fun (a14_ : List Int) => true) r = some (r.map fun _ => true) := by
    unfold cmpT
    rw [if_pos (le_line (by omega))]
  simp only [Bool.not_true, Bool.false_eq_true, if_false, c1, Option.map_some, Option.bind_some, all_true]
  rw [forN_unit (enL r) (fun p hp => ?_)]
  · simp only [Option.bind_some]
    rw [forN_unit (enL r) (fun p hp => ?_)]
    · rfl
    · obtain ⟨k, e1, e2⟩ := enL_mem hp
      rw [forN_unit (enL p.2) (fun q hq => ?_)]
      · rfl
      · obtain ⟨j, f1, f2⟩ := enL_mem hq
        have hk : k < r.length := (List.getElem?_eq_some_iff.mp e2).1
        have hrow : p.2.length = n := h.row _ (List.mem_of_getElem? e2)
        have hj : j < p.2.length := (List.getElem?_eq_some_iff.mp f2).1
        have ij : InR n (j : Int) := ⟨by omega, by omega⟩
        have ik : InR n (k : Int) := ⟨by omega, by omega⟩
        have sk := h.skew _ _ ik ij
        have ev : ansN r (k : Int) (j : Int) = q.2 := by
          unfold ansN
          have g1 : r.getD k [] = p.2 := by rw [List.getD_eq_getElem?_getD, e2]; rfl
          rw [Int.toNat_natCast, Int.toNat_natCast, g1, List.getD_eq_getElem?_getD, f2, Option.getD_some]
        rw [e1, f1, ans_at h.toSq ij ik]
        simp only [Option.bind_some]
        rw [ev] at sk
        rw [sk, decide_eq_true rfl]
        rfl
  · obtain ⟨k, e1, e2⟩ := enL_mem hp
    have hrow : p.2.length = n := h.row _ (List.mem_of_getElem? e2)
    have hv := h.val _ (List.mem_of_getElem? e2)
    have c2 := cmpO_true (xs := p.2) (elt := fun (a35_ : Int) => (t_is_answer a35_).map fun b36_ => b36_) (by omega) (fun a ha => by simp only [is_answer_ok (hv a ha), Option.map_some])
    have d : decide (((List.length p.2 : Nat) : Int) = ((List.length r : Nat) : Int)) = true := decide_eq_true (by rw [hrow, hlen])
    simp only [d, Bool.not_true, Bool.false_eq_true, if_false, c2, Option.map_some, Option.bind_some, all_true]
end My
namespace My
open PySem PySem.Spec PyProof.Rows L2 Tr
open Prod (fst snd)
/-! ### the draws -/
abbrev Dr : Type := Int × Int × Bool
structure DrOk (c : Int) (d : Dr) : Prop where
  b0 : 0 ≤ d.1
  k0 : 0 ≤ d.2.1
  kc : d.2.1 ≤ c
theorem DrOk.mono {c c' : Int} {d : Dr} (h : DrOk c d) (l : c ≤ c') : DrOk c' d := ⟨h.b0, h.k0, Int.le_trans h.kc l⟩
theorem fmod_in (a : Int) {m : Int} (h : 0 < m) : 0 ≤ a.fmod m ∧ a.fmod m < m := ⟨Int.fmod_nonneg_of_pos a h, Int.fmod_lt_of_pos a h⟩
theorem modI_of {i j : Int} (h : j ≠ 0) : modI i j = some (i.fmod j) := if_neg h
theorem log63 {i : Int} (h1 : -9223372036854775808 < i) (h2 : i < 9223372036854775808) : i.natAbs.log2 < 1000 := by
  by_cases e : i.natAbs = 0
  · rw [e]; decide
  · refine Nat.lt_trans ((Nat.log2_lt e (k := 63)).mpr ?_) (by decide)
    show i.natAbs < 9223372036854775808
    omega
theorem mulI_of {i j : Int} (h1 : -9223372036854775808 < i) (h2 : i < 9223372036854775808) (h3 : -9223372036854775808 < j) (h4 : j < 9223372036854775808) : mulI i j = some (i * j) := by
  have a := log63 h1 h2
  have b := log63 h3 h4
  exact if_pos (by omega)
theorem p1 : powI (10 : Int) (60 : Int) = some ((10 ^ 60 : Nat) : Int) := by decide +kernel
theorem p2 : powI ((10 ^ 60 : Nat) : Int) (60 : Int) = some ((10 ^ 3600 : Nat) : Int) := by decide +kernel
theorem p3 : powI ((10 ^ 3600 : Nat) : Int) (4 : Int) = some ((10 ^ 14400 : Nat) : Int) := by decide +kernel
theorem p4 : powI (10 : Int) (18 : Int) = some (1000000000000000000 : Int) := by decide +kernel
theorem p5 : powI (10 : Int) (6 : Int) = some (1000000 : Int) := by decide +kernel
theorem draws_of {B cell : Int} (hB : 0 < B) (h1 : powI ((10 ^ 3600 : Nat) : Int) (4 : Int) = some B) : ∃ d, t__law_draws cell = some d ∧ DrOk 0 d := by
  unfold t__law_draws
  rw [p1, Option.bind_some, p2, Option.map_some, Option.bind_some, h1, Option.map_some, Option.bind_some, modI_of (show B ≠ 0 by omega), Option.map_some, Option.bind_some, p4, Option.map_some, Option.map_some]
  exact ⟨_, rfl, ⟨(fmod_in cell hB).1, Int.le_refl _, Int.le_refl _⟩⟩
theorem draws_ok {cell : Int} : ∃ d, t__law_draws cell = some d ∧ DrOk 0 d := draws_of (B := ((10 ^ 14400 : Nat) : Int)) (by
  have : 0 < 10 ^ 14400 := Nat.pow_pos (by decide)
  exact Int.natCast_pos.mpr this) p3
theorem next_ok {c : Int} {d : Dr} (h : DrOk c d) (hc : c ≤ 100000) : ∃ v d', t__law_next d = some (v, d') ∧ 0 ≤ v ∧ DrOk (c + 1) d' := by
  obtain ⟨x, k, s⟩ := d
  have hx : 0 ≤ x := h.b0
  have hk : 0 ≤ k := h.k0
  have hk2 : k ≤ c := h.kc
  unfold t__law_next
  rw [Option.bind_some, Option.bind_some]
  cases s with
  | true =>
    rw [if_pos rfl, p5, Option.bind_some, modI_of (by decide), Option.map_some, Option.bind_some, Option.bind_some, Option.bind_some]
    have hf : fdivI x 1000000 = some (x.fdiv 1000000) := if_pos ⟨by decide, by decide⟩
    rw [hf, Option.map_some, Option.bind_some, Option.bind_some]
    exact ⟨_, _, rfl, (fmod_in x (by decide)).1, ⟨Int.fdiv_nonneg hx (by decide), by show 0 ≤ k + 1; omega, by show k + 1 ≤ c + 1; omega⟩⟩
  | false =>
    rw [if_neg Bool.false_ne_true]
    have hkk : 0 ≤ (k + 1) * (k + 1) := Int.mul_nonneg (by omega) (by omega)
    have hkl : (k + 1) * (k + 1) ≤ 100001 * 100001 := Int.mul_le_mul (by omega) (by omega) (by omega) (by omega)
    have m1 : mulI (k + 1) (k + 1) = some ((k + 1) * (k + 1)) := mulI_of (by omega) (by omega) (by omega) (by omega)
    have m2 : mulI ((k + 1) * (k + 1)) 7919 = some ((k + 1) * (k + 1) * 7919) := mulI_of (by omega) (by omega) (by omega) (by omega)
    have f1 := fmod_in x (show (0 : Int) < 1000003 by decide)
    have m3 : mulI (((Int.fmod x (1000003 : Int)) + ((k + 1) * (k + 1) * 7919)) + (k + 1)) (48271 : Int) = some ((((Int.fmod x (1000003 : Int)) + ((k + 1) * (k + 1) * 7919)) + (k + 1)) * 48271) := mulI_of (by omega) (by omega) (by omega) (by omega)
    have f2 := fmod_in ((((Int.fmod x (1000003 : Int)) + ((k + 1) * (k + 1) * 7919)) + (k + 1)) * 48271) (show (0 : Int) < 2147483629 by decide)
    simp only [Option.bind_some, m1, m2, Option.map_some, m3]
    generalize Int.fmod ((((Int.fmod x (1000003 : Int)) + ((k + 1) * (k + 1) * 7919)) + (k + 1)) * 48271) 2147483629 = u at f2 ⊢
    have m4 : mulI u u = some (u * u) := mulI_of (by omega) (by omega) (by omega) (by omega)
    have f3 := fmod_in (u * u) (show (0 : Int) < 2147483587 by decide)
    simp only [m4, Option.bind_some]
    generalize Int.fmod (u * u) 2147483587 = w at f3 ⊢
    have m5 : mulI w (w + 2) = some (w * (w + 2)) := mulI_of (by omega) (by omega) (by omega) (by omega)
    simp only [m5, Option.map_some]
    exact ⟨_, _, rfl, Int.fdiv_nonneg (fmod_in _ (by decide)).1 (by decide), ⟨hx, by show 0 ≤ k + 1; omega, by show k + 1 ≤ c + 1; omega⟩⟩
/-! ### the drawn row -/
end My
namespace My
open PySem PySem.Spec PyProof.Rows L2 Tr
open Prod (fst snd)
/-! ### the drawn rule -/
theorem cmpO_map {α β : Type} {xs : List α} {elt : α → Option β} {f : α → β} (hl : xs.length ≤ 1000000) (h : ∀ x ∈ xs, elt x = some (f x)) : cmpO (fun _ => some true) elt xs = some (xs.map f) := by
  have go : ∀ xs : List α, (∀ x ∈ xs, elt x = some (f x)) → cmpOGo (fun _ => some true) elt xs = some (xs.map f) := by
    intro xs
    induction xs with
    | nil => intro _; rfl
    | cons x xs ih =>
      intro h
      unfold cmpOGo
      simp only [Option.bind_some, if_true, h x (List.mem_cons_self ..), ih fun y hy => h y (List.mem_cons_of_mem _ hy), Option.map_some]
      rfl
  unfold cmpO
  rw [if_pos (le_line hl), go xs h]
theorem cmpG_draws {n : Nat} {elt : Int → Dr → Option (Int × Dr)} (h : ∀ a c d, DrOk c d → c ≤ 90000 → ∃ v d', elt a d = some (v, d') ∧ 0 ≤ v ∧ v < (n : Int) ∧ DrOk (c + 1) d') :
    ∀ (xs : List Int) (c : Int) (d : Dr), DrOk c d → c + xs.length ≤ 90000 → xs.length ≤ 1000 → ∃ ws d', cmpG (fun _ s => some (true, s)) elt xs d = some (ws, d') ∧ ws.length = xs.length ∧ (∀ w ∈ ws, 0 ≤ w ∧ w < (n : Int)) ∧ DrOk (c + xs.length) d' := by
  have go : ∀ (xs : List Int) (c : Int) (d : Dr), DrOk c d → c + xs.length ≤ 90000 → ∃ ws d', cmpGo (fun _ s => some (true, s)) elt xs d = some (ws, d') ∧ ws.length = xs.length ∧ (∀ w ∈ ws, 0 ≤ w ∧ w < (n : Int)) ∧ DrOk (c + xs.length) d' := by
    intro xs
    induction xs with
    | nil => intro c d hd _; exact ⟨[], d, rfl, rfl, (fun w hw => nomatch hw), hd.mono (by show c ≤ c + ((0 : Nat) : Int); omega)⟩
    | cons x xs ih =>
      intro c d hd hc
      rw [List.length_cons] at hc ⊢
      obtain ⟨v, d1, e1, v0, v1, hd1⟩ := h x c d hd (by omega)
      obtain ⟨ws, d2, e2, l, hw, hd2⟩ := ih (c + 1) d1 hd1 (by omega)
      refine ⟨v :: ws, d2, ?_, by rw [List.length_cons, l], fun w hm => ?_, hd2.mono (by omega)⟩
      · unfold cmpGo
        rw [Option.bind_some, if_pos rfl, e1, Option.bind_some, e2]
        rfl
      · rcases List.mem_cons.mp hm with e | e
        · rw [e]; exact ⟨v0, v1⟩
        · exact hw w e
  intro xs c d hd hc hl
  obtain ⟨ws, d', e, r⟩ := go xs c d hd hc
  refine ⟨ws, d', ?_, r⟩
  unfold cmpG
  rw [if_pos (le_line (by omega)), e]
/-- a table told so far -/
structure Tb (t : List (List Int)) (n : Nat) : Prop extends Sq t n where
  val : ∀ x y, InR n x → InR n y → -1 ≤ ansN t x y ∧ ansN t x y ≤ 1
  skew : ∀ x y, InR n x → InR n y → ansN t x y = -ansN t y x
theorem ans_el {t : List (List Int)} {n : Nat} (h : Sq t n) {row : List Int} (hr : row ∈ t) {a : Int} (ha : a ∈ row) : ∃ x y, InR n x ∧ InR n y ∧ ansN t x y = a := by
  obtain ⟨i, hi, e1⟩ := List.getElem_of_mem hr
  obtain ⟨j, hj, e2⟩ := List.getElem_of_mem ha
  have l := h.row _ hr
  have ht := h.len
  refine ⟨(i : Int), (j : Int), ⟨by omega, by omega⟩, ⟨by omega, by omega⟩, ?_⟩
  unfold ansN
  have g1 : t.getD i [] = row := by rw [List.getD_eq_getElem?_getD, List.getElem?_eq_getElem hi, e1]; rfl
  rw [Int.toNat_natCast, Int.toNat_natCast, g1, List.getD_eq_getElem?_getD, List.getElem?_eq_getElem hj, e2]
  rfl
theorem Tb.rl {t : List (List Int)} {n : Nat} (h : Tb t n) : Rl t n := ⟨h.toSq, fun row hr a ha => by
  obtain ⟨x, y, hx, hy, e⟩ := ans_el h.toSq hr ha
  rw [← e]
  exact h.val x y hx hy, h.skew⟩
theorem set2_ok {t : List (List Int)} {n : Nat} {i k x : Int} (h : Sq t n) (hi : InR n i) (hk : InR n k) : ∃ t', set2G t i k x = some t' ∧ Sq t' n ∧ ∀ u v, InR n u → InR n v → ansN t' u v = if u = i ∧ v = k then x else ansN t u v := by
  have hlen := h.len
  have i1 : i = ((i.toNat : Nat) : Int) := (Int.toNat_of_nonneg hi.1).symm
  have k1 : k = ((k.toNat : Nat) : Int) := (Int.toNat_of_nonneg hk.1).symm
  have i2 : i.toNat < t.length := by have := hi.2; omega
  have hrow : (t[i.toNat]).length = n := h.row _ (List.getElem_mem _)
  have k2 : k.toNat < (t[i.toNat]).length := by have := hk.2; omega
  have e : set2G t i k x = some (t.set i.toNat ((t[i.toNat]).set k.toNat x)) := by
    have ii : ixN t.length i = some i.toNat := by
      conv => lhs; rw [i1]
      exact ixN_nat i2
    have kk : ixN (t[i.toNat]).length k = some k.toNat := by
      conv => lhs; rw [k1]
      exact ixN_nat k2
    unfold set2G
    rw [ii, Option.bind_some, List.getElem?_eq_getElem i2, Option.bind_some, kk]
    rfl
  refine ⟨_, e, ⟨by rw [List.length_set, hlen], fun row hr => ?_⟩, fun u v hu hv => ?_⟩
  · rcases List.mem_or_eq_of_mem_set hr with m | m
    · exact h.row _ m
    · rw [m, List.length_set, hrow]
  · have u1 : u = ((u.toNat : Nat) : Int) := (Int.toNat_of_nonneg hu.1).symm
    have v1 : v = ((v.toNat : Nat) : Int) := (Int.toNat_of_nonneg hv.1).symm
    have u2 : u.toNat < t.length := by have := hu.2; omega
    unfold ansN
    rw [List.getD_eq_getElem?_getD, List.getD_eq_getElem?_getD, List.getD_eq_getElem?_getD, List.getD_eq_getElem?_getD, List.getElem?_set]
    by_cases e1 : i.toNat = u.toNat
    · rw [if_pos e1, if_pos (by omega), Option.getD_some, List.getElem?_set]
      by_cases e2 : k.toNat = v.toNat
      · rw [if_pos e2, if_pos (by omega), Option.getD_some, if_pos ⟨by omega, by omega⟩]
      · rw [if_neg e2, if_neg (fun q => e2 (by rw [q.2])), ← e1, List.getElem?_eq_getElem i2, Option.getD_some]
    · rw [if_neg e1, if_neg (fun q => e1 (by rw [q.1]))]
theorem set_two {t : List (List Int)} {n : Nat} {i k x : Int} (h : Tb t n) (hi : InR n i) (hk : InR n k) (hik : i ≠ k) (hx : -1 ≤ x ∧ x ≤ 1) : ∃ t1 t2, set2G t i k x = some t1 ∧ set2G t1 k i (-x) = some t2 ∧ Tb t2 n := by
  obtain ⟨t1, e1, s1, a1⟩ := set2_ok (x := x) h.toSq hi hk
  obtain ⟨t2, e2, s2, a2⟩ := set2_ok (x := -x) s1 hk hi
  have a : ∀ u v, InR n u → InR n v → ansN t2 u v = if u = k ∧ v = i then -x else if u = i ∧ v = k then x else ansN t u v := fun u v hu hv => by rw [a2 u v hu hv, a1 u v hu hv]
  refine ⟨t1, t2, e1, e2, s2, fun u v hu hv => ?_, fun u v hu hv => ?_⟩
  · rw [a u v hu hv]
    split
    · omega
    · split
      · exact hx
      · exact h.val u v hu hv
  · rw [a u v hu hv, a v u hv hu]
    by_cases c1 : u = k ∧ v = i
    · rw [if_pos c1, if_neg (fun q => hik (by rw [← q.2, c1.1])), if_pos ⟨c1.2, c1.1⟩]
    · rw [if_neg c1]
      by_cases c2 : u = i ∧ v = k
      · rw [if_pos c2, if_pos ⟨c2.2, c2.1⟩, Int.neg_neg]
      · rw [if_neg c2, if_neg (fun q => c2 ⟨q.2, q.1⟩), if_neg (fun q => c1 ⟨q.2, q.1⟩)]
        exact h.skew u v hu hv
theorem two_at {i : Int} (h0 : 0 ≤ i) (h1 : i < 2) : ∃ a, atI [(-(1 : Int)), (1 : Int)] i = some a ∧ -1 ≤ a ∧ a ≤ 1 := by
  have : i = 0 ∨ i = 1 := by omega
  rcases this with e | e <;> subst e
  · exact ⟨_, rfl, by decide, by decide⟩
  · exact ⟨_, rfl, by decide, by decide⟩
theorem ite01 (b : Bool) : (if b = true then (1 : Int) else 0) = 0 ∨ (if b = true then (1 : Int) else 0) = 1 := by cases b <;> simp
/-- one answer -/
theorem answer_ok {c : Int} {d : Dr} {n : Nat} {ws : List Int} {kind one other a0 : Int} (h : DrOk c d) (hc : c ≤ 90000) (ha : -1 ≤ a0 ∧ a0 ≤ 1) (hw : ws.length = n) (h1 : InR n one) (h2 : InR n other) :
    ∃ d' a, ((if (decide (kind < (2 : Int))) = true then (((t__law_next d).bind fun b2713_ => (atI [(-(1 : Int)), (1 : Int)] (Int.fmod (fst b2713_) (2 : Int))).map fun b2714_ => (b2713_, b2714_)).bind fun q2715_ => (some (snd q2715_)).bind fun (answer_2716_ : Int) => (some (snd (fst q2715_))).bind fun (draws_2718_ : (Int × Int × Bool)) => some (draws_2718_, answer_2716_)) else ((if (decide (kind < (5 : Int))) = true then (((atI ws one).bind fun b2747_ => (atI ws other).map fun b2748_ => (b2747_, b2748_)).bind fun q2749_ => (some (if (decide ((kind - (3 : Int)) < (if ((fst q2749_) - (snd q2749_)) < 0 then -((fst q2749_) - (snd q2749_)) else ((fst q2749_) - (snd q2749_))))) = true then (1 : Int) else 0)).bind fun (near_2750_ : Int) => ((((atI ws one).bind fun b2752_ => (atI ws other).map fun b2753_ => (b2752_, b2753_)).bind fun q2754_ => (mulI (2 : Int) (if (decide ((fst q2754_) < (snd q2754_))) = true then (1 : Int) else 0)).map fun b2755_ => (q2754_, b2755_)).bind fun q2756_ => (mulI ((1 : Int) - (snd q2756_)) near_2750_).map fun b2757_ => (q2756_, b2757_)).bind fun q2758_ => (some (snd q2758_)).bind fun (answer_2759_ : Int) => ((if (decide (kind = (3 : Int))) = true then ((t__law_next d).map fun b2761_ => ((decide ((Int.fmod (fst b2761_) (7 : Int)) = (0 : Int))), (snd b2761_))) else some (false, d)).bind fun b2762_ => if (fst b2762_) = true then ((some (-answer_2759_)).bind fun (answer_2766_ : Int) => some ((snd b2762_), answer_2766_)) else (some ((snd b2762_), answer_2759_))).bind fun (s2768_ : ((Int × Int × Bool) × Int)) => (some (fst s2768_)).bind fun (draws_2770_ : (Int × Int × Bool)) => (some (snd s2768_)).bind fun (answer_2772_ : Int) => some (draws_2770_, answer_2772_)) else (some (d, a0))).bind fun (s2774_ : ((Int × Int × Bool) × Int)) => (some (fst s2774_)).bind fun (draws_2777_ : (Int × Int × Bool)) => (some (snd s2774_)).bind fun (answer_2779_ : Int) => some (draws_2777_, answer_2779_))) : Option (Dr × Int)) = some (d', a) ∧ -1 ≤ a ∧ a ≤ 1 ∧ DrOk (c + 1) d' := by
  obtain ⟨v, d1, e1, v0, hd1⟩ := next_ok h (by omega)
  by_cases k2 : kind < 2
  · rw [if_pos (decide_eq_true k2), e1, Option.bind_some]
    have f := fmod_in v (show (0 : Int) < 2 by decide)
    obtain ⟨a, e2, a0, a1⟩ := two_at f.1 f.2
    show ∃ d' a, ((Option.map _ (atI _ (Int.fmod v 2))).bind _) = some (d', a) ∧ _
    rw [e2]
    exact ⟨d1, a, rfl, a0, a1, hd1⟩
  · rw [if_neg (by rw [decide_eq_false k2]; exact Bool.false_ne_true)]
    by_cases k5 : kind < 5
    · rw [if_pos (decide_eq_true k5)]
      have w1 : atI ws one = some _ := atI_int h1.1 (by rw [hw]; exact h1.2)
      have w2 : atI ws other = some _ := atI_int h2.1 (by rw [hw]; exact h2.2)
      rw [w1, w2]
      generalize ws[one.toNat]'_ = p
      generalize ws[other.toNat]'_ = q
      simp only [Option.bind_some, Option.map_some]
      generalize hnear : (if (decide ((kind - (3 : Int)) < (if (p - q) < 0 then -(p - q) else (p - q)))) = true then (1 : Int) else 0) = near
      have near1 : near = 0 ∨ near = 1 := by
        rw [← hnear]
        exact ite01 _
      generalize hlt : (if (decide (p < q)) = true then (1 : Int) else 0) = lt
      have lt1 : lt = 0 ∨ lt = 1 := by
        rw [← hlt]
        exact ite01 _
      have m1 : mulI 2 lt = some (2 * lt) := mulI_of (by decide) (by decide) (by omega) (by omega)
      have m2 : mulI (1 - 2 * lt) near = some ((1 - 2 * lt) * near) := mulI_of (by omega) (by omega) (by omega) (by omega)
      have val : -1 ≤ (1 - 2 * lt) * near ∧ (1 - 2 * lt) * near ≤ 1 := by
        rcases near1 with e | e <;> rcases lt1 with g | g <;> subst e <;> subst g <;> decide
      simp only [m1, Option.bind_some, Option.map_some, m2]
      generalize (1 - 2 * lt) * near = A at val ⊢
      by_cases k3 : kind = 3
      · rw [if_pos (decide_eq_true k3), e1, Option.map_some, Option.bind_some]
        cases hz : decide ((Int.fmod v (7 : Int)) = (0 : Int)) with
        | true =>
          rw [if_pos rfl]
          exact ⟨d1, -A, rfl, by omega, by omega, hd1⟩
        | false =>
          rw [if_neg Bool.false_ne_true]
          exact ⟨d1, A, rfl, val.1, val.2, hd1⟩
      · rw [if_neg (by rw [decide_eq_false k3]; exact Bool.false_ne_true), Option.bind_some, if_neg Bool.false_ne_true]
        exact ⟨d, A, rfl, val.1, val.2, h.mono (by omega)⟩
    · rw [if_neg (by rw [decide_eq_false k5]; exact Bool.false_ne_true), Option.bind_some]
      exact ⟨d, a0, rfl, ha.1, ha.2, h.mono (by omega)⟩
end My
namespace My
open PySem PySem.Spec PyProof.Rows L2 Tr
open Prod (fst snd)
theorem forN_bind {α β σ : Type} {body : α → σ → Option σ} {F : σ → Option β} {P : β → Prop} {xs : List α} {s0 : σ} (I : Nat → σ → Prop) (h0 : I 0 s0) (hs : ∀ (j : Nat) (x : α) (s : σ), x ∈ xs → j < xs.length → I j s → ∃ s', body x s = some s' ∧ I (j + 1) s') (hF : ∀ s', I xs.length s' → ∃ b, F s' = some b ∧ P b) : ∃ b, (forN body xs s0).bind F = some b ∧ P b := by
  obtain ⟨s', g1, g2⟩ := forN_inv I xs 0 s0 h0 (fun j x s hm hj hi => by
    rw [Nat.zero_add] at hi ⊢
    exact hs j x s hm (List.getElem?_eq_some_iff.mp hj).1 hi)
  rw [Nat.zero_add] at g2
  obtain ⟨b, h1, h2⟩ := hF s' g2
  exact ⟨b, by rw [g1, Option.bind_some, h1], h2⟩
theorem rep0 {n : Nat} (hn : n ≤ 14) : ∃ Z : List Int, repG [(0 : Int)] (n : Int) = some Z ∧ Z.length = n ∧ ∀ a ∈ Z, a = 0 := by
  refine ⟨_, by unfold repG; rw [if_pos ⟨by omega, by omega, by rw [Int.toNat_natCast]; exact le_line (by rw [List.length_singleton]; omega)⟩], ?_, ?_⟩
  · rw [Int.toNat_natCast]
    induction n with
    | zero => rfl
    | succ n ih => rw [List.replicate_succ, List.flatten_cons, List.length_append, ih (by omega), List.length_singleton]; omega
  · intro a ha
    rw [List.mem_flatten] at ha
    obtain ⟨l, hl, ha⟩ := ha
    rw [List.eq_of_mem_replicate hl] at ha
    exact List.mem_singleton.mp ha
theorem tb0 {n : Nat} {Z : List Int} (h1 : Z.length = n) (h2 : ∀ a ∈ Z, a = 0) : Tb ((rangeL 0 n).map fun _ => Z) n := by
  have sq : Sq ((rangeL 0 n).map fun _ => Z) n := ⟨by rw [List.length_map, rangeL_len], fun row hr => by
    obtain ⟨_, _, rfl⟩ := List.mem_map.mp hr
    exact h1⟩
  have z : ∀ x y, InR n x → InR n y → ansN ((rangeL 0 n).map fun _ => Z) x y = 0 := by
    intro x y hx hy
    unfold ansN
    have hx1 := hx.1
    have hx2 := hx.2
    have hy1 := hy.1
    have hy2 := hy.2
    have l : x.toNat < ((rangeL 0 n).map fun _ => Z).length := by rw [List.length_map, rangeL_len]; omega
    have g1 : ((rangeL 0 n).map fun _ => Z).getD x.toNat [] = Z := by
      rw [List.getD_eq_getElem?_getD, List.getElem?_eq_getElem l, Option.getD_some, List.getElem_map]
    rw [g1, List.getD_eq_getElem?_getD, List.getElem?_eq_getElem (show y.toNat < Z.length by omega), Option.getD_some]
    exact h2 _ (List.getElem_mem _)
  exact ⟨sq, fun x y hx hy => by rw [z x y hx hy]; decide, fun x y hx hy => by rw [z x y hx hy, z y x hy hx]; rfl⟩
theorem law_rule_ok {c : Int} {d : Dr} {n : Nat} (h : DrOk c d) (hc : c ≤ 50000) (hc0 : 0 ≤ c) (hn : n ≤ 14) : ∃ b, t__law_rule d (n : Int) = some b ∧ (Rl b.1 n ∧ DrOk (c + 1000) b.2) := by
  obtain ⟨v, d1, e1, v0, hd1⟩ := next_ok h (by omega)
  obtain ⟨Z, z1, z2, z3⟩ := rep0 hn
  have zz := cmpO_map (xs := rangeL 0 n) (elt := fun (a1350_ : Int) => (repG [(0 : Int)] (n : Int)).map fun b1351_ => b1351_) (f := fun _ => Z) (by rw [rangeL_len]; omega) (fun x _ => by simp only [z1, Option.map_some])
  obtain ⟨ws, d2, e2, w1, w2, hd2⟩ := cmpG_draws (n := n + 3) (elt := fun (a1357_ : Int) (s1361_ : Dr) => (((t__law_next s1361_).bind fun b1362_ => (modI (fst b1362_) ((n : Int) + (3 : Int))).map fun b1363_ => (b1362_, b1363_)).map fun q1364_ => ((snd q1364_), (snd (fst q1364_))))) (fun a c d hd hc => by
    obtain ⟨v, d', e, v0, hd'⟩ := next_ok hd (by omega)
    have f := fmod_in v (show (0 : Int) < (n : Int) + 3 by omega)
    exact ⟨_, d', by simp only [e, Option.bind_some, modI_of (show (n : Int) + 3 ≠ 0 by omega), Option.map_some], f.1, by omega, hd'⟩) (rangeL 0 n) (c + 1) d1 hd1 (by rw [rangeL_len]; omega) (by rw [rangeL_len]; omega)
  rw [rangeL_len] at w1 hd2
  have r1 := rng1_of (show n < 2 ^ 62 by omega)
  unfold t__law_rule
  rw [e1, Option.bind_some, Option.bind_some, Option.bind_some, r1, Option.bind_some, zz, Option.map_some, Option.bind_some, Option.bind_some, Option.bind_some, e2, Option.map_some, Option.bind_some, Option.bind_some, Option.bind_some, Option.bind_some]
  refine forN_bind (fun j s => Tb s.2 n ∧ DrOk (c + 1 + n + 30 * j) s.1) ⟨tb0 z2 z3, hd2.mono (by omega)⟩ (fun j one s hm hj hI => ?_) (fun s' hI => ?_)
  · rw [rangeL_len] at hj
    have hone := rangeL_mem.mp hm
    have ione : InR n one := ⟨by omega, by omega⟩
    have r2 : rng2 (one + 1) (n : Int) = some (rangeL (one + 1) ((n : Int) - (one + 1)).toNat) := if_pos ⟨by omega, by omega, by omega, by omega⟩
    have hl : (rangeL (one + 1) ((n : Int) - (one + 1)).toNat).length ≤ 14 := by rw [rangeL_len]; omega
    rw [Option.bind_some, Option.bind_some, r2, Option.bind_some]
    refine forN_bind (fun i s => Tb s.2 n ∧ DrOk (c + 1 + n + 30 * j + 2 * i) s.1) ⟨hI.1, hI.2.mono (by omega)⟩ (fun i other s hm2 hi hI2 => ?_) (fun s' hI2 => ?_)
    · have hoth := rangeL_mem.mp hm2
      have ioth : InR n other := ⟨by omega, by omega⟩
      obtain ⟨u, d3, e3, u0, hd3⟩ := next_ok hI2.2 (by omega)
      have f := fmod_in u (show (0 : Int) < 3 by decide)
      obtain ⟨d4, a, e4, a1, a2, hd4⟩ := answer_ok (ws := ws) (kind := Int.fmod v (6 : Int)) (a0 := Int.fmod u 3 - 1) hd3 (by omega) ⟨by omega, by omega⟩ w1 ione ioth
      obtain ⟨t1, t2, s1, s2, tb⟩ := set_two hI2.1 ione ioth (by omega) ⟨a1, a2⟩
      rw [Option.bind_some, Option.bind_some, e3, Option.bind_some, Option.bind_some, Option.bind_some]
      refine ⟨(d4, t2), ?_, tb, hd4.mono (by omega)⟩
      refine (congrArg (fun z => Option.bind z _) e4).trans ?_
      rw [Option.bind_some, Option.bind_some, Option.bind_some]
      show ((set2G s.2 one other a).bind _) = _
      rw [s1, Option.bind_some, s2, Option.bind_some]
    · exact ⟨_, rfl, hI2.1, hI2.2.mono (by omega)⟩
  · rw [rangeL_len] at hI
    exact ⟨_, rfl, hI.1.rl, hI.2.mono (by omega)⟩
end My
namespace My
open PySem PySem.Spec PyProof.Rows L2 Tr
open Prod (fst snd)
/-! ### the texts -/
end My
namespace My
open PySem PySem.Spec PyProof.Rows L2 Tr
open Prod (fst snd)
/-! ### who stands ahead of whom -/
def Ah (l : List Int) (x y : Int) : Prop := List.Sublist [x, y] l
theorem Ah.mono {l l' : List Int} {x y : Int} (h : Ah l x y) (s : List.Sublist l l') : Ah l' x y := List.Sublist.trans h s
theorem ah_nil {x y : Int} : ¬Ah [] x y := fun h => nomatch h
theorem ah_cons {z : Int} {l : List Int} {x y : Int} : Ah (z :: l) x y ↔ (x = z ∧ y ∈ l) ∨ Ah l x y := by
  constructor
  · intro h
    cases h with
    | cons _ h => exact .inr h
    | cons_cons _ h => exact .inl ⟨rfl, List.singleton_sublist.mp h⟩
  · rintro (⟨rfl, h⟩ | h)
    · exact List.Sublist.cons_cons _ (List.singleton_sublist.mpr h)
    · exact List.Sublist.cons _ h
theorem Ah.cons {z : Int} {l : List Int} {x y : Int} (h : Ah l x y) : Ah (z :: l) x y := ah_cons.mpr (.inr h)
theorem Ah.mem {l : List Int} {x y : Int} (h : Ah l x y) : x ∈ l ∧ y ∈ l :=
  ⟨List.Sublist.subset h (List.mem_cons_self ..), List.Sublist.subset h (List.mem_cons_of_mem _ (List.mem_cons_self ..))⟩
theorem Ah.ne {l : List Int} {x y : Int} (nd : l.Nodup) (h : Ah l x y) : x ≠ y := by
  have := List.Sublist.nodup h nd
  rw [List.nodup_cons] at this
  exact fun e => this.1 (by rw [e]; exact List.mem_cons_self ..)
theorem ah_app {A B : List Int} {x y : Int} (hx : x ∈ A) (hy : y ∈ B) : Ah (A ++ B) x y :=
  List.Sublist.append (List.singleton_sublist.mpr hx) (List.singleton_sublist.mpr hy)
/-- an asked pair stands as it was answered -/
def RtP (b : Int → Int → Bool) (res : List Int) (p : Int × Int) : Prop := (b p.1 p.2 = true → Ah res p.1 p.2) ∧ (b p.1 p.2 = false → Ah res p.2 p.1)
def OrP (b : Int → Int → Bool) (row : List Int) (p : Int × Int) : Prop := Ah row p.2 p.1 ∨ b p.2 p.1 = true
def Ask (l : Log) (x y : Int) : Prop := (x, y) ∈ l ∨ (y, x) ∈ l
theorem RtP.mono {b : Int → Int → Bool} {l l' : List Int} {p : Int × Int} (h : RtP b l p) (s : List.Sublist l l') : RtP b l' p := ⟨fun e => (h.1 e).mono s, fun e => (h.2 e).mono s⟩
theorem Ask.mono {l l' : Log} {x y : Int} (h : Ask l x y) (s : ∀ p ∈ l, p ∈ l') : Ask l' x y := h.imp (s _) (s _)
theorem Ask.symm {l : Log} {x y : Int} (h : Ask l x y) : Ask l y x := Or.symm h
def adj (R : Int → Int → Prop) : List Int → Prop
  | [] => True
  | x :: l => (∀ y, l.head? = some y → R x y) ∧ adj R l
theorem adj.imp {R R' : Int → Int → Prop} (s : ∀ x y, R x y → R' x y) : ∀ {l : List Int}, adj R l → adj R' l
  | [], _ => trivial
  | _ :: l, h => ⟨fun y e => s _ _ (h.1 y e), adj.imp s h.2⟩
structure Faith (b : Int → Int → Bool) (row : List Int) (S : List Int × Log) : Prop where
  perm : S.1.Perm row
  rt : ∀ p ∈ S.2, RtP b S.1 p
  ord : ∀ p ∈ S.2, OrP b row p
  nb : adj (Ask S.2) S.1
/-! ### item by item -/
structure Plc (b : Int → Int → Bool) (x : Int) (acc : List Int) (s : Nat × Log) : Prop where
  le : s.1 ≤ acc.length
  q : ∀ p ∈ s.2, p.1 = x ∧ ((b x p.2 = true ∧ ∃ i, s.1 ≤ i ∧ i < acc.length ∧ p.2 = acc.getD i 0) ∨ (b x p.2 = false ∧ ∃ i, i < s.1 ∧ p.2 = acc.getD i 0))
  lo : 0 < s.1 → (x, acc.getD (s.1 - 1) 0) ∈ s.2
  hi : s.1 < acc.length → (x, acc.getD s.1 0) ∈ s.2
theorem mem_take {xs : List Int} {i p : Nat} (h : i < p) (h2 : i < xs.length) : xs.getD i 0 ∈ xs.take p := by
  have : (xs.take p)[i]? = some (xs.getD i 0) := by rw [List.getElem?_take_of_lt h]; exact getD_get h2
  exact List.mem_of_getElem? this
theorem mem_drop {xs : List Int} {i p : Nat} (h : p ≤ i) (h2 : i < xs.length) : xs.getD i 0 ∈ xs.drop p := by
  have : (xs.drop p)[i - p]? = some (xs.getD i 0) := by rw [List.getElem?_drop, show p + (i - p) = i by omega]; exact getD_get h2
  exact List.mem_of_getElem? this
theorem insAt_ahl {xs : List Int} {p i : Nat} {x : Int} (h : i < p) (h2 : i < xs.length) : Ah (insAt xs p x) (xs.getD i 0) x :=
  (ah_app (mem_take h h2) (List.mem_singleton.mpr rfl)).mono (List.sublist_append_left ..)
theorem insAt_ahr {xs : List Int} {p i : Nat} {x : Int} (h : p ≤ i) (h2 : i < xs.length) : Ah (insAt xs p x) x (xs.getD i 0) :=
  ah_app (List.mem_append_right _ (List.mem_singleton.mpr rfl)) (mem_drop h h2)
theorem Plc.rt {b : Int → Int → Bool} {x : Int} {acc : List Int} {s : Nat × Log} (h : Plc b x acc s) : ∀ p ∈ s.2, RtP b (insAt acc s.1 x) p := fun p hp => by
  obtain ⟨e, h1⟩ := h.q p hp
  have le := h.le
  rcases h1 with ⟨t, i, i1, i2, i3⟩ | ⟨t, i, i1, i3⟩
  · refine ⟨fun _ => ?_, fun f => ?_⟩
    · rw [e, i3]; exact insAt_ahr i1 i2
    · rw [e, t] at f; cases f
  · refine ⟨fun f => ?_, fun _ => ?_⟩
    · rw [e, t] at f; cases f
    · rw [e, i3]; exact insAt_ahl i1 (by omega)
/-! ### merging -/
/-! ### parting -/
end My
namespace My
open PySem PySem.Spec PyProof.Rows L2 Tr
open Prod (fst snd)
/-! ### choosing -/
section
variable {b : Int → Int → Bool}
/-! ### bubbling, pass by pass -/
def AS (b : Int → Int → Bool) (l : List Int) : Prop := ∀ x ∈ l, ∀ y ∈ l, b x y = true → b y x = false
theorem AS.sub {l l' : List Int} (h : AS b l) (s : ∀ x ∈ l', x ∈ l) : AS b l' := fun x hx y hy => h x (s x hx) y (s y hy)
end
/-! ### what is asked decides -/
def Agr (b b' : Int → Int → Bool) (l : Log) : Prop := ∀ p ∈ l, b p.1 p.2 = b' p.1 p.2
section
variable {b b' : Int → Int → Bool}
theorem Agr.l {l m : Log} (h : Agr b b' (l ++ m)) : Agr b b' l := fun p hp => h p (List.mem_append_left _ hp)
theorem Agr.r {l m : Log} (h : Agr b b' (l ++ m)) : Agr b b' m := fun p hp => h p (List.mem_append_right _ hp)
theorem Agr.hd {x y : Int} {l : Log} (h : Agr b b' ((x, y) :: l)) : b x y = b' x y := h _ (List.mem_cons_self ..)
end
end My
namespace My
open PySem PySem.Spec PyProof.Rows L2 Tr
open Prod (fst snd)
/-! ### the six faithful sorts by name -/
section
variable {b : Int → Int → Bool} {row : List Int}
end
/-! ### a rule's relation -/
theorem forR_nx {α σ ρ : Type} {body : α → σ → Option (Rs ρ σ)} {a : α} {as : List α} {s s' : σ} (h : body a s = some (.nx s')) : forR body (a :: as) s = forR body as s' := by
  show (body a s).bind _ = _
  rw [h]
  rfl
theorem forR_unit {α ρ : Type} {body : α → Unit → Option (Rs ρ Unit)} : ∀ (xs : List α), (∀ x ∈ xs, body x () = some (.nx ())) → forR body xs () = some (.nx ())
  | [], _ => rfl
  | x :: xs, h => (forR_nx (h x (List.mem_cons_self ..))).trans (forR_unit xs fun y hy => h y (List.mem_cons_of_mem _ hy))
end My
namespace My
open PySem PySem.Spec PyProof.Rows L2 Tr
open Prod (fst snd)
/-! ### ties decided by the input -/
structure Dc (r : List (List Int)) (n : Nat) (W : Int → Int → Prop) (t : List (List Int)) : Prop extends Tb t n where
  tie1 : ∀ u v, InR n u → InR n v → ansN r u v = 0 → W u v → ansN t u v = -1
  tie2 : ∀ u v, InR n u → InR n v → ansN r u v = 0 → W v u → ansN t u v = 1
  non : ∀ u v, InR n u → InR n v → ansN r u v ≠ 0 → ansN t u v = ansN r u v
theorem Dc.imp {r : List (List Int)} {n : Nat} {W W' : Int → Int → Prop} {t : List (List Int)} (h : Dc r n W t) (s : ∀ u v, W' u v → W u v) : Dc r n W' t :=
  ⟨h.toTb, fun u v hu hv e w => h.tie1 u v hu hv e (s _ _ w), fun u v hu hv e w => h.tie2 u v hu hv e (s _ _ w), h.non⟩
theorem Rw.perm {row row' : List Int} {n : Nat} (h : Rw row n) (p : row'.Perm row) : Rw row' n := ⟨by rw [p.length_eq, h.len], p.nodup_iff.mpr h.nd, fun y hy => h.inr y (p.mem_iff.mp hy)⟩
theorem Faith.mem {b : Int → Int → Bool} {row : List Int} {S : List Int × Log} (F : Faith b row S) {p : Int × Int} (hp : p ∈ S.2) : p.1 ∈ row ∧ p.2 ∈ row := by
  have m : p.1 ∈ S.1 ∧ p.2 ∈ S.1 := by
    cases e : b p.1 p.2 with
    | true => exact ((F.rt p hp).1 e).mem
    | false => exact ((F.rt p hp).2 e).mem.symm
  exact ⟨F.perm.mem_iff.mp m.1, F.perm.mem_iff.mp m.2⟩
theorem nd_len : ∀ (l m : List Int), l.Nodup → (∀ x ∈ l, x ∈ m) → l.length ≤ m.length
  | [], m, _, _ => Nat.zero_le _
  | a :: l, m, nd, h => by
    have n := List.nodup_cons.mp nd
    have ma := h a (List.mem_cons_self ..)
    have ih := nd_len l (m.erase a) n.2 fun x hx => (List.mem_erase_of_ne (fun e => n.1 (by rw [← e]; exact hx))).mpr (h x (List.mem_cons_of_mem _ hx))
    rw [List.length_erase_of_mem ma] at ih
    have := List.length_pos_of_mem ma
    rw [List.length_cons]
    omega
theorem Rw.all {row : List Int} {n : Nat} (h : Rw row n) {y : Int} (hy : InR n y) : y ∈ row := by
  refine Classical.byContradiction fun ne => ?_
  have := nd_len (y :: row) (rangeL 0 n) (List.nodup_cons.mpr ⟨ne, h.nd⟩) fun x hx => by
    rcases List.mem_cons.mp hx with e | hx
    · rw [e]; exact rangeL_mem.mpr ⟨hy.1, by have := hy.2; omega⟩
    · have := h.inr x hx; exact rangeL_mem.mpr ⟨this.1, by have := this.2; omega⟩
  rw [List.length_cons, rangeL_len, h.len] at this
  omega
end My
namespace My
open PySem PySem.Spec PyProof.Rows L2 Tr
open Prod (fst snd)
section
variable {b : Int → Int → Bool}
theorem ah_ix : ∀ {l : List Int} {x y : Int}, Ah l x y ↔ ∃ k : Nat, l[k]? = some x ∧ y ∈ l.drop (k + 1)
  | [], x, y => ⟨fun h => absurd h ah_nil, fun ⟨k, h, _⟩ => by rw [List.getElem?_nil] at h; cases h⟩
  | z :: l, x, y => by
    rw [ah_cons, ah_ix (l := l)]
    constructor
    · rintro (⟨rfl, h⟩ | ⟨k, h1, h2⟩)
      · exact ⟨0, rfl, h⟩
      · exact ⟨k + 1, h1, h2⟩
    · rintro ⟨k, h1, h2⟩
      cases k with
      | zero => exact .inl ⟨(Option.some.inj h1).symm, h2⟩
      | succ k => exact .inr ⟨k, h1, h2⟩
def TrB (b : Int → Int → Bool) (l : List Int) : Prop := ∀ x ∈ l, ∀ y ∈ l, ∀ z ∈ l, b x y = true → b y z = true → b x z = true
theorem TrB.sub {l l' : List Int} (h : TrB b l) (s : ∀ x ∈ l', x ∈ l) : TrB b l' := fun x hx y hy z hz => h x (s x hx) y (s y hy) z (s z hz)
/-! ### rows that stay -/
/-! ### paths -/
/-! ### again and again -/
/-- a sort that goes on for good ends: the head goes down -/
structure Down (b : Int → Int → Bool) (S : List Int → List Int) : Prop where
  perm : ∀ l, (S l).Perm l
  stay : ∀ x xs, (∀ z ∈ xs, b z x = false) → S (x :: xs) = x :: S xs
  go : ∀ (ρ : Int → Nat) x xs, (∀ u ∈ x :: xs, ∀ v ∈ x :: xs, b u v = true → ρ u < ρ v) → (∃ z ∈ xs, b z x = true) → (x :: xs).Nodup → ∃ w ws, S (x :: xs) = w :: ws ∧ ρ w < ρ x
/-! ### taking away what nothing is before -/
end
end My
namespace My
open PySem PySem.Spec PyProof.Rows L2 Tr
open Prod (fst snd)
/-! ### comprehensions as what they give -/
theorem cmpOGo_fm {α β : Type} {cond : α → Option Bool} {elt : α → Option β} {c : α → Bool} {g : α → β} : ∀ (xs : List α), (∀ a ∈ xs, cond a = some (c a) ∧ elt a = some (g a)) → cmpOGo cond elt xs = some ((xs.filter c).map g)
  | [], _ => rfl
  | a :: as, h => by
    have h1 := h a (List.mem_cons_self ..)
    have ih := cmpOGo_fm as fun x hx => h x (List.mem_cons_of_mem _ hx)
    unfold cmpOGo
    rw [h1.1, Option.bind_some]
    cases hc : c a with
    | true =>
      rw [if_pos rfl, h1.2, Option.bind_some, ih, List.filter_cons_of_pos hc]
      rfl
    | false => rw [if_neg Bool.false_ne_true, ih, List.filter_cons_of_neg (by rw [hc]; exact Bool.false_ne_true)]
theorem cmpO_fm {α β : Type} {cond : α → Option Bool} {elt : α → Option β} {c : α → Bool} {g : α → β} {xs : List α} (hl : xs.length ≤ 1000000) (h : ∀ a ∈ xs, cond a = some (c a) ∧ elt a = some (g a)) : cmpO cond elt xs = some ((xs.filter c).map g) := by
  unfold cmpO
  rw [if_pos (le_line hl), cmpOGo_fm xs h]
/-! ### where an item stands -/
theorem atI_last {α : Type} {A : List α} {x : α} : atI (A ++ [x]) (-(1 : Int)) = some x := by
  have e : ixN (A ++ [x]).length (-(1 : Int)) = some A.length := by
    rw [List.length_append, List.length_singleton]
    unfold ixN
    first
      | (rw [if_neg (by omega), if_pos (by omega)]; exact congrArg some (by omega))
      | (rw [if_neg (by omega), if_pos ⟨by omega, by omega⟩]; exact congrArg some (by omega))
  unfold atI
  rw [e, Option.bind_some, List.getElem?_append_right (Nat.le_refl _), Nat.sub_self]
  rfl
end My
namespace My
open PySem PySem.Spec PyProof.Rows L2 Tr
/-! ### sums mod 2 -/
def sB {α : Type} (l : List α) (f : α → Bool) : Bool := l.foldr (fun a s => f a ^^ s) false
section
variable {α β : Type}
theorem sB_nil {f : α → Bool} : sB [] f = false := rfl
theorem sB_cons {a : α} {l : List α} {f : α → Bool} : sB (a :: l) f = (f a ^^ sB l f) := rfl
theorem sB_app {l m : List α} {f : α → Bool} : sB (l ++ m) f = (sB l f ^^ sB m f) := by
  induction l with
  | nil => rw [List.nil_append, sB_nil, Bool.false_xor]
  | cons a l ih => rw [List.cons_append, sB_cons, sB_cons, ih, Bool.xor_assoc]
theorem sB_map {l : List α} {g : α → β} {f : β → Bool} : sB (l.map g) f = sB l fun a => f (g a) := by
  induction l with
  | nil => rfl
  | cons a l ih => rw [List.map_cons, sB_cons, sB_cons, ih]
theorem sB_congr {l : List α} {f g : α → Bool} (h : ∀ a ∈ l, f a = g a) : sB l f = sB l g := by
  induction l with
  | nil => rfl
  | cons a l ih => rw [sB_cons, sB_cons, h a (List.mem_cons_self ..), ih fun x hx => h x (List.mem_cons_of_mem _ hx)]
theorem sB_xor {l : List α} {f g : α → Bool} : sB l (fun a => f a ^^ g a) = (sB l f ^^ sB l g) := by
  induction l with
  | nil => rfl
  | cons a l ih =>
    rw [sB_cons, sB_cons, sB_cons, ih]
    cases f a <;> cases g a <;> cases sB l f <;> cases sB l g <;> rfl
theorem sB_and {l : List α} {f : α → Bool} {c : Bool} : sB l (fun a => f a && c) = (sB l f && c) := by
  induction l with
  | nil => rfl
  | cons a l ih =>
    rw [sB_cons, sB_cons, ih]
    cases f a <;> cases c <;> cases sB l f <;> rfl
theorem sB_andl {l : List α} {f : α → Bool} {c : Bool} : sB l (fun a => c && f a) = (c && sB l f) := by
  rw [Bool.and_comm, ← sB_and]
  exact sB_congr fun a _ => Bool.and_comm _ _
theorem sB_false {l : List α} : sB l (fun _ => false) = false := by
  induction l with
  | nil => rfl
  | cons a l ih => rw [sB_cons, ih]; rfl
end
/-! ### one taken out; parted in two -/
section
variable {α : Type}
def picks : List α → List (α × List α)
  | [] => []
  | x :: S => (x, S) :: (picks S).map fun p => (p.1, x :: p.2)
def subs : List α → List (List α × List α)
  | [] => [([], [])]
  | x :: S => (subs S).map (fun p => (x :: p.1, p.2)) ++ (subs S).map fun p => (p.1, x :: p.2)
theorem picks_len : ∀ {S : List α} {p : α × List α}, p ∈ picks S → p.2.length + 1 = S.length
  | x :: S, p, h => by
    rcases List.mem_cons.mp (show p ∈ (x, S) :: (picks S).map fun p => (p.1, x :: p.2) from h) with rfl | h
    · rfl
    · obtain ⟨q, hq, rfl⟩ := List.mem_map.mp h
      have := picks_len hq
      show (x :: q.2).length + 1 = (x :: S).length
      rw [List.length_cons, List.length_cons]
      omega
theorem subs_len : ∀ {S : List α} {p : List α × List α}, p ∈ subs S → p.1.length + p.2.length = S.length
  | [], p, h => by
    rw [List.mem_singleton.mp (show p ∈ [([], [])] from h)]
    rfl
  | x :: S, p, h => by
    rcases List.mem_append.mp (show p ∈ (subs S).map (fun p => (x :: p.1, p.2)) ++ (subs S).map fun p => (p.1, x :: p.2) from h) with h | h
    · obtain ⟨q, hq, rfl⟩ := List.mem_map.mp h
      have := subs_len hq
      show (x :: q.1).length + q.2.length = (x :: S).length
      rw [List.length_cons, List.length_cons]
      omega
    · obtain ⟨q, hq, rfl⟩ := List.mem_map.mp h
      have := subs_len hq
      show q.1.length + (x :: q.2).length = (x :: S).length
      rw [List.length_cons, List.length_cons]
      omega
theorem sB_picks {x : α} {S : List α} {f : α × List α → Bool} : sB (picks (x :: S)) f = (f (x, S) ^^ sB (picks S) fun p => f (p.1, x :: p.2)) := by
  show sB ((x, S) :: (picks S).map fun p => (p.1, x :: p.2)) f = _
  rw [sB_cons, sB_map]
theorem sB_subs {x : α} {S : List α} {f : List α × List α → Bool} : sB (subs (x :: S)) f = ((sB (subs S) fun p => f (x :: p.1, p.2)) ^^ sB (subs S) fun p => f (p.1, x :: p.2)) := by
  show sB ((subs S).map (fun p => (x :: p.1, p.2)) ++ (subs S).map fun p => (p.1, x :: p.2)) f = _
  rw [sB_app, sB_map, sB_map]
/-- first one taken out, then parted: first parted, then one of the first part taken out -/
theorem pick_sub : ∀ (S : List α) (φ : α → List α → List α → Bool), sB (picks S) (fun p => sB (subs p.2) fun q => φ p.1 q.1 q.2) = sB (subs S) fun q => sB (picks q.1) fun p => φ p.1 p.2 q.2
  | [], _ => rfl
  | x :: S, φ => by
    have h1 := pick_sub S fun y B C => φ y (x :: B) C
    have h2 := pick_sub S fun y B C => φ y B (x :: C)
    rw [sB_picks, sB_subs]
    simp only [sB_subs, sB_picks, sB_xor]
    rw [h1, h2, Bool.xor_assoc]
theorem subs_swap : ∀ (S : List α) (φ : List α → List α → Bool), sB (subs S) (fun q => φ q.1 q.2) = sB (subs S) fun q => φ q.2 q.1
  | [], _ => rfl
  | x :: S, φ => by
    rw [sB_subs, sB_subs, subs_swap S fun B C => φ (x :: B) C, subs_swap S fun B C => φ B (x :: C), Bool.xor_comm]
/-- what is alike both ways adds up to nothing -/
theorem subs_even {x : α} {S : List α} {φ : List α → List α → Bool} (h : ∀ B C, φ B C = φ C B) : sB (subs (x :: S)) (fun q => φ q.1 q.2) = false := by
  rw [sB_subs]
  have e : sB (subs S) (fun q => φ q.1 (x :: q.2)) = sB (subs S) fun q => φ (x :: q.1) q.2 := by
    have e1 : sB (subs S) (fun q => φ q.1 (x :: q.2)) = sB (subs S) fun q => φ (x :: q.2) q.1 := sB_congr fun q _ => h _ _
    exact e1.trans (subs_swap S fun B C => φ (x :: B) C).symm
  rw [e, Bool.xor_self]
/-- parted in three -/
theorem subs_three : ∀ (S : List α) (φ : List α → List α → List α → Bool), sB (subs S) (fun q => sB (subs q.1) fun r => φ r.1 r.2 q.2) = sB (subs S) fun q => sB (subs q.2) fun r => φ r.1 q.1 r.2
  | [], _ => rfl
  | x :: S, φ => by
    have h1 := subs_three S fun D E C => φ (x :: D) E C
    have h2 := subs_three S fun D E C => φ D (x :: E) C
    have h3 := subs_three S fun D E C => φ D E (x :: C)
    rw [sB_subs, sB_subs]
    simp only [sB_subs, sB_xor]
    rw [h1, h2, h3]
    generalize sB (subs S) (fun q => sB (subs q.2) fun r => φ (x :: r.1) q.1 r.2) = a
    generalize sB (subs S) (fun q => sB (subs q.2) fun r => φ r.1 (x :: q.1) r.2) = b
    generalize sB (subs S) (fun q => sB (subs q.2) fun r => φ r.1 q.1 (x :: r.2)) = c
    cases a <;> cases b <;> cases c <;> rfl
theorem pick_pick : ∀ (S : List α) (φ : α → α → List α → Bool), sB (picks S) (fun p => sB (picks p.2) fun q => φ p.1 q.1 q.2) = sB (picks S) fun p => sB (picks p.2) fun q => φ q.1 p.1 q.2
  | [], _ => rfl
  | x :: S, φ => by
    have h := pick_pick S fun y z B => φ y z (x :: B)
    rw [sB_picks, sB_picks]
    simp only [sB_picks, sB_xor]
    rw [h]
    generalize sB (picks S) (fun p => sB (picks p.2) fun q => φ q.1 p.1 (x :: q.2)) = a
    generalize sB (picks S) (fun p => φ x p.1 p.2) = b
    generalize sB (picks S) (fun p => φ p.1 x p.2) = c
    cases a <;> cases b <;> cases c <;> rfl
/-- only the parting with nothing in the first part -/
theorem subs_none : ∀ (S : List α) (φ : List α → List α → Bool), (∀ x B C, φ (x :: B) C = false) → sB (subs S) (fun q => φ q.1 q.2) = φ [] S
  | [], φ, _ => by show (φ [] [] ^^ false) = _; rw [Bool.xor_false]
  | x :: S, φ, h => by
    rw [sB_subs, sB_congr (g := fun _ => false) (fun q _ => h _ _ _), sB_false, Bool.false_xor]
    exact subs_none S (fun B C => φ B (x :: C)) fun y B C => h _ _ _
end
/-! ### rows, mod 2 -/
section
variable {α : Type}
/-- the rows of all of S behind x, each next to the one before by R -/
def aF (R : α → α → Bool) : Nat → α → List α → Bool
  | 0, _, S => S.isEmpty
  | f + 1, x, S => S.isEmpty ^^ sB (picks S) fun p => R x p.1 && aF R f p.1 p.2
def aB (R : α → α → Bool) (x : α) (S : List α) : Bool := aF R S.length x S
theorem aB_eq (R : α → α → Bool) (x : α) (S : List α) : aB R x S = (S.isEmpty ^^ sB (picks S) fun p => R x p.1 && aB R p.1 p.2) := by
  cases S with
  | nil => rfl
  | cons y S =>
    show ((y :: S).isEmpty ^^ sB (picks (y :: S)) fun p => R x p.1 && aF R S.length p.1 p.2) = _
    refine congrArg (fun z => (y :: S).isEmpty ^^ z) (sB_congr fun p hp => ?_)
    have := picks_len hp
    rw [List.length_cons] at this
    unfold aB
    rw [show p.2.length = S.length by omega]
def fB (R : α → α → Bool) (S : List α) : Bool := sB (picks S) fun p => aB R p.1 p.2
def nR (R : α → α → Bool) : α → α → Bool := fun x y => !R x y
def gB' (R : α → α → Bool) (S : List α) : Bool := S.isEmpty ^^ fB (nR R) S
theorem fB_nil {R : α → α → Bool} : fB R [] = false := rfl
theorem emp {S : List α} (h : S ≠ []) : S.isEmpty = false := by cases S with
  | nil => exact absurd rfl h
  | cons _ _ => rfl
theorem star (R : α → α → Bool) : ∀ (k : Nat) (S : List α) (x : α), S.length ≤ k → aB (nR R) x S = sB (subs S) fun q => aB R x q.1 && gB' R q.2
  | _, [], x, _ => rfl
  | k + 1, y :: S, x, hk => by
    rw [List.length_cons] at hk
    have ih : ∀ p ∈ picks (y :: S), aB (nR R) p.1 p.2 = sB (subs p.2) fun q => aB R p.1 q.1 && gB' R q.2 := fun p hp => star R k p.2 p.1 (by
      have := picks_len hp
      rw [List.length_cons] at this
      omega)
    have e1 : aB (nR R) x (y :: S) = (gB' R (y :: S) ^^ sB (picks (y :: S)) fun p => R x p.1 && aB (nR R) p.1 p.2) := by
      rw [aB_eq]
      show (false ^^ sB (picks (y :: S)) fun p => !R x p.1 && aB (nR R) p.1 p.2) = ((false ^^ sB (picks (y :: S)) fun p => aB (nR R) p.1 p.2) ^^ sB (picks (y :: S)) fun p => R x p.1 && aB (nR R) p.1 p.2)
      rw [Bool.false_xor, Bool.false_xor, ← sB_xor]
      refine sB_congr fun p _ => ?_
      cases R x p.1 <;> cases aB (nR R) p.1 p.2 <;> rfl
    have e2 : (sB (picks (y :: S)) fun p => R x p.1 && aB (nR R) p.1 p.2) = sB (subs (y :: S)) fun q => (sB (picks q.1) fun p => R x p.1 && aB R p.1 p.2) && gB' R q.2 := by
      have a : (sB (picks (y :: S)) fun p => R x p.1 && aB (nR R) p.1 p.2) = sB (picks (y :: S)) fun p => sB (subs p.2) fun q => (R x p.1 && aB R p.1 q.1) && gB' R q.2 := sB_congr fun p hp => by
        rw [ih p hp, ← sB_andl]
        exact sB_congr fun q _ => (Bool.and_assoc _ _ _).symm
      rw [a, pick_sub (y :: S) fun z B C => (R x z && aB R z B) && gB' R C]
      exact sB_congr fun q _ => sB_and
    have e3 : (sB (subs (y :: S)) fun q => aB R x q.1 && gB' R q.2) = ((sB (subs (y :: S)) fun q => q.1.isEmpty && gB' R q.2) ^^ sB (subs (y :: S)) fun q => (sB (picks q.1) fun p => R x p.1 && aB R p.1 p.2) && gB' R q.2) := by
      rw [← sB_xor]
      refine sB_congr fun q _ => ?_
      rw [aB_eq R x q.1]
      generalize (sB (picks q.1) fun p => R x p.1 && aB R p.1 p.2) = u
      cases q.1.isEmpty <;> cases u <;> cases gB' R q.2 <;> rfl
    rw [e1, e2, e3, subs_none (y :: S) (fun B C => B.isEmpty && gB' R C) fun _ _ _ => rfl]
    rfl
/-- Berge: as many rows by R as by what is not R, mod 2 -/
theorem berge (R : α → α → Bool) : ∀ (k : Nat) (S : List α), S.length ≤ k → gB' R S = (S.isEmpty ^^ fB R S)
  | _, [], _ => rfl
  | k + 1, y :: S, hk => by
    rw [List.length_cons] at hk
    have e1 : gB' R (y :: S) = sB (subs (y :: S)) fun q => fB R q.1 && gB' R q.2 := by
      show (false ^^ sB (picks (y :: S)) fun p => aB (nR R) p.1 p.2) = _
      rw [Bool.false_xor, sB_congr (g := fun p => sB (subs p.2) fun q => aB R p.1 q.1 && gB' R q.2) fun p _ => star R _ p.2 p.1 (Nat.le_refl _), pick_sub (y :: S) fun z B C => aB R z B && gB' R C]
      exact sB_congr fun q _ => sB_and
    have e2 : (sB (subs (y :: S)) fun q => fB R q.1 && gB' R q.2) = sB (subs (y :: S)) fun q => (fB R q.1 && q.2.isEmpty) ^^ (fB R q.1 && fB R q.2) := sB_congr fun q hq => by
      have l := subs_len hq
      rw [List.length_cons] at l
      by_cases c : q.1 = []
      · rw [c, fB_nil]
        rfl
      · have : 0 < q.1.length := List.length_pos_iff.mpr c
        rw [berge R k q.2 (by omega)]
        cases fB R q.1 <;> cases q.2.isEmpty <;> cases fB R q.2 <;> rfl
    rw [e1, e2, sB_xor, subs_even (φ := fun B C => fB R B && fB R C) fun B C => Bool.and_comm _ _, Bool.xor_false, subs_swap (y :: S) fun B C => fB R B && C.isEmpty, subs_none (y :: S) (fun B C => fB R C && B.isEmpty) fun _ _ _ => Bool.and_false _]
    show (fB R (y :: S) && true) = (false ^^ fB R (y :: S))
    rw [Bool.and_true, Bool.false_xor]
end
end My
namespace My
open PySem PySem.Spec PyProof.Rows L2 Tr
/-! ### rows from y through all of B to x, from the front and from the back -/
section
variable {α : Type} (R : α → α → Bool)
def wF : Nat → α → List α → α → Bool
  | 0, y, B, x => B.isEmpty && R y x
  | f + 1, y, B, x => (B.isEmpty && R y x) ^^ sB (picks B) fun p => R y p.1 && wF f p.1 p.2 x
def vF : Nat → α → List α → α → Bool
  | 0, y, B, x => B.isEmpty && R y x
  | f + 1, y, B, x => (B.isEmpty && R y x) ^^ sB (picks B) fun p => vF f y p.2 p.1 && R p.1 x
def wB (y : α) (B : List α) (x : α) : Bool := wF R B.length y B x
def vB (y : α) (B : List α) (x : α) : Bool := vF R B.length y B x
theorem wB_eq (y : α) (B : List α) (x : α) : wB R y B x = ((B.isEmpty && R y x) ^^ sB (picks B) fun p => R y p.1 && wB R p.1 p.2 x) := by
  cases B with
  | nil => show (true && R y x) = ((true && R y x) ^^ false); rw [Bool.xor_false]
  | cons z B =>
    show (((z :: B).isEmpty && R y x) ^^ sB (picks (z :: B)) fun p => R y p.1 && wF R B.length p.1 p.2 x) = _
    refine congrArg (fun u => ((z :: B).isEmpty && R y x) ^^ u) (sB_congr fun p hp => ?_)
    have := picks_len hp
    rw [List.length_cons] at this
    unfold wB
    rw [show p.2.length = B.length by omega]
theorem vB_eq (y : α) (B : List α) (x : α) : vB R y B x = ((B.isEmpty && R y x) ^^ sB (picks B) fun p => vB R y p.2 p.1 && R p.1 x) := by
  cases B with
  | nil => show (true && R y x) = ((true && R y x) ^^ false); rw [Bool.xor_false]
  | cons z B =>
    show (((z :: B).isEmpty && R y x) ^^ sB (picks (z :: B)) fun p => vF R B.length y p.2 p.1 && R p.1 x) = _
    refine congrArg (fun u => ((z :: B).isEmpty && R y x) ^^ u) (sB_congr fun p hp => ?_)
    have := picks_len hp
    rw [List.length_cons] at this
    unfold vB
    rw [show p.2.length = B.length by omega]
theorem wv : ∀ (k : Nat) (B : List α) (y x : α), B.length ≤ k → wB R y B x = vB R y B x
  | _, [], _, _, _ => rfl
  | k + 1, z :: B, y, x, hk => by
    rw [List.length_cons] at hk
    have len : ∀ p ∈ picks (z :: B), p.2.length ≤ k := fun p hp => by
      have := picks_len hp
      rw [List.length_cons] at this
      omega
    have a : wB R y (z :: B) x = ((sB (picks (z :: B)) fun p => p.2.isEmpty && (R y p.1 && R p.1 x)) ^^ sB (picks (z :: B)) fun p => sB (picks p.2) fun q => (R y p.1 && vB R p.1 q.2 q.1) && R q.1 x) := by
      rw [wB_eq]
      show (false ^^ _) = _
      rw [Bool.false_xor, ← sB_xor]
      refine sB_congr fun p hp => ?_
      rw [wv k p.2 p.1 x (len p hp), vB_eq R p.1 p.2 x]
      have e : (sB (picks p.2) fun q => (R y p.1 && vB R p.1 q.2 q.1) && R q.1 x) = (R y p.1 && sB (picks p.2) fun q => vB R p.1 q.2 q.1 && R q.1 x) := by
        rw [← sB_andl]
        exact sB_congr fun q _ => Bool.and_assoc _ _ _
      rw [e]
      generalize (sB (picks p.2) fun q => vB R p.1 q.2 q.1 && R q.1 x) = u
      cases p.2.isEmpty <;> cases R y p.1 <;> cases R p.1 x <;> cases u <;> rfl
    have b : vB R y (z :: B) x = ((sB (picks (z :: B)) fun p => p.2.isEmpty && (R y p.1 && R p.1 x)) ^^ sB (picks (z :: B)) fun p => sB (picks p.2) fun q => (R y q.1 && wB R q.1 q.2 p.1) && R p.1 x) := by
      rw [vB_eq]
      show (false ^^ _) = _
      rw [Bool.false_xor, ← sB_xor]
      refine sB_congr fun p hp => ?_
      rw [← wv k p.2 y p.1 (len p hp), wB_eq R y p.2 p.1, sB_and]
      generalize (sB (picks p.2) fun q => R y q.1 && wB R q.1 q.2 p.1) = u
      cases p.2.isEmpty <;> cases R y p.1 <;> cases R p.1 x <;> cases u <;> rfl
    rw [a, b, ← pick_pick (z :: B) fun s t C => (R y s && wB R s C t) && R t x]
    refine congrArg _ (sB_congr fun p hp => sB_congr fun q hq => ?_)
    rw [wv k q.2 p.1 q.1 (by have := picks_len hq; have := len p hp; omega)]
def tR : α → α → Bool := fun x y => R y x
theorem av : ∀ (k : Nat) (B : List α) (x : α), B.length ≤ k → aB (tR R) x B = (B.isEmpty ^^ sB (picks B) fun p => vB R p.1 p.2 x)
  | _, [], _, _ => rfl
  | k + 1, z :: B, x, hk => by
    rw [List.length_cons] at hk
    have len : ∀ p ∈ picks (z :: B), p.2.length ≤ k := fun p hp => by
      have := picks_len hp
      rw [List.length_cons] at this
      omega
    rw [aB_eq]
    refine congrArg (fun u => (z :: B).isEmpty ^^ u) ?_
    have a : (sB (picks (z :: B)) fun p => tR R x p.1 && aB (tR R) p.1 p.2) = ((sB (picks (z :: B)) fun p => p.2.isEmpty && R p.1 x) ^^ sB (picks (z :: B)) fun p => sB (picks p.2) fun q => vB R q.1 q.2 p.1 && R p.1 x) := by
      rw [← sB_xor]
      refine sB_congr fun p hp => ?_
      rw [av k p.2 p.1 (len p hp), sB_and]
      show (R p.1 x && _) = _
      generalize (sB (picks p.2) fun q => vB R q.1 q.2 p.1) = u
      cases p.2.isEmpty <;> cases R p.1 x <;> cases u <;> rfl
    have b : (sB (picks (z :: B)) fun p => vB R p.1 p.2 x) = ((sB (picks (z :: B)) fun p => p.2.isEmpty && R p.1 x) ^^ sB (picks (z :: B)) fun p => sB (picks p.2) fun q => vB R p.1 q.2 q.1 && R q.1 x) := by
      rw [← sB_xor]
      exact sB_congr fun p hp => vB_eq R p.1 p.2 x
    rw [a, b, ← pick_pick (z :: B) fun s t C => vB R s C t && R t x]
theorem aw : ∀ (k : Nat) (S : List α) (y x : α), S.length ≤ k → aB R y (x :: S) = sB (subs S) fun q => wB R y q.1 x && aB R x q.2
  | _, [], y, x, _ => by
    rw [aB_eq]
    show (false ^^ ((R y x && aB R x []) ^^ false)) = ((wB R y [] x && aB R x []) ^^ false)
    rw [Bool.false_xor]
    rfl
  | k + 1, z :: S, y, x, hk => by
    rw [List.length_cons] at hk
    have a : aB R y (x :: z :: S) = ((R y x && aB R x (z :: S)) ^^ sB (picks (z :: S)) fun p => R y p.1 && aB R p.1 (x :: p.2)) := by
      rw [aB_eq]
      show (false ^^ sB (picks (x :: z :: S)) fun p => R y p.1 && aB R p.1 p.2) = _
      rw [Bool.false_xor, sB_picks]
    have b : (sB (picks (z :: S)) fun p => R y p.1 && aB R p.1 (x :: p.2)) = sB (subs (z :: S)) fun q => (sB (picks q.1) fun p => R y p.1 && wB R p.1 p.2 x) && aB R x q.2 := by
      have e : (sB (picks (z :: S)) fun p => R y p.1 && aB R p.1 (x :: p.2)) = sB (picks (z :: S)) fun p => sB (subs p.2) fun q => (R y p.1 && wB R p.1 q.1 x) && aB R x q.2 := sB_congr fun p hp => by
        have := picks_len hp
        rw [List.length_cons] at this
        rw [aw k p.2 p.1 x (by omega), ← sB_andl]
        exact sB_congr fun q _ => (Bool.and_assoc _ _ _).symm
      rw [e, pick_sub (z :: S) fun s B C => (R y s && wB R s B x) && aB R x C]
      exact sB_congr fun q _ => sB_and
    have c : (sB (subs (z :: S)) fun q => wB R y q.1 x && aB R x q.2) = ((sB (subs (z :: S)) fun q => q.1.isEmpty && (R y x && aB R x q.2)) ^^ sB (subs (z :: S)) fun q => (sB (picks q.1) fun p => R y p.1 && wB R p.1 p.2 x) && aB R x q.2) := by
      rw [← sB_xor]
      refine sB_congr fun q _ => ?_
      rw [wB_eq R y q.1 x]
      generalize (sB (picks q.1) fun p => R y p.1 && wB R p.1 p.2 x) = u
      cases q.1.isEmpty <;> cases R y x <;> cases u <;> cases aB R x q.2 <;> rfl
    rw [a, b, c, subs_none (z :: S) (fun B C => B.isEmpty && (R y x && aB R x C)) fun _ _ _ => rfl]
    rfl
/-- each row has one place where x stands -/
theorem dec_x (S : List α) (x : α) : fB R (x :: S) = sB (subs S) fun q => aB (tR R) x q.1 && aB R x q.2 := by
  have a : fB R (x :: S) = (aB R x S ^^ sB (subs S) fun q => (sB (picks q.1) fun p => wB R p.1 p.2 x) && aB R x q.2) := by
    unfold fB
    rw [sB_picks]
    refine congrArg _ ?_
    have e : (sB (picks S) fun p => aB R p.1 (x :: p.2)) = sB (picks S) fun p => sB (subs p.2) fun q => wB R p.1 q.1 x && aB R x q.2 := sB_congr fun p _ => aw R _ p.2 p.1 x (Nat.le_refl _)
    refine Eq.trans e ?_
    rw [pick_sub S fun s B C => wB R s B x && aB R x C]
    exact sB_congr fun q _ => sB_and
  have b : (sB (subs S) fun q => aB (tR R) x q.1 && aB R x q.2) = ((sB (subs S) fun q => q.1.isEmpty && aB R x q.2) ^^ sB (subs S) fun q => (sB (picks q.1) fun p => wB R p.1 p.2 x) && aB R x q.2) := by
    rw [← sB_xor]
    refine sB_congr fun q _ => ?_
    rw [av R _ q.1 x (Nat.le_refl _), sB_congr (g := fun p => wB R p.1 p.2 x) fun p _ => (wv R _ p.2 p.1 x (Nat.le_refl _)).symm]
    generalize (sB (picks q.1) fun p => wB R p.1 p.2 x) = u
    cases q.1.isEmpty <;> cases u <;> cases aB R x q.2 <;> rfl
  rw [a, b, subs_none S (fun B C => B.isEmpty && aB R x C) fun _ _ _ => rfl]
  rfl
end
/-! ### tournaments -/
section
variable {α : Type}
theorem picks_perm : ∀ {S : List α} {p : α × List α}, p ∈ picks S → (p.1 :: p.2).Perm S
  | x :: S, p, h => by
    rcases List.mem_cons.mp (show p ∈ (x, S) :: (picks S).map fun p => (p.1, x :: p.2) from h) with rfl | h
    · exact .refl _
    · obtain ⟨q, hq, rfl⟩ := List.mem_map.mp h
      exact (List.Perm.swap x q.1 q.2).trans ((picks_perm hq).cons x)
theorem subs_perm : ∀ {S : List α} {p : List α × List α}, p ∈ subs S → (p.1 ++ p.2).Perm S
  | [], p, h => by
    rw [List.mem_singleton.mp (show p ∈ [([], [])] from h)]
    exact .refl _
  | x :: S, p, h => by
    rcases List.mem_append.mp (show p ∈ (subs S).map (fun p => (x :: p.1, p.2)) ++ (subs S).map fun p => (p.1, x :: p.2) from h) with h | h
    · obtain ⟨q, hq, rfl⟩ := List.mem_map.mp h
      exact (subs_perm hq).cons x
    · obtain ⟨q, hq, rfl⟩ := List.mem_map.mp h
      exact List.perm_middle.trans ((subs_perm hq).cons x)
def Tn (R : α → α → Bool) (S : List α) : Prop := S.Nodup ∧ ∀ x ∈ S, ∀ y ∈ S, x ≠ y → R y x = !R x y
theorem Tn.perm {R : α → α → Bool} {S S' : List α} (h : Tn R S) (p : S'.Perm S) : Tn R S' := ⟨p.nodup_iff.mpr h.1, fun x hx y hy => h.2 x (p.mem_iff.mp hx) y (p.mem_iff.mp hy)⟩
theorem Tn.sub {R : α → α → Bool} {S S' : List α} (h : Tn R S) (p : List.Sublist S' S) : Tn R S' := ⟨h.1.sublist p, fun x hx y hy => h.2 x (p.subset hx) y (p.subset hy)⟩
theorem conv (R : α → α → Bool) : ∀ (k : Nat) (B : List α) (x : α), B.length ≤ k → Tn R (x :: B) → aB (tR R) x B = aB (nR R) x B
  | _, [], _, _, _ => rfl
  | k + 1, z :: B, x, hk, t => by
    rw [List.length_cons] at hk
    rw [aB_eq, aB_eq]
    refine congrArg (fun u => (z :: B).isEmpty ^^ u) (sB_congr fun p hp => ?_)
    have l := picks_len hp
    rw [List.length_cons] at l
    have pp := picks_perm hp
    have t2 : Tn R (x :: p.1 :: p.2) := t.perm (pp.cons x)
    rw [conv R k p.2 p.1 (by omega) (t2.sub (List.sublist_cons_self ..))]
    have ne : x ≠ p.1 := fun e => (List.nodup_cons.mp t2.1).1 (by rw [e]; exact List.mem_cons_self ..)
    have := t2.2 x (List.mem_cons_self ..) p.1 (List.mem_cons_of_mem _ (List.mem_cons_self ..)) ne
    show (R p.1 x && _) = (!R x p.1 && _)
    rw [this]
/-- Redei: a tournament has an odd number of rows -/
theorem redei (R : α → α → Bool) : ∀ (k : Nat) (S : List α), S.length ≤ k → Tn R S → S ≠ [] → fB R S = true
  | _, [], _, _, h => absurd rfl h
  | k + 1, x :: S, hk, t, _ => by
    rw [List.length_cons] at hk
    have g1 : ∀ q ∈ subs S, aB (tR R) x q.1 = sB (subs q.1) fun r => aB R x r.1 := fun q hq => by
      have pq := subs_perm hq
      have tq : Tn R (x :: (q.1 ++ q.2)) := t.perm (pq.cons x)
      have t1 : Tn R (x :: q.1) := tq.sub (List.Sublist.cons_cons x (List.sublist_append_left ..))
      rw [conv R _ q.1 x (Nat.le_refl _) t1, star R _ q.1 x (Nat.le_refl _)]
      refine sB_congr fun r hr => ?_
      have pr := subs_perm hr
      have l1 := subs_len hq
      have l2 := subs_len hr
      have t3 : Tn R r.2 := ((t1.sub (List.sublist_cons_self ..)).perm pr).sub (List.sublist_append_right ..)
      rw [berge R _ r.2 (Nat.le_refl _)]
      by_cases c : r.2 = []
      · rw [c, fB_nil]
        exact Bool.and_true _
      · rw [redei R k r.2 (by omega) t3 c, emp c]
        exact Bool.and_true _
    have e : fB R (x :: S) = sB (subs S) fun q => sB (subs q.1) fun r => aB R x r.1 && aB R x q.2 := by
      rw [dec_x]
      exact sB_congr fun q hq => by rw [g1 q hq, sB_and]
    have f : ∀ q ∈ subs S, (sB (subs q.2) fun r => aB R x r.1 && aB R x r.2) = q.2.isEmpty := fun q _ => by
      cases hq : q.2 with
      | nil => rfl
      | cons y F => exact subs_even (φ := fun B C => aB R x B && aB R x C) fun B C => Bool.and_comm _ _
    rw [e, subs_three S fun D E C => aB R x D && aB R x C, sB_congr f, subs_swap S fun B C => C.isEmpty, subs_none S (fun B C => B.isEmpty) fun _ _ _ => rfl]
    rfl
end
end My
namespace My
open PySem PySem.Spec PyProof.Rows L2 Tr
/-! ### how many rows -/
def od (n : Nat) : Bool := decide (n % 2 = 1)
theorem od_add (a b : Nat) : od (a + b) = (od a ^^ od b) := by
  unfold od
  rcases Nat.mod_two_eq_zero_or_one a with h | h <;> rcases Nat.mod_two_eq_zero_or_one b with k | k
  · rw [show (a + b) % 2 = 0 by omega, h, k]; rfl
  · rw [show (a + b) % 2 = 1 by omega, h, k]; rfl
  · rw [show (a + b) % 2 = 1 by omega, h, k]; rfl
  · rw [show (a + b) % 2 = 0 by omega, h, k]; rfl
section
variable {α β : Type}
def sN (l : List α) (f : α → Nat) : Nat := l.foldr (fun a s => f a + s) 0
theorem sN_cons {a : α} {l : List α} {f : α → Nat} : sN (a :: l) f = f a + sN l f := rfl
theorem sN_app {l m : List α} {f : α → Nat} : sN (l ++ m) f = sN l f + sN m f := by
  induction l with
  | nil => rw [List.nil_append]; exact (Nat.zero_add _).symm
  | cons a l ih => rw [List.cons_append, sN_cons, sN_cons, ih, Nat.add_assoc]
theorem sN_map {l : List α} {g : α → β} {f : β → Nat} : sN (l.map g) f = sN l fun a => f (g a) := by
  induction l with
  | nil => rfl
  | cons a l ih => rw [List.map_cons, sN_cons, sN_cons, ih]
theorem sN_congr {l : List α} {f g : α → Nat} (h : ∀ a ∈ l, f a = g a) : sN l f = sN l g := by
  induction l with
  | nil => rfl
  | cons a l ih => rw [sN_cons, sN_cons, h a (List.mem_cons_self ..), ih fun x hx => h x (List.mem_cons_of_mem _ hx)]
theorem sN_flat {l : List α} {g : α → List β} {f : β → Nat} : sN (l.flatMap g) f = sN l fun a => sN (g a) f := by
  induction l with
  | nil => rfl
  | cons a l ih => rw [List.flatMap_cons, sN_app, sN_cons, ih]
theorem sN_filter {l : List α} {c : α → Bool} {f : α → Nat} : sN (l.filter c) f = sN l fun a => if c a = true then f a else 0 := by
  induction l with
  | nil => rfl
  | cons a l ih =>
    rw [sN_cons]
    cases h : c a with
    | true => rw [List.filter_cons_of_pos h, sN_cons, ih, if_pos rfl]
    | false => rw [List.filter_cons_of_neg (by rw [h]; exact Bool.false_ne_true), ih, if_neg Bool.false_ne_true, Nat.zero_add]
theorem sN_one {l : List α} : sN l (fun _ => 1) = l.length := by
  induction l with
  | nil => rfl
  | cons a l ih => rw [sN_cons, ih, List.length_cons, Nat.add_comm]
theorem od_sN {l : List α} {f : α → Nat} : od (sN l f) = sB l fun a => od (f a) := by
  induction l with
  | nil => rfl
  | cons a l ih => rw [sN_cons, od_add, ih, sB_cons]
def b1 (b : Bool) : Nat := if b = true then 1 else 0
theorem od_b1 (b : Bool) : od (b1 b) = b := by cases b <;> rfl
def cF (R : α → α → Bool) : Nat → α → List α → Nat
  | 0, _, S => b1 S.isEmpty
  | f + 1, x, S => b1 S.isEmpty + sN (picks S) fun p => if R x p.1 = true then cF R f p.1 p.2 else 0
/-- the rows of all of S behind x -/
def cN (R : α → α → Bool) (x : α) (S : List α) : Nat := cF R S.length x S
theorem cN_eq (R : α → α → Bool) (x : α) (S : List α) : cN R x S = b1 S.isEmpty + sN (picks S) fun p => if R x p.1 = true then cN R p.1 p.2 else 0 := by
  cases S with
  | nil => rfl
  | cons y S =>
    show b1 (y :: S).isEmpty + (sN (picks (y :: S)) fun p => if R x p.1 = true then cF R S.length p.1 p.2 else 0) = _
    refine congrArg (fun z => b1 (y :: S).isEmpty + z) (sN_congr fun p hp => ?_)
    have := picks_len hp
    rw [List.length_cons] at this
    unfold cN
    rw [show p.2.length = S.length by omega]
theorem od_cF (R : α → α → Bool) : ∀ (f : Nat) (x : α) (S : List α), od (cF R f x S) = aF R f x S
  | 0, _, S => od_b1 _
  | f + 1, x, S => by
    show od (b1 S.isEmpty + sN (picks S) fun p => if R x p.1 = true then cF R f p.1 p.2 else 0) = (S.isEmpty ^^ sB (picks S) fun p => R x p.1 && aF R f p.1 p.2)
    rw [od_add, od_b1, od_sN]
    refine congrArg (fun z => S.isEmpty ^^ z) (sB_congr fun p _ => ?_)
    rw [← od_cF R f p.1 p.2]
    cases R x p.1 <;> rfl
/-- the rows of all of S -/
def hN (R : α → α → Bool) (S : List α) : Nat := b1 S.isEmpty + sN (picks S) fun p => cN R p.1 p.2
theorem od_hN (R : α → α → Bool) (S : List α) : od (hN R S) = (S.isEmpty ^^ fB R S) := by
  unfold hN
  rw [od_add, od_b1, od_sN]
  refine congrArg (fun z => S.isEmpty ^^ z) (sB_congr fun p _ => ?_)
  exact od_cF R _ _ _
theorem fB_rev (R : α → α → Bool) : ∀ S : List α, fB (tR R) S = fB R S
  | [] => rfl
  | x :: S => by
    rw [dec_x, dec_x, subs_swap S fun B C => aB (tR R) x B && aB R x C]
    exact sB_congr fun q _ => Bool.and_comm _ _
theorem od_same (A : α → α → Bool) (S : List α) : od (hN (nR (tR A)) S) = od (hN A S) := by
  rw [od_hN, od_hN, ← fB_rev A S]
  exact berge (tR A) _ S (Nat.le_refl _)
theorem od_tour (A : α → α → Bool) {S : List α} (t : Tn A S) (h : S ≠ []) : od (hN (nR (tR A)) S) = true := by
  rw [od_same, od_hN, redei A _ S (Nat.le_refl _) t h, emp h]
  rfl
theorem picks_nd : ∀ {S : List Int}, S.Nodup → picks S = S.map fun y => (y, S.filter fun z => decide (z ≠ y))
  | [], _ => rfl
  | x :: S, nd => by
    have n := List.nodup_cons.mp nd
    show (x, S) :: (picks S).map (fun p => (p.1, x :: p.2)) = _
    rw [picks_nd n.2, List.map_cons, List.map_map]
    refine congr (congrArg List.cons (Prod.ext rfl ?_)) (List.map_congr_left fun y hy => Prod.ext rfl ?_)
    · show S = (x :: S).filter fun z => decide (z ≠ x)
      rw [List.filter_cons_of_neg (by simp)]
      exact (List.filter_eq_self.mpr fun z hz => decide_eq_true (show z ≠ x from fun e => n.1 (by rw [← e]; exact hz))).symm
    · show x :: S.filter (fun z => decide (z ≠ y)) = (x :: S).filter fun z => decide (z ≠ y)
      exact (List.filter_cons_of_pos (p := fun z => decide (z ≠ y)) (decide_eq_true (show x ≠ y from fun e => n.1 (by rw [e]; exact hy)))).symm
end
/-! ### the orders, step by step -/
def ordS (S : List Int) (rows : List (List Int)) : List (List Int) := rows.flatMap fun row => (S.filter fun x => !decide (x ∈ row)).map fun x => row ++ [x]
/-- a row keeps to R -/
def chB (R : Int → Int → Bool) : List Int → Bool
  | [] => true
  | x :: xs => match xs with
    | [] => true
    | y :: _ => R x y && chB R xs
def lft (S row : List Int) : List Int := S.filter fun x => !decide (x ∈ row)
def wgtR (R : Int → Int → Bool) (S : List Int) (row : List Int) : Nat := if chB R row = true then (match row.getLast? with | none => hN R (lft S row) | some x => cN R x (lft S row)) else 0
theorem chB_snoc {R : Int → Int → Bool} : ∀ {row : List Int} {x : Int}, chB R (row ++ [x]) = (chB R row && match row.getLast? with | none => true | some l => R l x)
  | [], x => rfl
  | [y], x => by show (R y x && true) = (true && R y x); rw [Bool.and_true, Bool.true_and]
  | y :: z :: row, x => by
    have ih := chB_snoc (R := R) (row := z :: row) (x := x)
    show (R y z && chB R (z :: row ++ [x])) = ((R y z && chB R (z :: row)) && _)
    rw [ih, Bool.and_assoc]
    rfl
theorem lft_snoc {S row : List Int} {x : Int} : lft S (row ++ [x]) = (lft S row).filter fun z => decide (z ≠ x) := by
  unfold lft
  rw [List.filter_filter]
  refine List.filter_congr fun z _ => ?_
  by_cases a : z ∈ row <;> by_cases b : z = x <;> simp [a, b]
theorem lft_ne {S row : List Int} (nd : S.Nodup) (hl : row.length < S.length) : lft S row ≠ [] := fun e => by
  have h : ∀ x ∈ S, x ∈ row := fun x hx => by
    have := List.filter_eq_nil_iff.mp (show S.filter (fun x => !decide (x ∈ row)) = [] from e) x hx
    simpa using this
  have := List.Nodup.length_le_of_subset nd h
  omega
theorem ord_one {R : Int → Int → Bool} {S row : List Int} (nd : S.Nodup) (hl : row.length < S.length) : sN ((lft S row).map fun x => row ++ [x]) (wgtR R S) = wgtR R S row := by
  have ndl : (lft S row).Nodup := nd.sublist List.filter_sublist
  have w : ∀ x, wgtR R S (row ++ [x]) = if (chB R row && match row.getLast? with | none => true | some l => R l x) = true then cN R x ((lft S row).filter fun z => decide (z ≠ x)) else 0 := fun x => by
    unfold wgtR
    rw [chB_snoc, List.getLast?_concat, lft_snoc]
  have ne := emp (lft_ne nd hl)
  rw [sN_map, sN_congr fun x _ => w x]
  unfold wgtR
  cases hc : chB R row with
  | false =>
    rw [if_neg Bool.false_ne_true]
    show sN (lft S row) (fun _ => 0) = 0
    generalize lft S row = l
    induction l with
    | nil => rfl
    | cons a l ih => rw [sN_cons, ih]
  | true =>
    rw [if_pos rfl]
    cases hg : row.getLast? with
    | none =>
      show sN (lft S row) (fun x => cN R x ((lft S row).filter fun z => decide (z ≠ x))) = hN R (lft S row)
      unfold hN
      rw [ne, picks_nd ndl, sN_map]
      exact (Nat.zero_add _).symm
    | some l =>
      show sN (lft S row) (fun x => if (true && R l x) = true then cN R x ((lft S row).filter fun z => decide (z ≠ x)) else 0) = cN R l (lft S row)
      rw [cN_eq, ne, picks_nd ndl, sN_map]
      refine Eq.trans (sN_congr fun x _ => ?_) (Nat.zero_add _).symm
      rw [Bool.true_and]
theorem ord_step {R : Int → Int → Bool} {S : List Int} {rows : List (List Int)} (nd : S.Nodup) (h : ∀ row ∈ rows, row.length < S.length) : sN (ordS S rows) (wgtR R S) = sN rows (wgtR R S) := by
  unfold ordS
  rw [sN_flat]
  exact sN_congr fun row hr => ord_one nd (h row hr)
def ords (S : List Int) : Nat → List (List Int)
  | 0 => [[]]
  | k + 1 => ordS S (ords S k)
theorem ords_mem {S : List Int} : ∀ {k : Nat} {row : List Int}, row ∈ ords S k → row.length = k ∧ row.Nodup ∧ ∀ x ∈ row, x ∈ S
  | 0, row, h => by
    rw [List.mem_singleton.mp (show row ∈ [[]] from h)]
    exact ⟨rfl, List.nodup_nil, fun _ z => nomatch z⟩
  | k + 1, row, h => by
    obtain ⟨r0, h1, h2⟩ := List.mem_flatMap.mp (show row ∈ (ords S k).flatMap _ from h)
    obtain ⟨x, h3, rfl⟩ := List.mem_map.mp h2
    obtain ⟨h4, h5⟩ := List.mem_filter.mp h3
    obtain ⟨i1, i2, i3⟩ := ords_mem h1
    have nx : x ∉ r0 := by simpa using h5
    refine ⟨by rw [List.length_append, List.length_singleton, i1], List.nodup_append.mpr ⟨i2, by simp, fun a ha b hb => by
      rw [List.mem_singleton.mp hb]
      exact fun e => nx (by rw [← e]; exact ha)⟩, fun y hy => ?_⟩
    rcases List.mem_append.mp hy with hy | hy
    · exact i3 y hy
    · rw [List.mem_singleton.mp hy]; exact h4
/-- as many orders keep to R as hN tells -/
theorem ords_count {R : Int → Int → Bool} {S : List Int} (nd : S.Nodup) : ((ords S S.length).filter (chB R)).length = hN R S := by
  have st : ∀ k, k ≤ S.length → sN (ords S k) (wgtR R S) = hN R S := fun k => by
    induction k with
    | zero =>
      intro _
      show wgtR R S [] + 0 = _
      have e : lft S [] = S := List.filter_eq_self.mpr fun _ _ => rfl
      show hN R (lft S []) + 0 = _
      rw [e, Nat.add_zero]
    | succ k ih =>
      intro hk
      exact (ord_step nd fun row hr => by rw [(ords_mem hr).1]; omega).trans (ih (by omega))
  rw [← st _ (Nat.le_refl _), ← sN_one, sN_filter]
  refine sN_congr fun row hr => ?_
  obtain ⟨h1, h2, h3⟩ := ords_mem hr
  have e : lft S row = [] := List.filter_eq_nil_iff.mpr fun x hx => by
    have : x ∈ row := Classical.byContradiction fun nx => by
      have := List.Nodup.length_le_of_subset (List.nodup_cons.mpr ⟨nx, h2⟩) (l₂ := S) fun y hy => by
        rcases List.mem_cons.mp hy with rfl | hy
        · exact hx
        · exact h3 y hy
      rw [List.length_cons] at this
      omega
    simp [this]
  unfold wgtR
  rw [e]
  cases chB R row with
  | false => rfl
  | true => cases row.getLast? <;> rfl
end My
namespace My
open PySem PySem.Spec PyProof.Rows L2 Tr
open Prod (fst snd)
/-! ### bits -/
theorem bits_all : ((List.range 512).all fun p => (List.range 9).all fun x => (decide (p &&& 2 ^ x = 0) == !(Nat.testBit p x)) && (!(Nat.testBit p x) || (decide (2 ^ x ≤ p) && (List.range 9).all fun y => Nat.testBit (p - 2 ^ x) y == (Nat.testBit p y && decide (y ≠ x))))) = true := by decide +kernel
theorem bit_fact {p x : Nat} (hp : p < 512) (hx : x < 9) : (p &&& 2 ^ x = 0 ↔ Nat.testBit p x = false) ∧ (Nat.testBit p x = true → 2 ^ x ≤ p ∧ ∀ y < 9, Nat.testBit (p - 2 ^ x) y = (Nat.testBit p y && decide (y ≠ x))) := by
  have h := List.all_eq_true.mp (List.all_eq_true.mp bits_all p (List.mem_range.mpr hp)) x (List.mem_range.mpr hx)
  rw [Bool.and_eq_true, Bool.or_eq_true, Bool.and_eq_true, decide_eq_true_eq, List.all_eq_true] at h
  obtain ⟨h1, h2⟩ := h
  constructor
  · have h1 := beq_iff_eq.mp h1
    constructor
    · intro e
      rw [decide_eq_true e] at h1
      cases hb : Nat.testBit p x with
      | false => rfl
      | true => rw [hb] at h1; cases h1
    · intro e
      rw [e] at h1
      exact of_decide_eq_true h1
  · intro e
    rcases h2 with h2 | h2
    · rw [e] at h2; cases h2
    · exact ⟨h2.1, fun y hy => beq_iff_eq.mp (h2.2 y (List.mem_range.mpr hy))⟩
theorem bit_some : ((List.range 10).all fun n => (List.range (2 ^ n)).all fun p => decide (p = 0) || (List.range n).any fun x => Nat.testBit p x) = true := by decide +kernel
/-- the items of a part -/
def its (n p : Nat) : List Int := (rangeL 0 n).filter fun x => Nat.testBit p x.toNat
theorem its_nd {n p : Nat} : (its n p).Nodup := by
  unfold its
  refine List.Nodup.sublist List.filter_sublist ?_
  unfold rangeL
  rw [List.nodup_iff_pairwise_ne, List.pairwise_map]
  exact List.nodup_range.imp fun h e => h (by omega)
theorem its_in {n p : Nat} {x : Int} (h : x ∈ its n p) : InR n x ∧ Nat.testBit p x.toNat = true := by
  obtain ⟨h1, h2⟩ := List.mem_filter.mp h
  have := rangeL_mem.mp h1
  exact ⟨⟨by omega, by omega⟩, h2⟩
theorem its_ne {n p : Nat} (hn : n < 10) (hp : p < 2 ^ n) (h0 : p ≠ 0) : its n p ≠ [] := fun e => by
  have h := List.all_eq_true.mp (List.all_eq_true.mp bit_some n (List.mem_range.mpr hn)) p (List.mem_range.mpr hp)
  rw [Bool.or_eq_true, decide_eq_true_eq, List.any_eq_true] at h
  rcases h with h | ⟨x, hx, hb⟩
  · exact h0 h
  · have := List.filter_eq_nil_iff.mp (show (rangeL 0 n).filter (fun x => Nat.testBit p x.toNat) = [] from e) (x : Int) (rangeL_mem.mpr ⟨by omega, by have := List.mem_range.mp hx; omega⟩)
    exact this (by rw [Int.toNat_natCast]; exact hb)
theorem its_sub {n p : Nat} {x : Int} (hn : n ≤ 9) (hp : p < 512) (h : x ∈ its n p) : its n (p - 2 ^ x.toNat) = (its n p).filter fun z => decide (z ≠ x) := by
  obtain ⟨i, hb⟩ := its_in h
  have i1 := i.1
  have i2 := i.2
  have f := (bit_fact hp (show x.toNat < 9 by omega)).2 hb
  unfold its
  rw [List.filter_filter]
  refine List.filter_congr fun z hz => ?_
  have m := rangeL_mem.mp hz
  rw [f.2 z.toNat (by omega), Bool.and_comm]
  refine congrArg (fun u => u && Nat.testBit p z.toNat) ?_
  rw [decide_eq_decide]
  omega
theorem its_full {n : Nat} (hn : n ≤ 9) : its n (2 ^ n - 1) = rangeL 0 n := List.filter_eq_self.mpr fun x hx => by
  have m := rangeL_mem.mp hx
  rw [Nat.testBit_two_pow_sub_one]
  exact decide_eq_true (by omega)
theorem its_zero {n : Nat} : its n 0 = [] := List.filter_eq_nil_iff.mpr fun x _ => by rw [Nat.zero_testBit]; exact Bool.false_ne_true
/-- what the table tells of part p: behind each item, and of all -/
def ent (R : Int → Int → Bool) (n p : Nat) (j : Nat) : Nat := if j < n then cN R (j : Int) (its n p) else hN R (its n p)
def nxt (R : Int → Int → Bool) (n j : Nat) : List Int := (rangeL 0 n).filter fun y => decide (n ≤ j) || R (j : Int) y
theorem ent_rec {R : Int → Int → Bool} {n p j : Nat} (hn : n ≤ 9) (hp : p < 2 ^ n) (h0 : p ≠ 0) : sN ((nxt R n j).filter fun y => Nat.testBit p y.toNat) (fun y => ent R n (p - 2 ^ y.toNat) y.toNat) = ent R n p j := by
  have p5 : p < 512 := Nat.lt_of_lt_of_le hp (Nat.le_trans (Nat.pow_le_pow_right (by decide) hn) (by decide))
  have ne := emp (its_ne (by omega) hp h0)
  have e : ((nxt R n j).filter fun y => Nat.testBit p y.toNat) = (its n p).filter fun y => decide (n ≤ j) || R (j : Int) y := by
    unfold nxt its
    rw [List.filter_filter, List.filter_filter]
    exact List.filter_congr fun y _ => Bool.and_comm _ _
  have g : ∀ y ∈ its n p, ent R n (p - 2 ^ y.toNat) y.toNat = cN R y ((its n p).filter fun z => decide (z ≠ y)) := fun y hy => by
    have i := (its_in hy).1
    have i1 := i.1
    have i2 := i.2
    unfold ent
    rw [if_pos (by omega), its_sub hn p5 hy, Int.toNat_of_nonneg i1]
  rw [e, sN_filter]
  by_cases c : j < n
  · have ej : ent R n p j = cN R (j : Int) (its n p) := if_pos c
    rw [ej, cN_eq, ne, picks_nd its_nd, sN_map]
    refine Eq.trans (sN_congr fun y hy => ?_) (Nat.zero_add _).symm
    rw [decide_eq_false (show ¬(n ≤ j) by omega), Bool.false_or, g y hy]
  · have ej : ent R n p j = b1 (its n p).isEmpty + sN (picks (its n p)) fun p => cN R p.1 p.2 := if_neg c
    rw [ej, ne, picks_nd its_nd, sN_map]
    refine Eq.trans (sN_congr fun y hy => ?_) (Nat.zero_add _).symm
    rw [decide_eq_true (show n ≤ j by omega), Bool.true_or, if_pos rfl, g y hy]
end My
namespace My
open PySem PySem.Spec PyProof.Rows L2 Tr
open Prod (fst snd)
/-! ### the table of the program -/
theorem cmpOGo_fc {α β : Type} {cond : α → Option Bool} {elt : α → Option β} {c : α → Bool} {g : α → β} : ∀ (xs : List α), (∀ a ∈ xs, cond a = some (c a) ∧ (c a = true → elt a = some (g a))) → cmpOGo cond elt xs = some ((xs.filter c).map g)
  | [], _ => rfl
  | a :: as, h => by
    have h1 := h a (List.mem_cons_self ..)
    have ih := cmpOGo_fc as fun x hx => h x (List.mem_cons_of_mem _ hx)
    unfold cmpOGo
    rw [h1.1, Option.bind_some]
    cases hc : c a with
    | true =>
      rw [if_pos rfl, h1.2 hc, Option.bind_some, ih, List.filter_cons_of_pos hc]
      rfl
    | false => rw [if_neg Bool.false_ne_true, ih, List.filter_cons_of_neg (by rw [hc]; exact Bool.false_ne_true)]
theorem cmpO_fc {α β : Type} {cond : α → Option Bool} {elt : α → Option β} {c : α → Bool} {g : α → β} {xs : List α} (hl : xs.length ≤ 1000000) (h : ∀ a ∈ xs, cond a = some (c a) ∧ (c a = true → elt a = some (g a))) : cmpO cond elt xs = some ((xs.filter c).map g) := by
  unfold cmpO
  rw [if_pos (le_line hl), cmpOGo_fc xs h]
theorem sum_cast {l : List Int} {f : Int → Nat} : (l.map fun y => ((f y : Nat) : Int)).sum = ((sN l f : Nat) : Int) := by
  induction l with
  | nil => rfl
  | cons a l ih =>
    rw [List.map_cons, List.sum_cons, ih, sN_cons]
    omega
def rS (r : List (List Int)) : Int → Int → Bool := fun x y => decide (y ≠ x) && !decide (ansN r x y = 1)
def rowE (R : Int → Int → Bool) (n p : Nat) : List Int := (List.range (n + 1)).map fun j => ((ent R n p j : Nat) : Int)
section
variable {r : List (List Int)} {n : Nat}
theorem bit_of_ok {x : Int} (h0 : 0 ≤ x) (h : x < 20) : t_bit_of x = some ((2 ^ x.toNat : Nat) : Int) := by
  unfold t_bit_of
  have e : shlI 1 x = some ((1 : Int) * 2 ^ x.toNat) := if_pos ⟨h0, by omega, by decide⟩
  rw [e, Option.map_some, Int.one_mul]
  congr 1
theorem is_in_ok {p : Nat} {x : Int} (hp : p < 512) (h0 : 0 ≤ x) (h : x < 9) : t_is_in x (p : Int) = some (Nat.testBit p x.toNat) := by
  unfold t_is_in
  rw [bit_of_ok h0 (by omega), Option.map_some]
  have e : Builtin.bitAnd (p : Int) ((2 ^ x.toNat : Nat) : Int) = ((p &&& 2 ^ x.toNat : Nat) : Int) := by
    unfold Builtin.bitAnd
    rw [decide_eq_true (Int.natCast_nonneg p), decide_eq_true (Int.natCast_nonneg (2 ^ x.toNat))]
    show (((p : Int).toNat &&& ((2 ^ x.toNat : Nat) : Int).toNat : Nat) : Int) = _
    rw [Int.toNat_natCast, Int.toNat_natCast]
  rw [e]
  have f := (bit_fact hp (show x.toNat < 9 by omega)).1
  refine congrArg some ?_
  cases hb : Nat.testBit p x.toNat with
  | false => rw [f.mpr hb]; rfl
  | true =>
    rw [decide_eq_false (fun z => ?_)]
    · rfl
    · have := f.mp (by omega)
      rw [hb] at this
      cases this
theorem steps_ok (h : Rl r n) (hn : n ≤ 9) : t_step_table r = some ((List.range (n + 1)).map (nxt (rS r) n)) := by
  unfold t_step_table
  have e : rgN (0 : Int) ((r.length : Nat) : Int) = some (rangeL 0 n) := by
    unfold rgN
    rw [h.len, if_pos ⟨by decide, by decide, by omega, by omega⟩]
    simp
  have e2 : rngV (0 : Int) ((r.length : Nat) : Int) = some (rangeL 0 n) := by rw [h.len]; exact rngV_of (by omega)
  rw [e, Option.bind_some, e2]
  rw [cmpO_map (f := fun a => (rangeL 0 n).filter fun y => rS r a y) (by rw [rangeL_len]; omega) fun a ha => ?_, Option.map_some, Option.bind_some, Option.bind_some]
  · rw [Option.bind_some, catG_of (le_line (by rw [List.length_map, rangeL_len, List.length_singleton]; omega)), Option.map_some, Option.map_some]
    refine congrArg some ?_
    show (rangeL 0 n).map _ ++ [rangeL 0 n] = _
    rw [List.range_succ, List.map_append]
    refine congr (congrArg List.append ?_) ?_
    · rw [rangeL0, List.map_map]
      refine List.map_congr_left fun j hj => ?_
      have := List.mem_range.mp hj
      unfold nxt
      rw [rangeL0]
      refine List.filter_congr fun y _ => ?_
      rw [decide_eq_false (show ¬(n ≤ j) by omega), Bool.false_or]
    · show [rangeL 0 n] = [nxt (rS r) n n]
      unfold nxt
      rw [List.filter_eq_self.mpr fun y _ => by rw [decide_eq_true (Nat.le_refl n)]; rfl]
  · have m := rangeL_mem.mp ha
    rw [Option.bind_some, cmpO_fc (c := fun y => rS r a y) (g := fun y => y) (by rw [rangeL_len]; omega) fun y hy => ⟨?_, fun _ => rfl⟩]
    · rw [Option.map_some, Option.map_some, List.map_id']
    · have my := rangeL_mem.mp hy
      have an := ans_at h.toSq (x := a) (y := y) ⟨by omega, by omega⟩ ⟨by omega, by omega⟩
      unfold rS
      by_cases c : y = a
      · rw [if_neg (by rw [decide_eq_true c]; exact Bool.false_ne_true), decide_eq_false (fun z => z c)]
        rfl
      · rw [if_pos (by rw [decide_eq_false c]; rfl), decide_eq_true c]
        unfold t_may_precede
        rw [an]
        rfl
theorem rowE_at {R : Int → Int → Bool} {n q k : Nat} (h : k < n + 1) : atI (rowE R n q) (k : Int) = some ((ent R n q k : Nat) : Int) := by
  refine atI_get ?_
  unfold rowE
  rw [List.getElem?_map, List.getElem?_range h]
  rfl
theorem ways_on_ok {R : Int → Int → Bool} {p : Nat} (hn : n ≤ 9) (hp : p < 2 ^ n) (h0 : p ≠ 0) : t_ways_on ((List.range (n + 1)).map (nxt R n)) ((List.range p).map (rowE R n)) (p : Int) = some (rowE R n p, (List.range p).map (rowE R n)) := by
  have p5 : p < 512 := Nat.lt_of_lt_of_le hp (Nat.le_trans (Nat.pow_le_pow_right (by decide) hn) (by decide))
  unfold t_ways_on
  rw [cmpO_map (f := fun nx => ((sN (nx.filter fun y => Nat.testBit p y.toNat) (fun y => ent R n (p - 2 ^ y.toNat) y.toNat) : Nat) : Int)) (by rw [List.length_map, List.length_range]; omega) fun nx hx => ?_, Option.map_some]
  · refine congrArg (fun z => some (z, (List.range p).map (rowE R n))) ?_
    rw [List.map_map]
    unfold rowE
    refine List.map_congr_left fun j hj => ?_
    show ((sN ((nxt R n j).filter fun y => Nat.testBit p y.toNat) _ : Nat) : Int) = _
    rw [ent_rec hn hp h0]
  · obtain ⟨j, hj, rfl⟩ := List.mem_map.mp hx
    have inr : ∀ y ∈ nxt R n j, 0 ≤ y ∧ y < n := fun y hy => by
      have m := rangeL_mem.mp (List.mem_filter.mp hy).1
      omega
    have ll : (nxt R n j).length ≤ 9 := Nat.le_trans (List.length_filter_le ..) (by rw [rangeL_len]; exact hn)
    rw [cmpO_fc (c := fun y => Nat.testBit p y.toNat) (g := fun y => ((ent R n (p - 2 ^ y.toNat) y.toNat : Nat) : Int)) (by omega) fun y hy => ⟨?_, fun hb => ?_⟩, Option.map_some, sum_cast]
    · obtain ⟨y0, y1⟩ := inr y hy
      rw [is_in_ok p5 y0 (by omega)]
      rfl
    · obtain ⟨y0, y1⟩ := inr y hy
      have hb : Nat.testBit p y.toNat = true := hb
      have f := (bit_fact p5 (show y.toNat < 9 by omega)).2 hb
      have pos : 0 < 2 ^ y.toNat := Nat.two_pow_pos _
      rw [bit_of_ok y0 (by omega), Option.bind_some]
      have e1 : (p : Int) - ((2 ^ y.toNat : Nat) : Int) = ((p - 2 ^ y.toNat : Nat) : Int) := by omega
      have a1 : atI ((List.range p).map (rowE R n)) ((p : Int) - ((2 ^ y.toNat : Nat) : Int)) = some (rowE R n (p - 2 ^ y.toNat)) := by
        rw [e1]
        refine atI_get ?_
        rw [List.getElem?_map, List.getElem?_range (by omega)]
        rfl
      have a2 := rowE_at (R := R) (n := n) (q := p - 2 ^ y.toNat) (k := y.toNat) (by omega)
      rw [Int.toNat_of_nonneg y0] at a2
      show Option.map _ (Option.bind (Option.map _ (atI ((List.range p).map (rowE R n)) ((p : Int) - ((2 ^ y.toNat : Nat) : Int)))) _) = _
      rw [a1, Option.map_some, Option.bind_some]
      show Option.map _ (Option.map _ (atI (rowE R n (p - 2 ^ y.toNat)) y)) = _
      rw [a2]
      rfl
theorem rep_one : ((List.range 11).all fun k => decide (repG [(1 : Int)] ((k : Nat) : Int) = some ((List.range k).map fun _ => (1 : Int)))) = true := by decide +kernel
theorem ways_ok {R : Int → Int → Bool} (hn : n ≤ 9) : t_ways_table ((List.range (n + 1)).map (nxt R n)) = some ((List.range (2 ^ n)).map (rowE R n)) := by
  have pp : 2 ^ n ≤ 512 := Nat.le_trans (Nat.pow_le_pow_right (by decide) hn) (by decide)
  have pos : 0 < 2 ^ n := Nat.two_pow_pos _
  unfold t_ways_table
  rw [Option.bind_some, List.length_map, List.length_range]
  have e1 : repG [(1 : Int)] (((n + 1 : Nat)) : Int) = some (rowE R n 0) := by
    have h := of_decide_eq_true (List.all_eq_true.mp rep_one (n + 1) (List.mem_range.mpr (by omega)))
    rw [h]
    refine congrArg some (List.map_congr_left fun j _ => ?_)
    unfold ent
    rw [its_zero]
    by_cases c : j < n
    · rw [if_pos c]; rfl
    · rw [if_neg c]; rfl
  rw [e1, Option.bind_some, Option.bind_some]
  have e2 : ((n + 1 : Nat) : Int) - (1 : Int) = (n : Int) := by omega
  rw [e2, bit_of_ok (by omega) (by omega), Int.toNat_natCast, Option.bind_some]
  have e3 : rng2 (1 : Int) ((2 ^ n : Nat) : Int) = some (rangeL 1 (2 ^ n - 1)) := by
    unfold rng2
    rw [if_pos ⟨by decide, by decide, by omega, by omega⟩, show (((2 ^ n : Nat) : Int) - 1).toNat = 2 ^ n - 1 by omega]
  rw [e3, Option.map_some, Option.bind_some]
  obtain ⟨t, h1, h2⟩ := forN_inv (body := fun (a133_ : Int) (s144_ : (List (List Int))) => ((t_ways_on ((List.range (n + 1)).map (nxt R n)) s144_ a133_).bind fun b147_ => (appG (snd b147_) (fst b147_)).map fun b148_ => (b147_, b148_)).bind fun q149_ => (some (snd q149_)).bind fun (table_150_ : (List (List Int))) => some table_150_)
    (fun k s => s = (List.range (k + 1)).map (rowE R n)) (rangeL 1 (2 ^ n - 1)) 0 [rowE R n 0] rfl fun j x s hx hj hs => by
      have m := rangeL_mem.mp hx
      have xe : x = ((j + 1 : Nat) : Int) := by
        unfold rangeL at hj
        rw [List.getElem?_map] at hj
        obtain ⟨i, hi, e⟩ := Option.map_eq_some_iff.mp hj
        obtain ⟨hl, hi2⟩ := List.getElem?_eq_some_iff.mp hi
        rw [List.getElem_range] at hi2
        omega
      rw [Nat.zero_add] at hs
      refine ⟨(List.range (j + 1 + 1)).map (rowE R n), ?_, by rw [Nat.zero_add]⟩
      rw [hs, xe, ways_on_ok hn (by omega) (by omega), Option.bind_some]
      show Option.bind (Option.map _ (appG ((List.range (j + 1)).map (rowE R n)) (rowE R n (j + 1)))) _ = _
      rw [appG_of (lt_line (by rw [List.length_map, List.length_range]; omega)), Option.map_some, Option.bind_some, Option.bind_some, List.range_succ (n := j + 1), List.map_append]
      rfl
  rw [Nat.zero_add, rangeL_len] at h2
  refine (congrArg (fun z => Option.bind z _) h1).trans ?_
  rw [Option.bind_some, h2, show 2 ^ n - 1 + 1 = 2 ^ n by omega]
/-- the program counts the rows -/
theorem count_ok (h : Rl r n) (hn : n ≤ 9) : t_count_paths r = some ((hN (rS r) (rangeL 0 n) : Nat) : Int) := by
  have pos : 0 < 2 ^ n := Nat.two_pow_pos _
  unfold t_count_paths
  rw [check_rule_ok h (by omega), Option.bind_some, steps_ok h hn, Option.bind_some, ways_ok hn, Option.map_some, Option.bind_some, Option.bind_some]
  have a1 : atI ((List.range (2 ^ n)).map (rowE (rS r) n)) (-(1 : Int)) = some (rowE (rS r) n (2 ^ n - 1)) := by
    rw [show 2 ^ n = (2 ^ n - 1) + 1 by omega, List.range_succ, List.map_append]
    exact atI_last
  have a2 : atI (rowE (rS r) n (2 ^ n - 1)) (-(1 : Int)) = some ((ent (rS r) n (2 ^ n - 1) n : Nat) : Int) := by
    unfold rowE
    rw [List.range_succ, List.map_append]
    exact atI_last
  rw [a1, Option.bind_some, a2]
  unfold ent
  rw [if_neg (Nat.lt_irrefl n), its_full hn]
  rfl
end
end My
namespace My
open PySem PySem.Spec PyProof.Rows L2 Tr
open Prod (fst snd)
theorem cN_agr {R R' : Int → Int → Bool} {T : List Int} (ag : ∀ x ∈ T, ∀ y ∈ T, x ≠ y → R x y = R' x y) : ∀ (k : Nat) (S : List Int) (x : Int), S.length ≤ k → (x :: S).Nodup → (∀ z ∈ x :: S, z ∈ T) → cN R x S = cN R' x S
  | _, [], _, _, _, _ => rfl
  | k + 1, z :: S, x, hk, nd, hT => by
    rw [List.length_cons] at hk
    rw [cN_eq, cN_eq R']
    refine congrArg _ (sN_congr fun p hp => ?_)
    have l := picks_len hp
    rw [List.length_cons] at l
    have pp := picks_perm hp
    have n2 : (x :: p.1 :: p.2).Nodup := (pp.cons x).nodup_iff.mpr nd
    have hT2 : ∀ u ∈ p.1 :: p.2, u ∈ T := fun u hu => hT u (List.mem_cons_of_mem _ (pp.mem_iff.mp hu))
    rw [cN_agr ag k p.2 p.1 (by omega) (List.nodup_cons.mp n2).2 hT2, ag x (hT x (List.mem_cons_self ..)) p.1 (hT2 _ (List.mem_cons_self ..)) fun e => (List.nodup_cons.mp n2).1 (by rw [e]; exact List.mem_cons_self ..)]
theorem hN_agr {R R' : Int → Int → Bool} {S : List Int} (ag : ∀ x ∈ S, ∀ y ∈ S, x ≠ y → R x y = R' x y) (nd : S.Nodup) : hN R S = hN R' S := by
  unfold hN
  refine congrArg _ (sN_congr fun p hp => cN_agr ag _ p.2 p.1 (Nat.le_refl _) ((picks_perm hp).nodup_iff.mpr nd) fun z hz => (picks_perm hp).mem_iff.mp hz)
theorem itm_nd {n : Nat} : (rangeL 0 n).Nodup := by
  unfold rangeL
  rw [List.nodup_iff_pairwise_ne, List.pairwise_map]
  exact List.nodup_range.imp fun h e => h (by omega)
theorem itm_in {n : Nat} {x : Int} (h : x ∈ rangeL 0 n) : InR n x := by
  have := rangeL_mem.mp h
  exact ⟨by omega, by omega⟩
theorem chB_zip {R : Int → Int → Bool} : ∀ row : List Int, chB R row = (row.zip (row.drop 1)).all fun p => R p.1 p.2
  | [] => rfl
  | [x] => rfl
  | x :: y :: l => by
    have ih := chB_zip (R := R) (y :: l)
    show (R x y && chB R (y :: l)) = (R x y && ((y :: l).zip l).all _)
    rw [ih]
    rfl
section
variable {r : List (List Int)} {n : Nat}
abbrev bA (r : List (List Int)) : Int → Int → Bool := fun x y => bef r x y
theorem zip_in {row : List Int} (hr : ∀ x ∈ row, InR n x) {p : Int × Int} (h : p ∈ row.zip (row.drop 1)) : InR n p.1 ∧ InR n p.2 := by
  have m := List.of_mem_zip h
  exact ⟨hr _ m.1, hr _ (List.mem_of_mem_drop m.2)⟩
theorem nil_all {c : Int × Int → Bool} {l : List (Int × Int)} : decide ((l.filter c).map (fun p => p.1) = []) = l.all fun p => !c p := by
  rw [Bool.eq_iff_iff, decide_eq_true_eq, List.map_eq_nil_iff, List.filter_eq_nil_iff, List.all_eq_true]
  refine forall_congr' fun p => forall_congr' fun _ => ?_
  cases c p <;> simp
theorem path_val (h : Rl r n) {row : List Int} (hl : row.length ≤ 100) (hr : ∀ x ∈ row, InR n x) : t__law_path r row = some (chB (nR (tR (bA r))) row) := by
  unfold t__law_path
  rw [show cutG row (some (1 : Int)) none = row.drop 1 from cut_from (k := 1), cmpO_fm (c := fun p => bef r p.2 p.1) (g := fun p => p.1) (by rw [List.length_zip]; omega) (fun p hp => by
    refine ⟨?_, rfl⟩
    rw [ans_at h.toSq (zip_in hr hp).2 (zip_in hr hp).1]
    rfl), Option.map_some, chB_zip]
  exact congrArg some nil_all
theorem strict_val (h : Rl r n) {row : List Int} (hl : row.length ≤ 100) (hr : ∀ x ∈ row, InR n x) : t__law_strict r row = some (chB (bA r) row) := by
  unfold t__law_strict
  rw [show cutG row (some (1 : Int)) none = row.drop 1 from cut_from (k := 1), cmpO_fm (c := fun p => !bef r p.1 p.2) (g := fun p => p.1) (by rw [List.length_zip]; omega) (fun p hp => by
    refine ⟨?_, rfl⟩
    rw [ans_at h.toSq (zip_in hr hp).1 (zip_in hr hp).2]
    rfl), Option.map_some, chB_zip]
  refine congrArg some (nil_all.trans ?_)
  congr 1
  funext p
  exact Bool.not_not _
theorem ords_len {S : List Int} : ∀ k, (ords S k).length ≤ S.length ^ k
  | 0 => Nat.le_refl _
  | k + 1 => by
    have ih := ords_len (S := S) k
    show ((ords S k).flatMap _).length ≤ _
    rw [List.length_flatMap, Nat.pow_succ]
    refine Nat.le_trans ?_ (Nat.mul_le_mul_right _ ih)
    generalize ords S k = l
    induction l with
    | nil => exact Nat.zero_le _
    | cons a l ih2 =>
      rw [List.map_cons, List.sum_cons, List.length_cons, Nat.add_mul, Nat.one_mul, Nat.add_comm]
      exact Nat.add_le_add ih2 (by rw [List.length_map]; exact List.length_filter_le ..)
theorem orders_ok (hn : n ≤ 6) : t__law_orders (rangeL 0 n) = some (ords (rangeL 0 n) n) := by
  have bound : ∀ k, k ≤ n → (ords (rangeL 0 n) k).length ≤ 46656 := fun k hk => by
    refine Nat.le_trans (ords_len k) ?_
    rw [rangeL_len]
    refine Nat.le_trans (Nat.pow_le_pow_left hn k) (Nat.le_trans (Nat.pow_le_pow_right (by decide) (Nat.le_trans hk hn)) (by decide))
  unfold t__law_orders
  rw [Option.bind_some, rangeL_len, rng1_of (by omega), Option.bind_some]
  obtain ⟨t, h1, h2⟩ := forN_inv (body := fun (a1661_ : Int) (s1680_ : (List (List Int))) => ((cmpO (fun _ => some true) (fun a1683_ => (cmpO (fun a1684_ => some (!(decide (a1684_ ∈ a1683_)))) (fun a1684_ => (catG a1683_ [a1684_]).map fun b1685_ => b1685_) (rangeL 0 n)).map fun b1686_ => b1686_) s1680_).bind fun b1687_ => (sumG b1687_).map fun b1688_ => (b1687_, b1688_)).bind fun q1689_ => (some (snd q1689_)).bind fun (told_1690_ : (List (List Int))) => some told_1690_)
    (fun k s => k ≤ n → s = ords (rangeL 0 n) k) (rangeL 0 n) 0 [[]] (fun _ => rfl) fun j x s hx hj hs => by
      have m : j < n := by
        have := (List.getElem?_eq_some_iff.mp hj).1
        rw [rangeL_len] at this
        exact this
      rw [Nat.zero_add] at hs
      have hs := hs (by omega)
      refine ⟨ords (rangeL 0 n) (j + 1), ?_, fun _ => by rw [Nat.zero_add]⟩
      have b0 := bound j (by omega)
      have b1 := bound (j + 1) (by omega)
      rw [hs, cmpO_map (f := fun row => ((rangeL 0 n).filter fun x => !decide (x ∈ row)).map fun x => row ++ [x]) (by omega) fun row hr => ?_, Option.bind_some]
      · have fl : ((ords (rangeL 0 n) j).map fun row => ((rangeL 0 n).filter fun x => !decide (x ∈ row)).map fun x => row ++ [x]).flatten = ords (rangeL 0 n) (j + 1) := rfl
        unfold sumG
        rw [fl, if_pos (le_line (by omega))]
        rfl
      · have hm := ords_mem hr
        rw [cmpO_fm (c := fun x => !decide (x ∈ row)) (g := fun x => row ++ [x]) (by rw [rangeL_len]; omega) fun x _ => ⟨rfl, by
          rw [catG_of (le_line (by rw [hm.1, List.length_singleton]; omega))]
          rfl⟩]
        rfl
  rw [Nat.zero_add, rangeL_len] at h2
  refine (congrArg (fun z => Option.bind z _) h1).trans ?_
  rw [Option.bind_some, h2 (Nat.le_refl n)]
theorem rS_agr (h : Rl r n) : ∀ x ∈ rangeL 0 n, ∀ y ∈ rangeL 0 n, x ≠ y → rS r x y = nR (tR (bA r)) x y := fun x hx y hy ne => by
  have sk := h.skew x y (itm_in hx) (itm_in hy)
  show (decide (y ≠ x) && !decide (ansN r x y = 1)) = !decide (ansN r y x = -1)
  rw [decide_eq_true (show y ≠ x from fun e => ne e.symm), Bool.true_and]
  refine congrArg not ?_
  rw [decide_eq_decide]
  omega
theorem tour (h : Rl r n) (nt : ∀ row ∈ r, List.count (0 : Int) row ≤ 1) : Tn (bA r) (rangeL 0 n) := ⟨itm_nd, fun x hx y hy ne => by
  have ix := itm_in hx
  have iy := itm_in hy
  have sk := h.skew x y ix iy
  have sx := h.skew x x ix ix
  have nz : ansN r x y ≠ 0 := fun z => by
    have x0 : ansN r x x = 0 := by omega
    have lx : x.toNat < r.length := by have a := ix.1; have b := ix.2; rw [h.len]; omega
    have hrow : r.getD x.toNat [] ∈ r := by
      rw [List.getD_eq_getElem?_getD, List.getElem?_eq_getElem lx]
      exact List.getElem_mem lx
    have c := nt _ hrow
    have ll := h.row _ hrow
    have gx : (r.getD x.toNat [])[x.toNat]? = some 0 := by
      have a := ix.1
      have b := ix.2
      rw [List.getElem?_eq_getElem (by omega)]
      have : (r.getD x.toNat []).getD x.toNat 0 = 0 := x0
      rw [List.getD_eq_getElem?_getD, List.getElem?_eq_getElem (by omega)] at this
      exact congrArg some this
    have gy : (r.getD x.toNat [])[y.toNat]? = some 0 := by
      have a := iy.1
      have b := iy.2
      rw [List.getElem?_eq_getElem (by omega)]
      have : (r.getD x.toNat []).getD y.toNat 0 = 0 := z
      rw [List.getD_eq_getElem?_getD, List.getElem?_eq_getElem (by omega)] at this
      exact congrArg some this
    have two : ∀ {i j : Nat}, i < j → (r.getD x.toNat [])[i]? = some 0 → (r.getD x.toNat [])[j]? = some 0 → 2 ≤ List.count (0 : Int) (r.getD x.toNat []) := fun {i j} hij a b => by
      have ah : Ah (r.getD x.toNat []) 0 0 := ah_ix.mpr ⟨i, a, by
        refine List.mem_of_getElem? (i := j - (i + 1)) ?_
        rw [List.getElem?_drop, show i + 1 + (j - (i + 1)) = j by omega]
        exact b⟩
      have s : List.count (0 : Int) [0, 0] ≤ List.count (0 : Int) (r.getD x.toNat []) := List.Sublist.count_le 0 ah
      exact s
    have a1 := ix.1
    have a2 := iy.1
    rcases Nat.lt_or_ge x.toNat y.toNat with q | q
    · have := two q gx gy; omega
    · have := two (show y.toNat < x.toNat by omega) gy gx; omega
  have v : -1 ≤ ansN r x y ∧ ansN r x y ≤ 1 := by
    have lx : x.toNat < r.length := by have a := ix.1; have b := ix.2; rw [h.len]; omega
    have hrow : r.getD x.toNat [] ∈ r := by
      rw [List.getD_eq_getElem?_getD, List.getElem?_eq_getElem lx]
      exact List.getElem_mem lx
    have ll := h.row _ hrow
    refine h.val _ hrow _ ?_
    unfold ansN
    have b := iy.2
    have a := iy.1
    clear hrow
    generalize r.getD x.toNat [] = row at ll ⊢
    rw [List.getD_eq_getElem?_getD, List.getElem?_eq_getElem (by omega)]
    exact List.getElem_mem _
  show decide (ansN r y x = -1) = !decide (ansN r x y = -1)
  by_cases e : ansN r x y = -1
  · rw [decide_eq_true e, decide_eq_false (by omega)]
    rfl
  · rw [decide_eq_false e, decide_eq_true (by omega)]
    rfl⟩
end
end My
namespace My
open PySem PySem.Spec PyProof.Rows L2 Tr
open Prod (fst snd)
theorem fmod2 (a : Int) : a.fmod 2 = a % 2 := Int.fmod_eq_emod_of_nonneg a (by decide)
theorem law_right_ok {c : Int} {d : Dr} (h : DrOk c d) (hc : c ≤ 10000) (hc0 : 0 ≤ c) : ∃ d', t__law_right d = some (true, d') ∧ DrOk (c + 3000) d' := by
  obtain ⟨v, d1, e1, v0, hd1⟩ := next_ok h (by omega)
  have f := fmod_in v (show (0 : Int) < 7 by decide)
  obtain ⟨n, hn⟩ : ∃ n : Nat, v.fmod 7 = (n : Int) := ⟨_, (Int.toNat_of_nonneg f.1).symm⟩
  rw [hn] at f
  obtain ⟨⟨r, d2⟩, e2, rl, hd2⟩ := law_rule_ok (n := n) hd1 (by omega) (by omega) (by omega)
  have rl : Rl r n := rl
  have hd2 : DrOk (c + 1 + 1000) d2 := hd2
  obtain ⟨w, d3, e3, w0, hd3⟩ := next_ok hd2 (by omega)
  have g := fmod_in w (show (0 : Int) < 3 by decide)
  obtain ⟨m, hm⟩ : ∃ m : Nat, (7 : Int) + w.fmod 3 = (m : Int) := ⟨((7 : Int) + w.fmod 3).toNat, (Int.toNat_of_nonneg (by omega)).symm⟩
  have m9 : m ≤ 9 := by omega
  have m7 : 7 ≤ m := by omega
  obtain ⟨⟨r2, d4⟩, e4, rl2, hd4⟩ := law_rule_ok (n := m) hd3 (by omega) (by omega) (by omega)
  have rl2 : Rl r2 m := rl2
  have hd4 : DrOk (c + 1 + 1000 + 1 + 1000) d4 := hd4
  have n6 : n ≤ 6 := by omega
  have eo : rngV 0 ((r.length : Nat) : Int) = some (rangeL 0 n) := by rw [rl.len]; exact rngV_of (by omega)
  have eo2 := orders_ok (n := n) n6
  have mem : ∀ row ∈ ords (rangeL 0 n) n, row.length ≤ 100 ∧ ∀ x ∈ row, InR n x := fun row hr => by
    have q := ords_mem hr
    exact ⟨by rw [q.1]; omega, fun x hx => itm_in (q.2.2 x hx)⟩
  have big : (ords (rangeL 0 n) n).length ≤ 1000000 := by
    have := ords_len (S := rangeL 0 n) n
    rw [rangeL_len] at this
    exact Nat.le_trans this (Nat.le_trans (Nat.pow_le_pow_left n6 n) (Nat.le_trans (Nat.pow_le_pow_right (by decide) n6) (by decide)))
  have ep : cmpO (fun a => (t__law_path r a).map fun b => b) (fun a => some a) (ords (rangeL 0 n) n) = some (((ords (rangeL 0 n) n).filter (chB (nR (tR (bA r))))).map fun a => a) := cmpO_fm big fun row hr => by
    refine ⟨?_, rfl⟩
    rw [path_val rl (mem row hr).1 (mem row hr).2]
    rfl
  have es : cmpO (fun a => (t__law_strict r a).map fun b => b) (fun a => some a) (ords (rangeL 0 n) n) = some (((ords (rangeL 0 n) n).filter (chB (bA r))).map fun a => a) := cmpO_fm big fun row hr => by
    refine ⟨?_, rfl⟩
    rw [strict_val rl (mem row hr).1 (mem row hr).2]
    rfl
  have lp : (((ords (rangeL 0 n) n).filter (chB (nR (tR (bA r))))).map fun a => a).length = hN (nR (tR (bA r))) (rangeL 0 n) := by
    rw [List.length_map]
    have := ords_count (R := nR (tR (bA r))) (S := rangeL 0 n) itm_nd
    rw [rangeL_len] at this
    exact this
  have ls : (((ords (rangeL 0 n) n).filter (chB (bA r))).map fun a => a).length = hN (bA r) (rangeL 0 n) := by
    rw [List.length_map]
    have := ords_count (R := bA r) (S := rangeL 0 n) itm_nd
    rw [rangeL_len] at this
    exact this
  have ec := count_ok rl (by omega)
  rw [hN_agr (rS_agr rl) itm_nd] at ec
  have par : ((hN (nR (tR (bA r))) (rangeL 0 n) : Int) - (hN (bA r) (rangeL 0 n) : Int)).fmod 2 = 0 := by
    have := od_same (bA r) (rangeL 0 n)
    unfold od at this
    rw [decide_eq_decide] at this
    rw [fmod2]
    omega
  have ec2 := count_ok rl2 m9
  rw [hN_agr (rS_agr rl2) itm_nd] at ec2
  obtain ⟨ties, et, hties⟩ : ∃ ties : List (List Int), cmpO (fun a1741_ => (some ((List.count (0 : Int) a1741_ : Nat) : Int)).map fun b1742_ => (decide ((1 : Int) < b1742_))) (fun a1741_ => some a1741_) r2 = some ties ∧ (ties = [] → ∀ row ∈ r2, List.count (0 : Int) row ≤ 1) := by
    refine ⟨(r2.filter fun a => decide ((1 : Int) < ((List.count (0 : Int) a : Nat) : Int))).map fun a => a, cmpO_fm (by rw [rl2.len]; omega) fun a _ => ⟨rfl, rfl⟩, fun z row hr => ?_⟩
    rw [List.map_id'] at z
    have := List.filter_eq_nil_iff.mp z row hr
    rw [decide_eq_true_eq] at this
    omega
  refine ⟨d4, ?_, hd4.mono (by omega)⟩
  unfold t__law_right
  rw [e1, Option.bind_some]
  show Option.bind (Option.map _ (t__law_rule d1 (v.fmod 7))) _ = _
  rw [hn, e2, Option.map_some, Option.bind_some, Option.bind_some, Option.bind_some]
  show Option.bind (Option.bind (rngV 0 ((r.length : Nat) : Int)) _) _ = _
  rw [eo, Option.bind_some, eo2, Option.map_some, Option.bind_some, Option.bind_some]
  show Option.bind (cmpO (fun a => (t__law_path r a).map fun b => b) (fun a => some a) (ords (rangeL 0 n) n)) _ = _
  rw [ep, Option.bind_some, Option.bind_some]
  show Option.bind (cmpO (fun a => (t__law_strict r a).map fun b => b) (fun a => some a) (ords (rangeL 0 n) n)) _ = _
  rw [es, Option.bind_some, Option.bind_some, lp, ls]
  show Option.bind (Option.bind (Option.map _ (t_count_paths r)) _) _ = _
  rw [ec, Option.map_some, Option.bind_some, decide_eq_true rfl]
  rw [if_neg (show ¬((!true) = true) from Bool.false_ne_true)]
  show Option.bind (some ((!(decide (((hN (nR (tR (bA r))) (rangeL 0 n) : Int) - (hN (bA r) (rangeL 0 n) : Int)).fmod 2 = 0))), ())) _ = _
  rw [par, decide_eq_true rfl, Option.bind_some]
  rw [if_neg (show ¬((!true) = true) from Bool.false_ne_true)]
  show Option.bind (Option.bind (t__law_next d2) _) _ = _
  rw [e3, Option.bind_some]
  show Option.bind (Option.map _ (t__law_rule d3 ((7 : Int) + w.fmod 3))) _ = _
  rw [hm, e4, Option.map_some, Option.bind_some, Option.bind_some, Option.bind_some]
  refine (congrArg (fun z => Option.bind z _) et).trans ?_
  rw [Option.bind_some]
  by_cases z : ties = []
  · rw [if_neg (by rw [decide_eq_true z]; exact Bool.false_ne_true)]
    show Option.map _ (Option.map _ (t_count_paths r2)) = _
    have odd := od_tour (bA r2) (tour rl2 (hties z)) (fun e => by
      have := congrArg List.length e
      rw [rangeL_len] at this
      rw [List.length_nil] at this
      omega)
    unfold od at odd
    have o2 := of_decide_eq_true odd
    rw [ec2, Option.map_some, Option.map_some, fmod2, decide_eq_true (by omega)]
  · rw [if_pos (by rw [decide_eq_false z]; rfl)]
    rfl
theorem t_law_ok (ns : List Int) (hl : ns.length ≤ 63) : t_law ns = some true := by
  unfold t_law
  have c1 : cutG ns none (some (6 : Int)) = ns.take 6 := cut_to (k := 6)
  have c2 : catG (ns.take 6) [(0 : Int)] = some (ns.take 6 ++ [0]) := catG_of (le_line (by rw [List.length_take, List.length_singleton]; omega))
  rw [c1, c2, Option.bind_some, forR_unit (ns.take 6 ++ [0]) (fun cell _ => ?_)]
  · rfl
  · obtain ⟨d, e1, hd⟩ := draws_ok (cell := cell)
    obtain ⟨d1, r1, hd1⟩ := law_right_ok hd (by decide) (by decide)
    obtain ⟨d2, r2, hd2⟩ := law_right_ok hd1 (by decide) (by decide)
    rw [e1, Option.bind_some, show rng1 (2 : Int) = some [0, 1] from rfl, Option.bind_some]
    rw [forR_nx (s' := d1) (by rw [r1, Option.bind_some, if_neg (by show ¬(!true) = true; exact Bool.false_ne_true), Option.bind_some]), forR_nx (s' := d2) (by rw [r2, Option.bind_some, if_neg (by show ¬(!true) = true; exact Bool.false_ne_true), Option.bind_some])]
    rfl
theorem law_true (K : PySem.W.Frag) (z : Nat → Addr) (ns : List Int) (h : ns.length ≤ 63) : ∃ os, m_law K z [.sc K ns] = some (.fz (.bool true), os) := ⟨_, tk_law ns true (t_law_ok ns h)⟩
end My
namespace My
open PySem PySem.Spec PyProof.Rows L2 Tr
/-! what the top has written; the law's own head -/
theorem all_mk {l : PySem.W.OpenLaw} {w : World} {K : PySem.W.Frag} {h : Heap} {mg : Str → Option Value} {fa : Addr} (X : K.In h) (G : h.Ns mainGlobals mg) (hfa : mg "law" = some (.ref fa))
    {f0 f1 f2 f3 f4 f5 f6 f7 f8 f9 f10 f11 f12 f13 f14 f15 f16 f17 : Addr} {od0 an0 od1 an1 od2 an2 od3 an3 od4 an4 od5 an5 od6 an6 od7 an7 od8 an8 od9 an9 od10 an10 od11 an11 od12 an12 od13 an13 od14 an14 od15 an15 od16 an16 od17 an17 : Option Addr} {sl0 sl1 sl2 sl3 sl4 sl5 sl6 sl7 sl8 sl9 sl10 sl11 sl12 sl13 sl14 sl15 sl16 sl17 : Array (Option Value)}
    {oc0 kV0 dc0 pm0 cd0 ct0 oc1 kV1 dc1 pm1 cd1 ct1 oc2 kV2 dc2 pm2 cd2 ct2 oc3 kV3 dc3 pm3 cd3 ct3 oc4 kV4 dc4 pm4 cd4 ct4 oc5 kV5 dc5 pm5 cd5 ct5 oc6 kV6 dc6 pm6 cd6 ct6 oc7 kV7 dc7 pm7 cd7 ct7 oc8 kV8 dc8 pm8 cd8 ct8 oc9 kV9 dc9 pm9 cd9 ct9 oc10 kV10 dc10 pm10 cd10 ct10 oc11 kV11 dc11 pm11 cd11 ct11 oc12 kV12 dc12 pm12 cd12 ct12 oc13 kV13 dc13 pm13 cd13 ct13 oc14 kV14 dc14 pm14 cd14 ct14 oc15 kV15 dc15 pm15 cd15 ct15 oc16 kV16 dc16 pm16 cd16 ct16 oc17 kV17 dc17 pm17 cd17 ct17 : Value}
    (a0 : PySem.W.nsIn K mainGlobals "is_whole" = some (some (.ref f0)))
    (l0 : K.lookup f0 = some ⟨oc0, od0, .func (PySem.W.fnOf "is_whole" "is_whole" (defArgs s_is_whole) (defBody s_is_whole) (defScope s_is_whole) .none kV0 dc0 pm0 an0 cd0 ct0), sl0⟩)
    (c0 : PySem.W.codeIn K cd0 "is_whole" = true) (k0 : PySem.W.keepIn K (.ref f0) = true)
    (a1 : PySem.W.nsIn K mainGlobals "is_answer" = some (some (.ref f1)))
    (l1 : K.lookup f1 = some ⟨oc1, od1, .func (PySem.W.fnOf "is_answer" "is_answer" (defArgs s_is_answer) (defBody s_is_answer) (defScope s_is_answer) .none kV1 dc1 pm1 an1 cd1 ct1), sl1⟩)
    (c1 : PySem.W.codeIn K cd1 "is_answer" = true) (k1 : PySem.W.keepIn K (.ref f1) = true)
    (a2 : PySem.W.nsIn K mainGlobals "check_rule" = some (some (.ref f2)))
    (l2 : K.lookup f2 = some ⟨oc2, od2, .func (PySem.W.fnOf "check_rule" "check_rule" (defArgs s_check_rule) (defBody s_check_rule) (defScope s_check_rule) .none kV2 dc2 pm2 an2 cd2 ct2), sl2⟩)
    (c2 : PySem.W.codeIn K cd2 "check_rule" = true) (k2 : PySem.W.keepIn K (.ref f2) = true)
    (a3 : PySem.W.nsIn K mainGlobals "may_precede" = some (some (.ref f3)))
    (l3 : K.lookup f3 = some ⟨oc3, od3, .func (PySem.W.fnOf "may_precede" "may_precede" (defArgs s_may_precede) (defBody s_may_precede) (defScope s_may_precede) .none kV3 dc3 pm3 an3 cd3 ct3), sl3⟩)
    (c3 : PySem.W.codeIn K cd3 "may_precede" = true) (k3 : PySem.W.keepIn K (.ref f3) = true)
    (a4 : PySem.W.nsIn K mainGlobals "bit_of" = some (some (.ref f4)))
    (l4 : K.lookup f4 = some ⟨oc4, od4, .func (PySem.W.fnOf "bit_of" "bit_of" (defArgs s_bit_of) (defBody s_bit_of) (defScope s_bit_of) .none kV4 dc4 pm4 an4 cd4 ct4), sl4⟩)
    (c4 : PySem.W.codeIn K cd4 "bit_of" = true) (k4 : PySem.W.keepIn K (.ref f4) = true)
    (a5 : PySem.W.nsIn K mainGlobals "is_in" = some (some (.ref f5)))
    (l5 : K.lookup f5 = some ⟨oc5, od5, .func (PySem.W.fnOf "is_in" "is_in" (defArgs s_is_in) (defBody s_is_in) (defScope s_is_in) .none kV5 dc5 pm5 an5 cd5 ct5), sl5⟩)
    (c5 : PySem.W.codeIn K cd5 "is_in" = true) (k5 : PySem.W.keepIn K (.ref f5) = true)
    (a6 : PySem.W.nsIn K mainGlobals "step_table" = some (some (.ref f6)))
    (l6 : K.lookup f6 = some ⟨oc6, od6, .func (PySem.W.fnOf "step_table" "step_table" (defArgs s_step_table) (defBody s_step_table) (defScope s_step_table) .none kV6 dc6 pm6 an6 cd6 ct6), sl6⟩)
    (c6 : PySem.W.codeIn K cd6 "step_table" = true) (k6 : PySem.W.keepIn K (.ref f6) = true)
    (a7 : PySem.W.nsIn K mainGlobals "ways_on" = some (some (.ref f7)))
    (l7 : K.lookup f7 = some ⟨oc7, od7, .func (PySem.W.fnOf "ways_on" "ways_on" (defArgs s_ways_on) (defBody s_ways_on) (defScope s_ways_on) .none kV7 dc7 pm7 an7 cd7 ct7), sl7⟩)
    (c7 : PySem.W.codeIn K cd7 "ways_on" = true) (k7 : PySem.W.keepIn K (.ref f7) = true)
    (a8 : PySem.W.nsIn K mainGlobals "ways_table" = some (some (.ref f8)))
    (l8 : K.lookup f8 = some ⟨oc8, od8, .func (PySem.W.fnOf "ways_table" "ways_table" (defArgs s_ways_table) (defBody s_ways_table) (defScope s_ways_table) .none kV8 dc8 pm8 an8 cd8 ct8), sl8⟩)
    (c8 : PySem.W.codeIn K cd8 "ways_table" = true) (k8 : PySem.W.keepIn K (.ref f8) = true)
    (a9 : PySem.W.nsIn K mainGlobals "count_paths" = some (some (.ref f9)))
    (l9 : K.lookup f9 = some ⟨oc9, od9, .func (PySem.W.fnOf "count_paths" "count_paths" (defArgs s_count_paths) (defBody s_count_paths) (defScope s_count_paths) .none kV9 dc9 pm9 an9 cd9 ct9), sl9⟩)
    (c9 : PySem.W.codeIn K cd9 "count_paths" = true) (k9 : PySem.W.keepIn K (.ref f9) = true)
    (a10 : PySem.W.nsIn K mainGlobals "_law_draws" = some (some (.ref f10)))
    (l10 : K.lookup f10 = some ⟨oc10, od10, .func (PySem.W.fnOf "_law_draws" "_law_draws" (defArgs s__law_draws) (defBody s__law_draws) (defScope s__law_draws) .none kV10 dc10 pm10 an10 cd10 ct10), sl10⟩)
    (c10 : PySem.W.codeIn K cd10 "_law_draws" = true) (k10 : PySem.W.keepIn K (.ref f10) = true)
    (a11 : PySem.W.nsIn K mainGlobals "_law_next" = some (some (.ref f11)))
    (l11 : K.lookup f11 = some ⟨oc11, od11, .func (PySem.W.fnOf "_law_next" "_law_next" (defArgs s__law_next) (defBody s__law_next) (defScope s__law_next) .none kV11 dc11 pm11 an11 cd11 ct11), sl11⟩)
    (c11 : PySem.W.codeIn K cd11 "_law_next" = true) (k11 : PySem.W.keepIn K (.ref f11) = true)
    (a12 : PySem.W.nsIn K mainGlobals "_law_rule" = some (some (.ref f12)))
    (l12 : K.lookup f12 = some ⟨oc12, od12, .func (PySem.W.fnOf "_law_rule" "_law_rule" (defArgs s__law_rule) (defBody s__law_rule) (defScope s__law_rule) .none kV12 dc12 pm12 an12 cd12 ct12), sl12⟩)
    (c12 : PySem.W.codeIn K cd12 "_law_rule" = true) (k12 : PySem.W.keepIn K (.ref f12) = true)
    (a13 : PySem.W.nsIn K mainGlobals "_law_orders" = some (some (.ref f13)))
    (l13 : K.lookup f13 = some ⟨oc13, od13, .func (PySem.W.fnOf "_law_orders" "_law_orders" (defArgs s__law_orders) (defBody s__law_orders) (defScope s__law_orders) .none kV13 dc13 pm13 an13 cd13 ct13), sl13⟩)
    (c13 : PySem.W.codeIn K cd13 "_law_orders" = true) (k13 : PySem.W.keepIn K (.ref f13) = true)
    (a14 : PySem.W.nsIn K mainGlobals "_law_path" = some (some (.ref f14)))
    (l14 : K.lookup f14 = some ⟨oc14, od14, .func (PySem.W.fnOf "_law_path" "_law_path" (defArgs s__law_path) (defBody s__law_path) (defScope s__law_path) .none kV14 dc14 pm14 an14 cd14 ct14), sl14⟩)
    (c14 : PySem.W.codeIn K cd14 "_law_path" = true) (k14 : PySem.W.keepIn K (.ref f14) = true)
    (a15 : PySem.W.nsIn K mainGlobals "_law_strict" = some (some (.ref f15)))
    (l15 : K.lookup f15 = some ⟨oc15, od15, .func (PySem.W.fnOf "_law_strict" "_law_strict" (defArgs s__law_strict) (defBody s__law_strict) (defScope s__law_strict) .none kV15 dc15 pm15 an15 cd15 ct15), sl15⟩)
    (c15 : PySem.W.codeIn K cd15 "_law_strict" = true) (k15 : PySem.W.keepIn K (.ref f15) = true)
    (a16 : PySem.W.nsIn K mainGlobals "_law_right" = some (some (.ref f16)))
    (l16 : K.lookup f16 = some ⟨oc16, od16, .func (PySem.W.fnOf "_law_right" "_law_right" (defArgs s__law_right) (defBody s__law_right) (defScope s__law_right) .none kV16 dc16 pm16 an16 cd16 ct16), sl16⟩)
    (c16 : PySem.W.codeIn K cd16 "_law_right" = true) (k16 : PySem.W.keepIn K (.ref f16) = true)
    (a17 : PySem.W.nsIn K mainGlobals "law" = some (some (.ref f17)))
    (l17 : K.lookup f17 = some ⟨oc17, od17, .func (PySem.W.fnOf "law" "law" (defArgs s_law) (defBody s_law) (defScope s_law) .none kV17 dc17 pm17 an17 cd17 ct17), sl17⟩)
    (c17 : PySem.W.codeIn K cd17 "law" = true) (k17 : PySem.W.keepIn K (.ref f17) = true)
    (z0 : PySem.W.nsIn K mainGlobals "abs" = some none)
    (z1 : PySem.W.nsIn K mainGlobals "all" = some none)
    (z2 : PySem.W.nsIn K mainGlobals "bool" = some none)
    (z3 : PySem.W.nsIn K mainGlobals "enumerate" = some none)
    (z4 : PySem.W.nsIn K mainGlobals "int" = some none)
    (z5 : PySem.W.nsIn K mainGlobals "isinstance" = some none)
    (z6 : PySem.W.nsIn K mainGlobals "len" = some none)
    (z7 : PySem.W.nsIn K mainGlobals "list" = some none)
    (z8 : PySem.W.nsIn K mainGlobals "range" = some none)
    (z9 : PySem.W.nsIn K mainGlobals "sum" = some none)
    (z10 : PySem.W.nsIn K mainGlobals "zip" = some none)
    : ∃ (z : Nat → Addr) (fd : FuncData), (∀ (s : Shared) (v : Value), BindsTo s fd ⟨[v], []⟩ [("script", v)]) ∧ ∀ base : Heap, K.In base → base.Ns mainGlobals mg → FnG l.prog w K mg base 7 fa fd ["script"] (spOf [] (m_law K z)) := by
  have e := hfa.symm.trans (PySem.W.mg_of X G a17)
  cases e
  have F0 := fun_mk (st := s_is_whole) l0 c0 k0
  have F1 := fun_mk (st := s_is_answer) l1 c1 k1
  have F2 := fun_mk (st := s_check_rule) l2 c2 k2
  have F3 := fun_mk (st := s_may_precede) l3 c3 k3
  have F4 := fun_mk (st := s_bit_of) l4 c4 k4
  have F5 := fun_mk (st := s_is_in) l5 c5 k5
  have F6 := fun_mk (st := s_step_table) l6 c6 k6
  have F7 := fun_mk (st := s_ways_on) l7 c7 k7
  have F8 := fun_mk (st := s_ways_table) l8 c8 k8
  have F9 := fun_mk (st := s_count_paths) l9 c9 k9
  have F10 := fun_mk (st := s__law_draws) l10 c10 k10
  have F11 := fun_mk (st := s__law_next) l11 c11 k11
  have F12 := fun_mk (st := s__law_rule) l12 c12 k12
  have F13 := fun_mk (st := s__law_orders) l13 c13 k13
  have F14 := fun_mk (st := s__law_path) l14 c14 k14
  have F15 := fun_mk (st := s__law_strict) l15 c15 k15
  have F16 := fun_mk (st := s__law_right) l16 c16 k16
  have F17 := fun_mk (st := s_law) l17 c17 k17
  have T : Tx K mg (fun i => match i with | 0 => f0 | 1 => f1 | 2 => f2 | 3 => f3 | 4 => f4 | 5 => f5 | 6 => f6 | 7 => f7 | 8 => f8 | 9 => f9 | 10 => f10 | 11 => f11 | 12 => f12 | 13 => f13 | 14 => f14 | 15 => f15 | 16 => f16 | _ => fa) (fun i => match i with
      | 0 => PySem.W.fnOf "is_whole" "is_whole" (defArgs s_is_whole) (defBody s_is_whole) (defScope s_is_whole) .none kV0 dc0 pm0 an0 cd0 ct0
      | 1 => PySem.W.fnOf "is_answer" "is_answer" (defArgs s_is_answer) (defBody s_is_answer) (defScope s_is_answer) .none kV1 dc1 pm1 an1 cd1 ct1
      | 2 => PySem.W.fnOf "check_rule" "check_rule" (defArgs s_check_rule) (defBody s_check_rule) (defScope s_check_rule) .none kV2 dc2 pm2 an2 cd2 ct2
      | 3 => PySem.W.fnOf "may_precede" "may_precede" (defArgs s_may_precede) (defBody s_may_precede) (defScope s_may_precede) .none kV3 dc3 pm3 an3 cd3 ct3
      | 4 => PySem.W.fnOf "bit_of" "bit_of" (defArgs s_bit_of) (defBody s_bit_of) (defScope s_bit_of) .none kV4 dc4 pm4 an4 cd4 ct4
      | 5 => PySem.W.fnOf "is_in" "is_in" (defArgs s_is_in) (defBody s_is_in) (defScope s_is_in) .none kV5 dc5 pm5 an5 cd5 ct5
      | 6 => PySem.W.fnOf "step_table" "step_table" (defArgs s_step_table) (defBody s_step_table) (defScope s_step_table) .none kV6 dc6 pm6 an6 cd6 ct6
      | 7 => PySem.W.fnOf "ways_on" "ways_on" (defArgs s_ways_on) (defBody s_ways_on) (defScope s_ways_on) .none kV7 dc7 pm7 an7 cd7 ct7
      | 8 => PySem.W.fnOf "ways_table" "ways_table" (defArgs s_ways_table) (defBody s_ways_table) (defScope s_ways_table) .none kV8 dc8 pm8 an8 cd8 ct8
      | 9 => PySem.W.fnOf "count_paths" "count_paths" (defArgs s_count_paths) (defBody s_count_paths) (defScope s_count_paths) .none kV9 dc9 pm9 an9 cd9 ct9
      | 10 => PySem.W.fnOf "_law_draws" "_law_draws" (defArgs s__law_draws) (defBody s__law_draws) (defScope s__law_draws) .none kV10 dc10 pm10 an10 cd10 ct10
      | 11 => PySem.W.fnOf "_law_next" "_law_next" (defArgs s__law_next) (defBody s__law_next) (defScope s__law_next) .none kV11 dc11 pm11 an11 cd11 ct11
      | 12 => PySem.W.fnOf "_law_rule" "_law_rule" (defArgs s__law_rule) (defBody s__law_rule) (defScope s__law_rule) .none kV12 dc12 pm12 an12 cd12 ct12
      | 13 => PySem.W.fnOf "_law_orders" "_law_orders" (defArgs s__law_orders) (defBody s__law_orders) (defScope s__law_orders) .none kV13 dc13 pm13 an13 cd13 ct13
      | 14 => PySem.W.fnOf "_law_path" "_law_path" (defArgs s__law_path) (defBody s__law_path) (defScope s__law_path) .none kV14 dc14 pm14 an14 cd14 ct14
      | 15 => PySem.W.fnOf "_law_strict" "_law_strict" (defArgs s__law_strict) (defBody s__law_strict) (defScope s__law_strict) .none kV15 dc15 pm15 an15 cd15 ct15
      | 16 => PySem.W.fnOf "_law_right" "_law_right" (defArgs s__law_right) (defBody s__law_right) (defScope s__law_right) .none kV16 dc16 pm16 an16 cd16 ct16
      | _ => PySem.W.fnOf "law" "law" (defArgs s_law) (defBody s_law) (defScope s_law) .none kV17 dc17 pm17 an17 cd17 ct17)
      w (fun _ => fa) (fun _ => fa) (fun _ => PySem.W.fnOf "law" "law" (defArgs s_law) (defBody s_law) (defScope s_law) .none kV17 dc17 pm17 an17 cd17 ct17) := by
    refine ⟨?_, ?_, ?_, ?_, ?_, ?_, ?_, ?_, ?_, ?_, ?_, ?_, ?_, ?_, ?_, ?_, ?_, ?_, ?_, ?_, ?_, ?_, ?_, ?_, ?_, ?_, ?_, ?_, ?_, ?_, ?_, ?_, ?_, ?_, ?_, ?_, ?_, ?_, ?_, ?_, ?_, ?_, ?_, ?_, ?_, ?_, ?_, ?_, ?_, ?_, ?_, ?_, ?_, ?_, ?_, ?_, ?_, ?_, ?_, ?_, ?_, ?_, ?_, ?_, ?_⟩
    · exact F0
    · exact PySem.W.mg_of X G a0
    · exact F0.binds fun _ _ _ _ _ _ us hl => match us, hl with | [_], _ => rfl
    · exact F1
    · exact PySem.W.mg_of X G a1
    · exact F1.binds fun _ _ _ _ _ _ us hl => match us, hl with | [_], _ => rfl
    · exact F2
    · exact PySem.W.mg_of X G a2
    · exact F2.binds fun _ _ _ _ _ _ us hl => match us, hl with | [_], _ => rfl
    · exact F3
    · exact PySem.W.mg_of X G a3
    · exact F3.binds fun _ _ _ _ _ _ us hl => match us, hl with | [_, _, _], _ => rfl
    · exact F4
    · exact PySem.W.mg_of X G a4
    · exact F4.binds fun _ _ _ _ _ _ us hl => match us, hl with | [_], _ => rfl
    · exact F5
    · exact PySem.W.mg_of X G a5
    · exact F5.binds fun _ _ _ _ _ _ us hl => match us, hl with | [_, _], _ => rfl
    · exact F6
    · exact PySem.W.mg_of X G a6
    · exact F6.binds fun _ _ _ _ _ _ us hl => match us, hl with | [_], _ => rfl
    · exact F7
    · exact PySem.W.mg_of X G a7
    · exact F7.binds fun _ _ _ _ _ _ us hl => match us, hl with | [_, _, _], _ => rfl
    · exact F8
    · exact PySem.W.mg_of X G a8
    · exact F8.binds fun _ _ _ _ _ _ us hl => match us, hl with | [_], _ => rfl
    · exact F9
    · exact PySem.W.mg_of X G a9
    · exact F9.binds fun _ _ _ _ _ _ us hl => match us, hl with | [_], _ => rfl
    · exact F10
    · exact PySem.W.mg_of X G a10
    · exact F10.binds fun _ _ _ _ _ _ us hl => match us, hl with | [_], _ => rfl
    · exact F11
    · exact PySem.W.mg_of X G a11
    · exact F11.binds fun _ _ _ _ _ _ us hl => match us, hl with | [_], _ => rfl
    · exact F12
    · exact PySem.W.mg_of X G a12
    · exact F12.binds fun _ _ _ _ _ _ us hl => match us, hl with | [_, _], _ => rfl
    · exact F13
    · exact PySem.W.mg_of X G a13
    · exact F13.binds fun _ _ _ _ _ _ us hl => match us, hl with | [_], _ => rfl
    · exact F14
    · exact PySem.W.mg_of X G a14
    · exact F14.binds fun _ _ _ _ _ _ us hl => match us, hl with | [_, _], _ => rfl
    · exact F15
    · exact PySem.W.mg_of X G a15
    · exact F15.binds fun _ _ _ _ _ _ us hl => match us, hl with | [_, _], _ => rfl
    · exact F16
    · exact PySem.W.mg_of X G a16
    · exact F16.binds fun _ _ _ _ _ _ us hl => match us, hl with | [_], _ => rfl
    · exact F17
    · exact PySem.W.mg_of X G a17
    · exact F17.binds fun _ _ _ _ _ _ us hl => match us, hl with | [_], _ => rfl
    · exact PySem.W.mg_none_of X G z0
    · exact PySem.W.mg_none_of X G z1
    · exact PySem.W.mg_none_of X G z2
    · exact PySem.W.mg_none_of X G z3
    · exact PySem.W.mg_none_of X G z4
    · exact PySem.W.mg_none_of X G z5
    · exact PySem.W.mg_none_of X G z6
    · exact PySem.W.mg_none_of X G z7
    · exact PySem.W.mg_none_of X G z8
    · exact PySem.W.mg_none_of X G z9
    · exact PySem.W.mg_none_of X G z10
  exact ⟨(fun _ => fa), _, fun s v => .of_eq rfl, fun base _ _ => ok_law T⟩
end My
open PySem PySem.W PyProof.Rows
set_option maxHeartbeats 0 in
theorem PySem.Challenge.cw_knotsorts_k69_whole_even_or_odd_holds : PySem.Challenge.rw_knotsorts_k69_whole_even_or_odd.Holds := by
  w_on; o_law; k_head; (case hw => w_witness2)
  k_fill
  refine Tr.walkH (Z := Nat → Addr) (l := PySem.Challenge.rw_knotsorts_k69_whole_even_or_odd) (n := 63) (k := 7) (x := "script") (mf := fun K z => My.m_law K z) rfl (by decide) rfl ⟨rfl, by decide, by decide⟩ (fun w h Y => PySem.W.kIn_of Y) ?F My.law_true
  case F =>
    intro w mg fa h KX G hmg
    refine' My.all_mk KX G hmg ?a0 ?l0 ?c0 ?k0 ?a1 ?l1 ?c1 ?k1 ?a2 ?l2 ?c2 ?k2 ?a3 ?l3 ?c3 ?k3 ?a4 ?l4 ?c4 ?k4 ?a5 ?l5 ?c5 ?k5 ?a6 ?l6 ?c6 ?k6 ?a7 ?l7 ?c7 ?k7 ?a8 ?l8 ?c8 ?k8 ?a9 ?l9 ?c9 ?k9 ?a10 ?l10 ?c10 ?k10 ?a11 ?l11 ?c11 ?k11 ?a12 ?l12 ?c12 ?k12 ?a13 ?l13 ?c13 ?k13 ?a14 ?l14 ?c14 ?k14 ?a15 ?l15 ?c15 ?k15 ?a16 ?l16 ?c16 ?k16 ?a17 ?l17 ?c17 ?k17 ?z0 ?z1 ?z2 ?z3 ?z4 ?z5 ?z6 ?z7 ?z8 ?z9 ?z10
    (case a0 => k_is)
    (case l0 => k_is)
    (case c0 => k_is)
    (case k0 => k_is)
    (case a1 => k_is)
    (case l1 => k_is)
    (case c1 => k_is)
    (case k1 => k_is)
    (case a2 => k_is)
    (case l2 => k_is)
    (case c2 => k_is)
    (case k2 => k_is)
    (case a3 => k_is)
    (case l3 => k_is)
    (case c3 => k_is)
    (case k3 => k_is)
    (case a4 => k_is)
    (case l4 => k_is)
    (case c4 => k_is)
    (case k4 => k_is)
    (case a5 => k_is)
    (case l5 => k_is)
    (case c5 => k_is)
    (case k5 => k_is)
    (case a6 => k_is)
    (case l6 => k_is)
    (case c6 => k_is)
    (case k6 => k_is)
    (case a7 => k_is)
    (case l7 => k_is)
    (case c7 => k_is)
    (case k7 => k_is)
    (case a8 => k_is)
    (case l8 => k_is)
    (case c8 => k_is)
    (case k8 => k_is)
    (case a9 => k_is)
    (case l9 => k_is)
    (case c9 => k_is)
    (case k9 => k_is)
    (case a10 => k_is)
    (case l10 => k_is)
    (case c10 => k_is)
    (case k10 => k_is)
    (case a11 => k_is)
    (case l11 => k_is)
    (case c11 => k_is)
    (case k11 => k_is)
    (case a12 => k_is)
    (case l12 => k_is)
    (case c12 => k_is)
    (case k12 => k_is)
    (case a13 => k_is)
    (case l13 => k_is)
    (case c13 => k_is)
    (case k13 => k_is)
    (case a14 => k_is)
    (case l14 => k_is)
    (case c14 => k_is)
    (case k14 => k_is)
    (case a15 => k_is)
    (case l15 => k_is)
    (case c15 => k_is)
    (case k15 => k_is)
    (case a16 => k_is)
    (case l16 => k_is)
    (case c16 => k_is)
    (case k16 => k_is)
    (case a17 => k_is)
    (case l17 => k_is)
    (case c17 => k_is)
    (case k17 => k_is)
    (case z0 => k_is)
    (case z1 => k_is)
    (case z2 => k_is)
    (case z3 => k_is)
    (case z4 => k_is)
    (case z5 => k_is)
    (case z6 => k_is)
    (case z7 => k_is)
    (case z8 => k_is)
    (case z9 => k_is)
    (case z10 => k_is)
