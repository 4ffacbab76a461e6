import PyProof.Rows.All
import Wide.All
import OpenK.AllK
import Wide.FinOn
import HandS.ForMost
import PySem.Challenge.RW_knotsorts_k60_rules_as_texts
import HandS.Wide
import HandS.WideBits
import HandS.Deep
import HandS.IsInst
import HandS.Sort
import HandS.Conv
import HandS.Defaults
import HandS.MakeKwOnly
import HandS.RaiseMore
import HandS.Ends
import HandS.SortInts
import HandS.Exc
import HandS.ExcOwn
import HandS.WordsExc
import HandS.ExcInit
import HandS.ExcField
import HandS.CallSlots
import HandS.Dict
import KE.KExcIs
import HandS.ExcIs
import HandS.SortRule
import HandS.Iter
import HandS.Style
import HandS.SetFor
import HandS.CallLocal
import HandS.More
import HandS.TryOnly
import HandS.Property
import KE.KDictZip
import HandS.TupSets
import KE.KDictWalk
import KE.KDictSum
import PyProof.SumAny
import PyProof.ListOps
import HandS.FStr
import HandS.Text
import KE.GoesEnum
set_option Elab.async false
set_option linter.all false
set_option maxRecDepth 100000
set_option maxHeartbeats 4000000
/-! Trees: Python's values as trees of data, the lists that a def changes by what holds them, and when a reading keeps to a plain function over them. -/
namespace Tr
open PySem PySem.Spec PyProof.Rows L2

/-! ### two lists side by side -/
inductive All2 {α β : Type} (R : α → β → Prop) : List α → List β → Prop
  | nil : All2 R [] []
  | cons {a : α} {b : β} {as : List α} {bs : List β} : R a b → All2 R as bs → All2 R (a :: as) (b :: bs)
namespace All2
variable {α β : Type} {R S : α → β → Prop}
theorem len : ∀ {as : List α} {bs : List β}, All2 R as bs → as.length = bs.length
  | _, _, .nil => rfl
  | _, _, .cons _ t => by simp [t.len]
theorem mono (h : ∀ a b, R a b → S a b) : ∀ {as : List α} {bs : List β}, All2 R as bs → All2 S as bs
  | _, _, .nil => .nil
  | _, _, .cons r t => .cons (h _ _ r) (t.mono h)
theorem monoM : ∀ {as : List α} {bs : List β}, All2 R as bs → (∀ a b, a ∈ as → b ∈ bs → R a b → S a b) → All2 S as bs
  | _, _, .nil, _ => .nil
  | _, _, .cons r t, h => .cons (h _ _ (by simp) (by simp) r) (t.monoM fun a b x y => h a b (by simp [x]) (by simp [y]))
theorem get : ∀ {as : List α} {bs : List β} {i : Nat} {a : α}, All2 R as bs → as[i]? = some a → ∃ b, bs[i]? = some b ∧ R a b
  | _, _, _, _, .nil, h => by simp at h
  | _, _, 0, _, .cons r t, h => by simp at h; subst h; exact ⟨_, rfl, r⟩
  | _, _, i + 1, a, .cons r t, h => by
    rw [List.getElem?_cons_succ] at h
    obtain ⟨b, e, x⟩ := t.get h
    exact ⟨b, by rw [List.getElem?_cons_succ]; exact e, x⟩
theorem getR : ∀ {as : List α} {bs : List β} {i : Nat} {b : β}, All2 R as bs → bs[i]? = some b → ∃ a, as[i]? = some a ∧ R a b
  | _, _, _, _, .nil, h => by simp at h
  | _, _, 0, _, .cons r t, h => by simp at h; subst h; exact ⟨_, rfl, r⟩
  | _, _, i + 1, b, .cons r t, h => by
    rw [List.getElem?_cons_succ] at h
    obtain ⟨a, e, x⟩ := t.getR h
    exact ⟨a, by rw [List.getElem?_cons_succ]; exact e, x⟩
theorem app : ∀ {as as' : List α} {bs bs' : List β}, All2 R as bs → All2 R as' bs' → All2 R (as ++ as') (bs ++ bs')
  | _, _, _, _, .nil, s => s
  | _, _, _, _, .cons r t, s => .cons r (t.app s)
theorem take : ∀ {as : List α} {bs : List β} (n : Nat), All2 R as bs → All2 R (as.take n) (bs.take n)
  | _, _, 0, _ => .nil
  | _, _, _ + 1, .nil => .nil
  | _, _, n + 1, .cons r t => .cons r (t.take n)
theorem drop : ∀ {as : List α} {bs : List β} (n : Nat), All2 R as bs → All2 R (as.drop n) (bs.drop n)
  | _, _, 0, h => h
  | _, _, _ + 1, .nil => .nil
  | _, _, n + 1, .cons _ t => t.drop n
theorem set : ∀ {as : List α} {bs : List β} (n : Nat) {a : α} {b : β}, All2 R as bs → R a b → All2 R (as.set n a) (bs.set n b)
  | _, _, _, _, _, .nil, _ => .nil
  | _, _, 0, _, _, .cons _ t, x => .cons x t
  | _, _, n + 1, _, _, .cons r t, x => .cons r (t.set n x)
theorem erase : ∀ {as : List α} {bs : List β} (n : Nat), All2 R as bs → All2 R (as.eraseIdx n) (bs.eraseIdx n)
  | _, _, _, .nil => .nil
  | _, _, 0, .cons _ t => t
  | _, _, n + 1, .cons r t => .cons r (t.erase n)
theorem rep {as : List α} {bs : List β} (h : All2 R as bs) : ∀ n : Nat, All2 R (List.replicate n as).flatten (List.replicate n bs).flatten
  | 0 => .nil
  | n + 1 => by rw [List.replicate_succ, List.replicate_succ, List.flatten_cons, List.flatten_cons]; exact h.app (h.rep n)
theorem dropLast : ∀ {as : List α} {bs : List β}, All2 R as bs → All2 R as.dropLast bs.dropLast
  | _, _, h => by rw [List.dropLast_eq_take, List.dropLast_eq_take, ← h.len]; exact h.take _
theorem rev : ∀ {as : List α} {bs : List β}, All2 R as bs → All2 R as.reverse bs.reverse
  | _, _, .nil => .nil
  | _, _, .cons r t => by rw [List.reverse_cons, List.reverse_cons]; exact t.rev.app (.cons r .nil)
theorem snoc {as : List α} {bs : List β} {a : α} {b : β} (h : All2 R as bs) (r : R a b) : All2 R (as ++ [a]) (bs ++ [b]) := h.app (.cons r .nil)
end All2

/-! ### data held by what never changes any more -/
mutual
/-- v is the data d, all of whose lists stand in F -/
def Rp (F : Hp) : PyData → V → Prop
  | .none, v => v = .non
  | .bool b, v => v = .bl b
  | .int i, v => v = .int i
  | .str s, v => v = .str s
  | .list ds, v => ∃ a vs, v = .ref a ∧ F a = some (.lst vs) ∧ Rps F ds vs
  | .tuple ds, v => ∃ a vs, v = .ref a ∧ F a = some (.tup vs) ∧ Rps F ds vs
  | .dict kvs, v => kvs = [] ∧ ∃ a, v = .ref a ∧ F a = some (.dK [])
def Rps (F : Hp) : List PyData → List V → Prop
  | [], vs => vs = []
  | d :: ds, vs => ∃ v r, vs = v :: r ∧ Rp F d v ∧ Rps F ds r
end
/-- what H has stands in H' -/
def Ex (H H' : Hp) : Prop := ∀ a o, H a = some o → H' a = some o
theorem Ex.refl (H : Hp) : Ex H H := fun _ _ h => h
theorem Ex.trans {H H1 H2 : Hp} (a : Ex H H1) (b : Ex H1 H2) : Ex H H2 := fun x o h => b x o (a x o h)
theorem Ex.new {H : Hp} {p : Addr} {o : HO} (h : H p = none) : Ex H (upd H p o) := fun a u e => by
  rw [upd_ne (ne_of_none e h)]
  exact e
theorem Ex.none {H H' : Hp} (e : Ex H H') {p : Addr} (h : H' p = Option.none) : H p = Option.none := by
  cases q : H p with
  | none => rfl
  | some o => rw [e p o q] at h; cases h

theorem rps_iff {F : Hp} : ∀ {ds : List PyData} {vs : List V}, Rps F ds vs ↔ All2 (Rp F) ds vs
  | [], vs => by
    constructor
    · intro h; have h' : vs = [] := h; subst h'; exact .nil
    · intro h; cases h; rfl
  | d :: ds, vs => by
    constructor
    · intro h
      obtain ⟨v, r, rfl, h1, h2⟩ := h
      exact .cons h1 (rps_iff.mp h2)
    · intro h
      cases h with
      | cons h1 h2 => exact ⟨_, _, rfl, h1, rps_iff.mpr h2⟩
theorem rp_list {F : Hp} {ds : List PyData} {v : V} : Rp F (.list ds) v ↔ ∃ a vs, v = .ref a ∧ F a = some (.lst vs) ∧ All2 (Rp F) ds vs := by
  constructor
  · rintro ⟨a, vs, e, h, r⟩; exact ⟨a, vs, e, h, rps_iff.mp r⟩
  · rintro ⟨a, vs, e, h, r⟩; exact ⟨a, vs, e, h, rps_iff.mpr r⟩
theorem rp_tuple {F : Hp} {ds : List PyData} {v : V} : Rp F (.tuple ds) v ↔ ∃ a vs, v = .ref a ∧ F a = some (.tup vs) ∧ All2 (Rp F) ds vs := by
  constructor
  · rintro ⟨a, vs, e, h, r⟩; exact ⟨a, vs, e, h, rps_iff.mp r⟩
  · rintro ⟨a, vs, e, h, r⟩; exact ⟨a, vs, e, h, rps_iff.mpr r⟩
mutual
theorem Rp.mono {F F' : Hp} (e : Ex F F') : ∀ {d : PyData} {v : V}, Rp F d v → Rp F' d v
  | .none, _, h => h
  | .bool _, _, h => h
  | .int _, _, h => h
  | .str _, _, h => h
  | .list ds, v, h => by
    obtain ⟨a, vs, q, h1, h2⟩ := h
    exact ⟨a, vs, q, e _ _ h1, Rps.mono e h2⟩
  | .tuple ds, v, h => by
    obtain ⟨a, vs, q, h1, h2⟩ := h
    exact ⟨a, vs, q, e _ _ h1, Rps.mono e h2⟩
  | .dict _, v, h => by
    obtain ⟨z, a, q, h1⟩ := h
    exact ⟨z, a, q, e _ _ h1⟩
theorem Rps.mono {F F' : Hp} (e : Ex F F') : ∀ {ds : List PyData} {vs : List V}, Rps F ds vs → Rps F' ds vs
  | [], _, h => h
  | d :: ds, _, h => by
    obtain ⟨v, r, q, h1, h2⟩ := h
    exact ⟨v, r, q, Rp.mono e h1, Rps.mono e h2⟩
end
theorem all_mono {F F' : Hp} (e : Ex F F') {ds : List PyData} {vs : List V} (h : All2 (Rp F) ds vs) : All2 (Rp F') ds vs := h.mono fun _ _ => Rp.mono e
mutual
theorem Rp.dp {K : PySem.W.Frag} {F H : Hp} (e : Ex F H) : ∀ {d : PyData} {v : V}, Rp F d v → d.canLay0 = true → Dp K H v d
  | .none, _, h, _ => by have h' : _ = _ := h; subst h'; exact .non
  | .bool _, _, h, _ => by have h' : _ = _ := h; subst h'; exact .bl _
  | .int _, _, h, _ => by have h' : _ = _ := h; subst h'; exact .int _
  | .str _, _, h, _ => by have h' : _ = _ := h; subst h'; exact .str _
  | .list ds, v, h, c => by
    obtain ⟨a, vs, rfl, h1, h2⟩ := h
    exact .lst (SqL.of (e _ _ h1)) (Rps.dp e h2 (by simpa [PyData.canLay0] using c))
  | .tuple ds, v, h, c => by
    obtain ⟨a, vs, rfl, h1, h2⟩ := h
    exact .tup (SqT.of (e _ _ h1)) (Rps.dp e h2 (by simpa [PyData.canLay0] using c))
  | .dict _, _, _, c => nomatch c
theorem Rps.dp {K : PySem.W.Frag} {F H : Hp} (e : Ex F H) : ∀ {ds : List PyData} {vs : List V}, Rps F ds vs → PyData.canLayAll0 ds = true → DpAll K H vs ds
  | [], _, h, _ => by have h' : _ = _ := h; subst h'; exact .nil
  | d :: ds, _, h, c => by
    obtain ⟨v, r, rfl, h1, h2⟩ := h
    have c' : d.canLay0 = true ∧ PyData.canLayAll0 ds = true := by simpa [PyData.canLayAll0] using c
    exact .cons (Rp.dp e h1 c'.1) (Rps.dp e h2 c'.2)
end
theorem dpAll_of {K : PySem.W.Frag} {F H : Hp} (e : Ex F H) {ds : List PyData} {vs : List V} (h : All2 (Rp F) ds vs) (c : PyData.canLayAll0 ds = true) : DpAll K H vs ds := Rps.dp e (rps_iff.mpr h) c

/-! ### what a name holds -/
inductive O where
  /-- data that never change any more -/
  | fz (d : PyData)
  /-- a range object -/
  | rg (lo hi : Int)
  /-- a list that this name alone holds; a list of such lists -/
  | ow (ds : List PyData) | ow2 (rows : List (List PyData))
  /-- the script, of the written part K or not -/
  | sc (K : PySem.W.Frag) (ns : List Int)
  /-- a tuple of texts of the module's top -/
  | kt (K : PySem.W.Frag) (xs : List Str)
  /-- an instance of the class at C: attributes that never change, and at most one list that it alone holds -/
  | ob (C : Addr) (fs : List (Str × PyData)) (g : Option (Str × List PyData))
  /-- a tuple of such lists -/
  | tp (rows : List (List PyData))
  /-- a dict (keys: ints and texts) that this name alone holds -/
  | dk (kvs : List (Key × PyData))
  /-- a dict (keys: tuples of ints and texts) that this name alone holds -/
  | dt (kvs : List (List Key × PyData))
abbrev En := List (Option O)
def Own (F H : Hp) (o : O) (v : V) (S : Addr → Prop) : Prop := match o with
  | .fz d => Rp F d v
  | .rg lo hi => ∃ a, v = .ref a ∧ F a = some (.rng lo hi)
  | .sc K ns => ∃ a, v = .ref a ∧ SqL K F a (ns.map V.int)
  | .kt K xs => ∃ a, v = .ref a ∧ SqT K F a (xs.map V.str)
  | .ow ds => ∃ a vs, v = .ref a ∧ S a ∧ H a = some (.lst vs) ∧ All2 (Rp F) ds vs
  | .ow2 rows => ∃ a rs, v = .ref a ∧ S a ∧ H a = some (.lst (rs.map V.ref)) ∧ a ∉ rs ∧ rs.Nodup ∧ All2 (fun row r => S r ∧ ∃ vs, H r = some (.lst vs) ∧ All2 (Rp F) row vs) rows rs
  | .ob C fs none => ∃ a dx fvs, v = .ref a ∧ S a ∧ S dx ∧ H a = some (.ins C dx fvs) ∧ H dx = some (.own a) ∧ All2 (fun (p : Str × PyData) (q : Str × V) => p.1 = q.1 ∧ Rp F p.2 q.2) fs fvs
  | .ob C fs (some (g, ds)) => ∃ a dx fvs r vs, v = .ref a ∧ S a ∧ S dx ∧ S r ∧ H a = some (.ins C dx (fvs ++ [(g, .ref r)])) ∧ H dx = some (.own a) ∧ H r = some (.lst vs) ∧ All2 (fun (p : Str × PyData) (q : Str × V) => p.1 = q.1 ∧ Rp F p.2 q.2) fs fvs ∧ All2 (Rp F) ds vs
  | .tp rows => ∃ a rs, v = .ref a ∧ S a ∧ H a = some (.tup (rs.map V.ref)) ∧ a ∉ rs ∧ rs.Nodup ∧ All2 (fun row r => S r ∧ ∃ vs, H r = some (.lst vs) ∧ All2 (Rp F) row vs) rows rs
  | .dk kvs => ∃ a kws, v = .ref a ∧ S a ∧ H a = some (.dK kws) ∧ All2 (fun (p : Key × PyData) (q : Key × V) => p.1 = q.1 ∧ Rp F p.2 q.2) kvs kws
  | .dt kvs => ∃ a kws, v = .ref a ∧ S a ∧ H a = some (.dT kws) ∧ All2 (fun (p : List Key × PyData) (q : List Key × V) => p.1 = q.1 ∧ Rp F p.2 q.2) kvs kws
theorem ex_sq {K : PySem.W.Frag} {F F' : Hp} {a : Addr} {xs : List V} (e : Ex F F') (h : SqL K F a xs) : SqL K F' a xs := by
  rcases h with (h | ⟨o, h⟩) | h
  · exact .inl (.inl (e _ _ h))
  · exact .inl (.inr ⟨o, e _ _ h⟩)
  · exact .inr h
theorem ex_sqT {K : PySem.W.Frag} {F F' : Hp} {a : Addr} {xs : List V} (e : Ex F F') (h : SqT K F a xs) : SqT K F' a xs := by
  rcases h with (h | ⟨o, h⟩) | h
  · exact .inl (.inl (e _ _ h))
  · exact .inl (.inr ⟨o, e _ _ h⟩)
  · exact .inr h
structure REnv (F H : Hp) (σ : L2.St) (env : En) (Sl : Nat → Addr → Prop) : Prop where
  ex : Ex F H
  len : σ.length = env.length
  at_ : ∀ i o, env[i]? = some (some o) → ∃ v, σ[i]? = some (some v) ∧ Own F H o v (Sl i)
  dj : ∀ i j a, Sl i a → Sl j a → i = j
  tr : ∀ i a, Sl i a → F a = none ∧ ∃ o, H a = some o
structure Step (F H : Hp) (Sl : Nat → Addr → Prop) (F' H' : Hp) (Sl' : Nat → Addr → Prop) : Prop where
  exF : Ex F F'
  fr : ∀ b o, H b = some o → (∀ i, ¬ Sl i b) → H' b = some o
  tk : ∀ b o, H b = some o → ∃ o', H' b = some o'
  own : ∀ i b, Sl' i b → Sl i b ∨ H b = none
  fz : ∀ b o, F' b = some o → F b = some o ∨ H b = none ∨ ∃ i, Sl i b
theorem Step.refl {F H : Hp} {Sl : Nat → Addr → Prop} : Step F H Sl F H Sl := ⟨Ex.refl F, fun _ _ h _ => h, fun _ _ h => ⟨_, h⟩, fun _ _ h => .inl h, fun _ _ h => .inl h⟩
theorem Step.trans {F H F1 H1 F2 H2 : Hp} {Sl Sl1 Sl2 : Nat → Addr → Prop} (a : Step F H Sl F1 H1 Sl1) (b : Step F1 H1 Sl1 F2 H2 Sl2) : Step F H Sl F2 H2 Sl2 := by
  have back : ∀ c, H1 c = none → H c = none := fun c h => by
    cases q : H c with
    | none => rfl
    | some o => obtain ⟨o', e⟩ := a.tk c o q; rw [e] at h; cases h
  refine ⟨a.exF.trans b.exF, fun c o h n => b.fr c o (a.fr c o h n) fun i z => ?_, fun c o h => ?_, fun i c h => ?_, fun c o h => ?_⟩
  · rcases a.own i c z with z | z
    · exact n i z
    · rw [h] at z; cases z
  · obtain ⟨o', e⟩ := a.tk c o h
    exact b.tk c o' e
  · rcases b.own i c h with z | z
    · exact a.own i c z
    · exact .inr (back c z)
  · rcases b.fz c o h with z | z | ⟨i, z⟩
    · exact a.fz c o z
    · exact .inr (.inl (back c z))
    · rcases a.own i c z with y | y
      · exact .inr (.inr ⟨i, y⟩)
      · exact .inr (.inl y)
/-- only new things, tracked and fixed or not -/
theorem Step.grow {F H F' H' : Hp} {Sl : Nat → Addr → Prop} (a : Ex F F') (b : Ex H H') (c : ∀ x o, F' x = some o → F x = some o ∨ H x = none) : Step F H Sl F' H' Sl :=
  ⟨a, fun x o h _ => b x o h, fun x o h => ⟨o, b x o h⟩, fun _ _ h => .inl h, fun x o h => (c x o h).elim .inl fun z => .inr (.inl z)⟩
theorem Own.ext {F H F' H' : Hp} {o : O} {v : V} {S : Addr → Prop} (h : Own F H o v S) (e : Ex F F') (k : ∀ a u, S a → H a = some u → H' a = some u) : Own F' H' o v S := by
  cases o with
  | fz d => exact Rp.mono e h
  | rg lo hi => obtain ⟨a, q, h⟩ := h; exact ⟨a, q, e _ _ h⟩
  | sc K ns => obtain ⟨a, q, h⟩ := h; exact ⟨a, q, ex_sq e h⟩
  | kt K xs => obtain ⟨a, q, h⟩ := h; exact ⟨a, q, ex_sqT e h⟩
  | ow ds => obtain ⟨a, vs, q, s, h, r⟩ := h; exact ⟨a, vs, q, s, k _ _ s h, all_mono e r⟩
  | ow2 rows =>
    obtain ⟨a, rs, q, s, h, n, nd, r⟩ := h
    exact ⟨a, rs, q, s, k _ _ s h, n, nd, r.mono fun row x ⟨s', vs, h', r'⟩ => ⟨s', vs, k _ _ s' h', all_mono e r'⟩⟩
  | tp rows =>
    obtain ⟨a, rs, q, s, h, n, nd, r⟩ := h
    exact ⟨a, rs, q, s, k _ _ s h, n, nd, r.mono fun row x ⟨s', vs, h', r'⟩ => ⟨s', vs, k _ _ s' h', all_mono e r'⟩⟩
  | dk kvs => obtain ⟨a, kws, q, s, h, r⟩ := h; exact ⟨a, kws, q, s, k _ _ s h, r.mono fun _ _ z => ⟨z.1, Rp.mono e z.2⟩⟩
  | dt kvs => obtain ⟨a, kws, q, s, h, r⟩ := h; exact ⟨a, kws, q, s, k _ _ s h, r.mono fun _ _ z => ⟨z.1, Rp.mono e z.2⟩⟩
  | ob C fs g =>
    cases g with
    | none =>
      obtain ⟨a, dx, fvs, q, s, s', h, h', r⟩ := h
      exact ⟨a, dx, fvs, q, s, s', k _ _ s h, k _ _ s' h', r.mono fun _ _ z => ⟨z.1, Rp.mono e z.2⟩⟩
    | some g =>
      obtain ⟨a, dx, fvs, p, vs, q, s, s', s2, h, h', h2, r, r2⟩ := h
      exact ⟨a, dx, fvs, p, vs, q, s, s', s2, k _ _ s h, k _ _ s' h', k _ _ s2 h2, r.mono fun _ _ z => ⟨z.1, Rp.mono e z.2⟩, all_mono e r2⟩
theorem Own.sub {F H : Hp} {o : O} {v : V} {S T : Addr → Prop} (h : Own F H o v S) (k : ∀ a, S a → T a) : Own F H o v T := by
  cases o with
  | fz d => exact h
  | rg lo hi => exact h
  | sc K ns => exact h
  | kt K xs => exact h
  | ow ds => obtain ⟨a, vs, q, s, h, r⟩ := h; exact ⟨a, vs, q, k _ s, h, r⟩
  | ow2 rows =>
    obtain ⟨a, rs, q, s, h, n, nd, r⟩ := h
    exact ⟨a, rs, q, k _ s, h, n, nd, r.mono fun row x ⟨s', z⟩ => ⟨k _ s', z⟩⟩
  | tp rows =>
    obtain ⟨a, rs, q, s, h, n, nd, r⟩ := h
    exact ⟨a, rs, q, k _ s, h, n, nd, r.mono fun row x ⟨s', z⟩ => ⟨k _ s', z⟩⟩
  | dk kvs => obtain ⟨a, kws, q, s, h, r⟩ := h; exact ⟨a, kws, q, k _ s, h, r⟩
  | dt kvs => obtain ⟨a, kws, q, s, h, r⟩ := h; exact ⟨a, kws, q, k _ s, h, r⟩
  | ob C fs g =>
    cases g with
    | none =>
      obtain ⟨a, dx, fvs, q, s, s', z⟩ := h
      exact ⟨a, dx, fvs, q, k _ s, k _ s', z⟩
    | some g =>
      obtain ⟨a, dx, fvs, p, vs, q, s, s', s2, z⟩ := h
      exact ⟨a, dx, fvs, p, vs, q, k _ s, k _ s', k _ s2, z⟩
/-- what the names hold stands where only new things came -/
theorem REnv.grow {F H F' H' : Hp} {σ : L2.St} {env : En} {Sl : Nat → Addr → Prop} (R : REnv F H σ env Sl) (a : Ex F F') (b : Ex H H') (d : Ex F' H') (c : ∀ x o, F' x = some o → F x = some o ∨ H x = none) : REnv F' H' σ env Sl := by
  refine ⟨d, R.len, fun i o h => ?_, R.dj, fun i x h => ?_⟩
  · obtain ⟨v, e, w⟩ := R.at_ i o h
    exact ⟨v, e, w.ext a fun x u _ q => b x u q⟩
  · obtain ⟨h1, o, h2⟩ := R.tr i x h
    refine ⟨?_, o, b _ _ h2⟩
    cases q : F' x with
    | none => rfl
    | some u =>
      rcases c x u q with z | z
      · rw [h1] at z; cases z
      · rw [h2] at z; cases z

/-! ### what an expression gives: data, or the very list that a name holds -/
inductive P where | val (d : PyData) | var (i : Nat) | k (K : PySem.W.Frag) (xs : List Str)
def RP (F : Hp) (σ : L2.St) (v : V) : P → Prop
  | .val d => Rp F d v
  | .var i => σ[i]? = some (some v)
  | .k K xs => ∃ a, v = .ref a ∧ SqT K F a (xs.map V.str)
theorem RP.mono {F F' : Hp} {σ : L2.St} {v : V} {p : P} (e : Ex F F') (h : RP F σ v p) : RP F' σ v p := by
  cases p with
  | val d => exact Rp.mono e h
  | var i => exact h
  | k K xs => obtain ⟨a, q, h⟩ := h; exact ⟨a, q, ex_sqT e h⟩
def vw (env : En) : P → Option PyData
  | .val d => some d
  | .var i => match env[i]? with
    | some (some (.fz d)) => some d
    | some (some (.ow ds)) => some (.list ds)
    | some (some (.ow2 rows)) => some (.list (rows.map .list))
    | _ => none
  | .k _ _ => none
/-- a list whose items are fixed -/
def sq (env : En) : P → Option (List PyData)
  | .val (.list ds) => some ds
  | .var i => match env[i]? with
    | some (some (.fz (.list ds))) => some ds
    | some (some (.ow ds)) => some ds
    | _ => none
  | _ => none
theorem vw_rp {F H : Hp} {σ : L2.St} {env : En} {Sl : Nat → Addr → Prop} {v : V} {p : P} {d : PyData} (R : REnv F H σ env Sl) (h : RP F σ v p) (e : vw env p = some d) : Rp H d v := by
  cases p with
  | val d' =>
    have e' : some d' = some d := e
    cases e'
    exact Rp.mono R.ex h
  | var i =>
    simp only [vw] at e
    split at e
    · rename_i d' he
      cases e
      obtain ⟨v', e1, w⟩ := R.at_ i _ he
      rw [show σ[i]? = some (some v) from h] at e1
      cases e1
      exact Rp.mono R.ex w
    · rename_i ds he
      cases e
      obtain ⟨v', e1, a, vs, q, s, hH, r⟩ := R.at_ i _ he
      rw [show σ[i]? = some (some v) from h] at e1
      cases e1
      exact rp_list.mpr ⟨a, vs, q, hH, all_mono R.ex r⟩
    · rename_i rows he
      cases e
      obtain ⟨v', e1, a, rs, q, s, hH, n, nd, r⟩ := R.at_ i _ he
      rw [show σ[i]? = some (some v) from h] at e1
      cases e1
      refine rp_list.mpr ⟨a, _, q, hH, ?_⟩
      clear hH n nd s he h
      induction r with
      | nil => exact .nil
      | cons x t ih =>
        obtain ⟨_, vs, h1, h2⟩ := x
        exact .cons (rp_list.mpr ⟨_, vs, rfl, h1, all_mono R.ex h2⟩) ih
    · cases e
  | k K xs => cases e
theorem vw_dp {K : PySem.W.Frag} {F H : Hp} {σ : L2.St} {env : En} {Sl : Nat → Addr → Prop} {v : V} {p : P} {d : PyData} (R : REnv F H σ env Sl) (h : RP F σ v p) (e : vw env p = some d) (c : d.canLay0 = true) : Dp K H v d := Rp.dp (Ex.refl H) (vw_rp R h e) c
theorem sq_of {F H : Hp} {σ : L2.St} {env : En} {Sl : Nat → Addr → Prop} {v : V} {p : P} {ds : List PyData} (R : REnv F H σ env Sl) (h : RP F σ v p) (e : sq env p = some ds) : ∃ a vs, v = .ref a ∧ H a = some (.lst vs) ∧ All2 (Rp F) ds vs := by
  unfold sq at e
  split at e
  · cases e
    obtain ⟨a, vs, q, h1, h2⟩ := rp_list.mp h
    exact ⟨a, vs, q, R.ex _ _ h1, h2⟩
  · rename_i i
    split at e
    · rename_i ds' he
      cases e
      obtain ⟨v', e1, w⟩ := R.at_ i _ he
      rw [show σ[i]? = some (some v) from h] at e1
      cases e1
      obtain ⟨a, vs, q, h1, h2⟩ := rp_list.mp w
      exact ⟨a, vs, q, R.ex _ _ h1, h2⟩
    · rename_i ds' he
      cases e
      obtain ⟨v', e1, a, vs, q, s, hH, r⟩ := R.at_ i _ he
      rw [show σ[i]? = some (some v) from h] at e1
      cases e1
      exact ⟨a, vs, q, hH, r⟩
    · cases e
  · cases e
end Tr
namespace Tr
open PySem PySem.Spec PyProof.Rows L2

/-! ### a held list is let go: it never changes from now on -/
def fzP (env : En) : P → Option (PyData × En)
  | .val d => some (d, env)
  | .var i => match env[i]? with
    | some (some (.fz d)) => some (d, env)
    | some (some (.ow ds)) => some (.list ds, env.set i (some (.fz (.list ds))))
    | some (some (.ow2 rows)) => some (.list (rows.map .list), env.set i (some (.fz (.list (rows.map .list)))))
    | _ => none
  | .k _ _ => none
theorem set_at {α : Type} {l : List α} {i j : Nat} {a b : α} (h : (l.set i a)[j]? = some b) : (j = i ∧ b = a ∧ i < l.length) ∨ (j ≠ i ∧ l[j]? = some b) := by
  by_cases e : j = i
  · subst e
    rw [List.getElem?_set] at h
    simp only [if_true] at h
    split at h
    · rename_i hl
      exact .inl ⟨rfl, (Option.some.inj h).symm, hl⟩
    · cases h
  · rw [List.getElem?_set_ne (Ne.symm e)] at h
    exact .inr ⟨e, h⟩
open Classical in
/-- what the places at S hold is fixed -/
noncomputable def fixed (F H : Hp) (S : Addr → Prop) : Hp := fun b => if S b then H b else F b
theorem fixed_in {F H : Hp} {S : Addr → Prop} {b : Addr} (h : S b) : fixed F H S b = H b := by unfold fixed; rw [if_pos h]
theorem fixed_out {F H : Hp} {S : Addr → Prop} {b : Addr} (h : ¬ S b) : fixed F H S b = F b := by unfold fixed; rw [if_neg h]
/-- the data of a held thing, as a list that is let go -/
def O.dat : O → Option PyData
  | .fz d => some d
  | .ow ds => some (.list ds)
  | .ow2 rows => some (.list (rows.map .list))
  | .rg _ _ => none
  | .sc _ _ => none
  | .kt _ _ => none
  | .ob _ _ _ => none
  | .tp rows => some (.tuple (rows.map .list))
  | .dk _ => none
  | .dt _ => none
theorem Own.fix {F H : Hp} {o : O} {v : V} {S : Addr → Prop} {d : PyData} (h : Own F H o v S) (tr : ∀ a, S a → F a = none) (e : o.dat = some d) : Rp (fixed F H S) d v := by
  have ex : Ex F (fixed F H S) := fun a u q => by
    rw [fixed_out (fun z => by rw [tr a z] at q; cases q)]
    exact q
  cases o with
  | fz d' => cases e; exact Rp.mono ex h
  | rg _ _ => cases e
  | sc _ _ => cases e
  | kt _ _ => cases e
  | ow ds =>
    cases e
    obtain ⟨a, vs, q, s, hH, r⟩ := h
    exact rp_list.mpr ⟨a, vs, q, by rw [fixed_in s]; exact hH, all_mono ex r⟩
  | ow2 rows =>
    cases e
    obtain ⟨a, rs, q, s, hH, n, nd, r⟩ := h
    refine rp_list.mpr ⟨a, _, q, by rw [fixed_in s]; exact hH, ?_⟩
    clear hH n nd
    induction r with
    | nil => exact .nil
    | cons x t ih =>
      obtain ⟨s', vs, h1, h2⟩ := x
      exact .cons (rp_list.mpr ⟨_, vs, rfl, by rw [fixed_in s']; exact h1, all_mono ex h2⟩) ih
  | ob _ _ _ => cases e
  | dk _ => cases e
  | dt _ => cases e
  | tp rows =>
    cases e
    obtain ⟨a, rs, q, s, hH, n, nd, r⟩ := h
    refine rp_tuple.mpr ⟨a, _, q, by rw [fixed_in s]; exact hH, ?_⟩
    clear hH n nd
    induction r with
    | nil => exact .nil
    | cons x t ih =>
      obtain ⟨s', vs, h1, h2⟩ := x
      exact .cons (rp_list.mpr ⟨_, vs, rfl, by rw [fixed_in s']; exact h1, all_mono ex h2⟩) ih
/-- the set of the place i is let go -/
def lose (Sl : Nat → Addr → Prop) (i : Nat) : Nat → Addr → Prop := fun j a => j ≠ i ∧ Sl j a
theorem REnv.fix {F H : Hp} {σ : L2.St} {env : En} {Sl : Nat → Addr → Prop} {i : Nat} {o : O} {v : V} {d : PyData} (R : REnv F H σ env Sl) (hi : env[i]? = some (some o)) (hv : σ[i]? = some (some v))
    (e : o.dat = some d) :
    Step F H Sl (fixed F H (Sl i)) H (lose Sl i) ∧ REnv (fixed F H (Sl i)) H σ (env.set i (some (.fz d))) (lose Sl i) ∧ Rp (fixed F H (Sl i)) d v := by
  have ex : Ex F (fixed F H (Sl i)) := fun a u q => by
    rw [fixed_out (fun z => by rw [(R.tr i a z).1] at q; cases q)]
    exact q
  obtain ⟨v', e1, w⟩ := R.at_ i _ hi
  rw [hv] at e1
  cases e1
  have rp := w.fix (fun a s => (R.tr i a s).1) e
  refine ⟨⟨ex, fun _ _ h _ => h, fun _ _ h => ⟨_, h⟩, fun j b h => .inl h.2, fun b o h => ?_⟩, ⟨fun b u q => ?_, by rw [List.length_set]; exact R.len, fun j u h => ?_, fun j k a x y => R.dj j k a x.2 y.2, fun j a x => ?_⟩, rp⟩
  · by_cases z : Sl i b
    · exact .inr (.inr ⟨i, z⟩)
    · rw [fixed_out z] at h
      exact .inl h
  · by_cases z : Sl i b
    · rw [fixed_in z] at q
      exact q
    · rw [fixed_out z] at q
      exact R.ex _ _ q
  · rcases set_at h with ⟨rfl, e2, _⟩ | ⟨ne, h'⟩
    · cases e2
      exact ⟨v, hv, rp⟩
    · obtain ⟨v2, e2, w2⟩ := R.at_ j u h'
      exact ⟨v2, e2, (w2.ext ex fun _ _ _ q => q).sub fun a s => ⟨ne, s⟩⟩
  · obtain ⟨h1, h2⟩ := R.tr j a x.2
    refine ⟨?_, h2⟩
    rw [fixed_out fun z => x.1 (R.dj j i a x.2 z)]
    exact h1
theorem fz_ok {F H : Hp} {σ : L2.St} {env env' : En} {Sl : Nat → Addr → Prop} {v : V} {p : P} {d : PyData} (R : REnv F H σ env Sl) (h : RP F σ v p) (e : fzP env p = some (d, env')) :
    ∃ F' Sl', Step F H Sl F' H Sl' ∧ REnv F' H σ env' Sl' ∧ Rp F' d v := by
  cases p with
  | val d' =>
    simp only [fzP] at e
    cases e
    exact ⟨F, Sl, Step.refl, R, h⟩
  | var i =>
    have hv : σ[i]? = some (some v) := h
    simp only [fzP] at e
    split at e
    · rename_i d' he
      cases e
      obtain ⟨v', e1, w⟩ := R.at_ i _ he
      rw [hv] at e1
      cases e1
      exact ⟨F, Sl, Step.refl, R, w⟩
    · rename_i ds he
      cases e
      obtain ⟨a, b, c⟩ := R.fix he hv rfl
      exact ⟨_, _, a, b, c⟩
    · rename_i rows he
      cases e
      obtain ⟨a, b, c⟩ := R.fix he hv rfl
      exact ⟨_, _, a, b, c⟩
    · cases e
  | k K xs => cases e

/-! ### readings and plain functions -/
/-- a reading t keeps to the plain function m; pu: nothing is let go, nothing changes -/
def RG {ρ α : Type} (pu : Bool) (rel : Hp → L2.St → ρ → α → Prop) (t : L2.St → Hp → (ρ → Hp → Prop) → Prop) (m : En → Option (α × En)) : Prop :=
  ∀ F H σ env Sl, REnv F H σ env Sl → ∀ a env', m env = some (a, env') → ∀ Q : ρ → Hp → Prop, (∀ r F' H' Sl', Step F H Sl F' H' Sl' → (pu = true → env' = env ∧ Ex H H' ∧ Sl' = Sl) → REnv F' H' σ env' Sl' → rel F' σ r a → Q r H') → t σ H Q
def Mono {ρ α : Type} (rel : Hp → L2.St → ρ → α → Prop) : Prop := ∀ F F' σ r a, Ex F F' → rel F σ r a → rel F' σ r a
abbrev ME := En → Option (P × En)
abbrev MT := En → Option (Bool × En)
abbrev MA := En → Option (List P × En)
def relP : Hp → L2.St → V → P → Prop := RP
def relB : Hp → L2.St → Bool → Bool → Prop := fun _ _ b c => b = c
def relA : Hp → L2.St → List V → List P → Prop := fun F σ vs ps => All2 (fun p v => RP F σ v p) ps vs
theorem monoP : Mono relP := fun _ _ _ _ _ e h => RP.mono e h
theorem monoB : Mono relB := fun _ _ _ _ _ _ h => h
theorem monoA : Mono relA := fun _ _ _ _ _ e h => h.mono fun _ _ => RP.mono e
abbrev RE (pu : Bool) (t : TE) (m : ME) : Prop := RG pu relP t m
abbrev RT (pu : Bool) (t : TT) (m : MT) : Prop := RG pu relB t m
abbrev RA (pu : Bool) (t : TA) (m : MA) : Prop := RG pu relA t m
/-- one after the other -/
def bnd {α β : Type} (m : En → Option (α × En)) (k : α → En → Option (β × En)) : En → Option (β × En) := fun env => match m env with
  | some (a, e) => k a e
  | none => none
theorem bnd_of {α β : Type} {m : En → Option (α × En)} {k : α → En → Option (β × En)} {env e' : En} {b : β} (h : bnd m k env = some (b, e')) : ∃ a e, m env = some (a, e) ∧ k a e = some (b, e') := by
  unfold bnd at h
  split at h
  · rename_i a e he
    exact ⟨a, e, he, h⟩
  · cases h
theorem bnd_eq {α β : Type} {m : En → Option (α × En)} {k : α → En → Option (β × En)} {env e : En} {a : α} (h : m env = some (a, e)) : bnd m k env = k a e := by
  unfold bnd
  rw [h]
section
variable {ρ ρ' ρ'' α β γ : Type} {rel : Hp → L2.St → ρ → α → Prop} {rel' : Hp → L2.St → ρ' → β → Prop} {rel'' : Hp → L2.St → ρ'' → γ → Prop} {pu pv : Bool}
theorem pu_step {F H F1 H1 F2 H2 : Hp} {env e1 e2 : En} {Sl Sl1 Sl2 : Nat → Addr → Prop} (a : pu = true → e1 = env ∧ Ex H H1 ∧ Sl1 = Sl) (b : pv = true → e2 = e1 ∧ Ex H1 H2 ∧ Sl2 = Sl1) : (pu && pv) = true → e2 = env ∧ Ex H H2 ∧ Sl2 = Sl := fun h => by
  rw [Bool.and_eq_true] at h
  obtain ⟨a0, a1, a2⟩ := a h.1
  obtain ⟨b0, b1, b2⟩ := b h.2
  exact ⟨b0.trans a0, a1.trans b1, b2.trans a2⟩
/-- a last step that only adds new things -/
theorem rg_fin {t : L2.St → Hp → (ρ → Hp → Prop) → Prop} {k : ρ → Hp → (ρ' → Hp → Prop) → Prop} {m : En → Option (α × En)} {g : En → α → Option β} (h : RG pu rel t m)
    (hk : ∀ F H σ env Sl r a b, REnv F H σ env Sl → rel F σ r a → g env a = some b → ∀ Q : ρ' → Hp → Prop, (∀ v F' H', Ex F F' → Ex H H' → Ex F' H' → (∀ b o, F' b = some o → F b = some o ∨ H b = none) → rel' F' σ v b → Q v H') → k r H Q) :
    RG pu rel' (fun σ H Q => t σ H fun r H1 => k r H1 Q) (bnd m fun a e => (g e a).map fun b => (b, e)) := by
  intro F H σ env Sl R b env' e Q q
  obtain ⟨a, e1, h1, h2⟩ := bnd_of e
  cases h3 : g e1 a with
  | none => rw [h3] at h2; cases h2
  | some b' =>
    rw [h3] at h2
    cases h2
    refine h F H σ env Sl R a _ h1 _ fun r F1 H1 Sl1 s1 pu1 R1 r1 => ?_
    refine hk F1 H1 σ _ Sl1 r a _ R1 r1 h3 Q fun v F' H' x y z n rr => ?_
    refine q v F' H' Sl1 (s1.trans (Step.grow x y n)) (fun hp => ?_) (R1.grow x y z n) rr
    obtain ⟨x1, x2, x3⟩ := pu1 hp
    exact ⟨x1, x2.trans y, x3⟩
/-- a pair, from the left -/
theorem rg_pair {t : L2.St → Hp → (ρ → Hp → Prop) → Prop} {u : L2.St → Hp → (ρ' → Hp → Prop) → Prop} {m : En → Option (α × En)} {n : En → Option (β × En)} (h : RG pu rel t m) (h' : RG pv rel' u n) (mo : Mono rel) :
    RG (pu && pv) (fun F σ (r : ρ × ρ') (a : α × β) => rel F σ r.1 a.1 ∧ rel' F σ r.2 a.2) (fun σ H Q => t σ H fun x H1 => u σ H1 fun y H2 => Q (x, y) H2) (bnd m fun a e => bnd n (fun b e2 => some ((a, b), e2)) e) := by
  intro F H σ env Sl R ab env' e Q q
  obtain ⟨a, e1, h1, h2⟩ := bnd_of e
  obtain ⟨b, e2, h3, h4⟩ := bnd_of h2
  cases h4
  refine h F H σ env Sl R a _ h1 _ fun r F1 H1 Sl1 s1 pu1 R1 r1 => ?_
  refine h' F1 H1 σ e1 Sl1 R1 b _ h3 _ fun r' F2 H2 Sl2 s2 pu2 R2 r2 => ?_
  exact q (r, r') F2 H2 Sl2 (s1.trans s2) (pu_step (F := F) (F1 := F1) (F2 := F2) pu1 pu2) R2 ⟨mo _ _ _ _ _ s2.exF r1, r2⟩
end
section
variable {pu pv : Bool} {t u ta tb : TE} {m ma mb : ME}
/-- a name -/
def mVar (i : Nat) : ME := fun env => match env[i]? with
  | some (some (.fz d)) => some (.val d, env)
  | some (some (.ow _)) => some (.var i, env)
  | some (some (.ow2 _)) => some (.var i, env)
  | some (some (.ob _ _ _)) => some (.var i, env)
  | some (some (.kt K xs)) => some (.k K xs, env)
  | _ => none
theorem re_var {i : Nat} : RE true (tVar i) (mVar i) := by
  intro F H σ env Sl R p env' e Q q
  unfold mVar at e
  split at e
  · rename_i d he
    cases e
    obtain ⟨v, e1, w⟩ := R.at_ i _ he
    exact ⟨v, e1, q v F H Sl Step.refl (fun _ => ⟨rfl, Ex.refl H, rfl⟩) R w⟩
  · rename_i ds he
    cases e
    obtain ⟨v, e1, w⟩ := R.at_ i _ he
    exact ⟨v, e1, q v F H Sl Step.refl (fun _ => ⟨rfl, Ex.refl H, rfl⟩) R e1⟩
  · rename_i ds he
    cases e
    obtain ⟨v, e1, w⟩ := R.at_ i _ he
    exact ⟨v, e1, q v F H Sl Step.refl (fun _ => ⟨rfl, Ex.refl H, rfl⟩) R e1⟩
  · rename_i he
    cases e
    obtain ⟨v, e1, w⟩ := R.at_ i _ he
    exact ⟨v, e1, q v F H Sl Step.refl (fun _ => ⟨rfl, Ex.refl H, rfl⟩) R e1⟩
  · rename_i K xs he
    cases e
    obtain ⟨v, e1, w⟩ := R.at_ i _ he
    exact ⟨v, e1, q v F H Sl Step.refl (fun _ => ⟨rfl, Ex.refl H, rfl⟩) R w⟩
  · cases e
/-- a constant -/
def mC (d : PyData) : ME := fun env => some (.val d, env)
theorem re_c {v : V} {d : PyData} (h : ∀ F, Rp F d v) : RE true (tC v) (mC d) := by
  intro F H σ env Sl R p env' e Q q
  cases e
  exact q v F H Sl Step.refl (fun _ => ⟨rfl, Ex.refl H, rfl⟩) R (h F)
theorem re_int {i : Int} : RE true (tC (.int i)) (mC (.int i)) := re_c fun _ => rfl
theorem re_bl {b : Bool} : RE true (tC (.bl b)) (mC (.bool b)) := re_c fun _ => rfl
theorem re_str {x : Str} : RE true (tC (.str x)) (mC (.str x)) := re_c fun _ => rfl
theorem re_non : RE true (tC .non) (mC .none) := re_c fun _ => rfl

/-- a plain function of two operands -/
def mBin (g : En → P → P → Option P) (ma mb : ME) : ME := bnd ma fun p e => bnd mb (fun q e2 => (g e2 p q).map fun r => (r, e2)) e
def BinK (k : V → V → Hp → VK → Prop) (g : En → P → P → Option P) : Prop := ∀ F H σ env Sl x y p1 p2 p, REnv F H σ env Sl → RP F σ x p1 → RP F σ y p2 → g env p1 p2 = some p → ∀ Q : VK,
  (∀ v F' H', Ex F F' → Ex H H' → Ex F' H' → (∀ b o, F' b = some o → F b = some o ∨ H b = none) → RP F' σ v p → Q v H') → k x y H Q
theorem re_bin {k : V → V → Hp → VK → Prop} {g : En → P → P → Option P} (ha : RE pu ta ma) (hb : RE pv tb mb) (hk : BinK k g) : RE (pu && pv) (tOp k ta tb) (mBin g ma mb) := by
  have h := rg_fin (rel' := relP) (k := fun r H Q => k r.1 r.2 H Q) (g := fun env (ab : P × P) => g env ab.1 ab.2) (rg_pair ha hb monoP) (fun F H σ env Sl r a b R rr e Q q => hk F H σ env Sl r.1 r.2 a.1 a.2 b R rr.1 rr.2 e Q q)
  intro F H σ env Sl R p env' e
  refine h F H σ env Sl R p env' ?_
  unfold mBin at e
  obtain ⟨a, e1, h1, h2⟩ := bnd_of e
  obtain ⟨b, e2, h3, h4⟩ := bnd_of h2
  rw [bnd_eq (a := (a, b)) (e := e2) (by rw [bnd_eq h1, bnd_eq h3])]
  exact h4
def mUn (g : En → P → Option P) (ma : ME) : ME := bnd ma fun p e => (g e p).map fun r => (r, e)
def UnK (k : V → Hp → VK → Prop) (g : En → P → Option P) : Prop := ∀ F H σ env Sl x p1 p, REnv F H σ env Sl → RP F σ x p1 → g env p1 = some p → ∀ Q : VK,
  (∀ v F' H', Ex F F' → Ex H H' → Ex F' H' → (∀ b o, F' b = some o → F b = some o ∨ H b = none) → RP F' σ v p → Q v H') → k x H Q
theorem re_un {k : V → Hp → VK → Prop} {g : En → P → Option P} (ha : RE pu ta ma) (hk : UnK k g) : RE pu (tUn k ta) (mUn g ma) := rg_fin (rel := relP) (rel' := relP) (k := k) ha hk
def mFn (g : En → List P → Option P) (ma : MA) : ME := bnd ma fun p e => (g e p).map fun r => (r, e)
def FnK (k : List V → Hp → VK → Prop) (g : En → List P → Option P) : Prop := ∀ F H σ env Sl xs ps p, REnv F H σ env Sl → relA F σ xs ps → g env ps = some p → ∀ Q : VK,
  (∀ v F' H', Ex F F' → Ex H H' → Ex F' H' → (∀ b o, F' b = some o → F b = some o ∨ H b = none) → RP F' σ v p → Q v H') → k xs H Q
theorem re_fn {k : List V → Hp → VK → Prop} {g : En → List P → Option P} {ta : TA} {ma : MA} (ha : RA pu ta ma) (hk : FnK k g) : RE pu (tCB k ta) (mFn g ma) := rg_fin (rel := relA) (rel' := relP) (k := k) ha hk
/-! arguments -/
def mNil : MA := fun env => some ([], env)
theorem ra_nil : RA true tNil mNil := by
  intro F H σ env Sl R p env' e Q q
  cases e
  exact q [] F H Sl Step.refl (fun _ => ⟨rfl, Ex.refl H, rfl⟩) R .nil
def mCons (ma : ME) (mb : MA) : MA := bnd ma fun p e => bnd mb (fun ps e2 => some (p :: ps, e2)) e
theorem ra_cons {tr : TA} {mr : MA} (ha : RE pu ta ma) (hb : RA pv tr mr) : RA (pu && pv) (tCons ta tr) (mCons ma mr) := by
  intro F H σ env Sl R ps env' e Q q
  obtain ⟨a, e1, h1, h2⟩ := bnd_of e
  obtain ⟨b, e2, h3, h4⟩ := bnd_of h2
  cases h4
  refine ha F H σ env Sl R a _ h1 _ fun r F1 H1 Sl1 s1 pu1 R1 r1 => ?_
  refine hb F1 H1 σ e1 Sl1 R1 b _ h3 _ fun r' F2 H2 Sl2 s2 pu2 R2 r2 => ?_
  exact q (r :: r') F2 H2 Sl2 (s1.trans s2) (pu_step (F := F) (F1 := F1) (F2 := F2) pu1 pu2) R2 (.cons (r1.mono s2.exF) r2)
end
end Tr
namespace Tr
open PySem PySem.Spec PyProof.Rows L2

/-! ### whole numbers -/
def gI (C : Int → Int → Bool) (f : Int → Int → PyData) : En → P → P → Option P
  | _, .val (.int i), .val (.int j) => if C i j then some (.val (f i j)) else none
  | _, _, _ => none
def gI0 (f : Int → Int → PyData) : En → P → P → Option P
  | _, .val (.int i), .val (.int j) => some (.val (f i j))
  | _, _, _ => none
theorem pr_val {F : Hp} {σ : L2.St} {v : V} {d : PyData} (h : RP F σ v (.val d)) : Rp F d v := h
theorem rp_int {F : Hp} {i : Int} {v : V} (h : Rp F (.int i) v) : v = .int i := h
theorem pint {F : Hp} {σ : L2.St} {i : Int} {v : V} (h : RP F σ v (.val (.int i))) : v = .int i := h
theorem pbool {F : Hp} {σ : L2.St} {i : Bool} {v : V} (h : RP F σ v (.val (.bool i))) : v = .bl i := h
theorem pstr {F : Hp} {σ : L2.St} {i : Str} {v : V} (h : RP F σ v (.val (.str i))) : v = .str i := h
theorem pnone {F : Hp} {σ : L2.St} {v : V} (h : RP F σ v (.val .none)) : v = .non := h
def isN : PyData → Bool
  | .none => true
  | _ => false
theorem rp_bool {F : Hp} {b : Bool} {v : V} (h : Rp F (.bool b) v) : v = .bl b := h
theorem rp_str {F : Hp} {x : Str} {v : V} (h : Rp F (.str x) v) : v = .str x := h
theorem rp_none {F : Hp} {v : V} (h : Rp F .none v) : v = .non := h
theorem bin_I {C : Int → Int → Prop} {D : Int → Int → Bool} {g : Int → Int → V} {f : Int → Int → PyData} (hc : ∀ i j, D i j = true → C i j) (hf : ∀ i j F, Rp F (f i j) (g i j)) : BinK (rI C g) (gI D f) := by
  intro F H σ env Sl x y p1 p2 p R h1 h2 e Q q
  unfold gI at e
  split at e
  · rename_i i j
    split at e
    · rename_i hd
      cases e
      exact ⟨i, j, pint h1, pint h2, hc i j hd, q _ F H (Ex.refl F) (Ex.refl H) R.ex (fun _ _ z => .inl z) (hf i j F)⟩
    · cases e
  · cases e
theorem bin_I0 {g : Int → Int → V} {f : Int → Int → PyData} (hf : ∀ i j F, Rp F (f i j) (g i j)) : BinK (rI0 g) (gI0 f) := by
  intro F H σ env Sl x y p1 p2 p R h1 h2 e Q q
  unfold gI0 at e
  split at e
  · rename_i i j
    cases e
    exact ⟨i, j, pint h1, pint h2, q _ F H (Ex.refl F) (Ex.refl H) R.ex (fun _ _ z => .inl z) (hf i j F)⟩
  · cases e
theorem b_add : BinK (rI0 fun i j => .int (i + j)) (gI0 fun i j => .int (i + j)) := bin_I0 fun _ _ _ => rfl
theorem b_sub : BinK (rI0 fun i j => .int (i - j)) (gI0 fun i j => .int (i - j)) := bin_I0 fun _ _ _ => rfl
theorem b_mul : BinK (rI CMulW fun i j => .int (i * j)) (gI (fun i j => decide (i.natAbs.log2 + j.natAbs.log2 < 1000000)) fun i j => .int (i * j)) := bin_I (fun i j h => show i.natAbs.log2 + j.natAbs.log2 < 1000000 from of_decide_eq_true h) fun _ _ _ => rfl
theorem b_fdiv : BinK (rI CDivN fun i j => .int (i.fdiv j)) (gI (fun _ j => decide (j ≠ 0 ∧ j.natAbs < 1073741824)) fun i j => .int (i.fdiv j)) := bin_I (fun _ j h => show j ≠ 0 ∧ j.natAbs < 1073741824 from of_decide_eq_true h) fun _ _ _ => rfl
theorem b_mod : BinK (rI (fun _ j => j ≠ 0) fun i j => .int (i.fmod j)) (gI (fun _ j => decide (j ≠ 0)) fun i j => .int (i.fmod j)) := bin_I (fun _ _ h => of_decide_eq_true h) fun _ _ _ => rfl
theorem b_lt : BinK (rI0 fun i j => .bl (decide (i < j))) (gI0 fun i j => .bool (decide (i < j))) := bin_I0 fun _ _ _ => rfl
theorem b_le : BinK (rI0 fun i j => .bl (decide (i ≤ j))) (gI0 fun i j => .bool (decide (i ≤ j))) := bin_I0 fun _ _ _ => rfl
theorem b_gt : BinK (rI0 fun i j => .bl (decide (j < i))) (gI0 fun i j => .bool (decide (j < i))) := bin_I0 fun _ _ _ => rfl
theorem b_ge : BinK (rI0 fun i j => .bl (decide (j ≤ i))) (gI0 fun i j => .bool (decide (j ≤ i))) := bin_I0 fun _ _ _ => rfl
/-! ### ==, != of data -/
def gEq (neg : Bool) : En → P → P → Option P := fun env p q => match vw env p, vw env q with
  | some d, some e => if SeqAt.shaped d && SeqAt.shaped e then some (.val (.bool (neg ^^ PyData.eqv d e))) else none
  | _, _ => none
theorem b_eq {K : PySem.W.Frag} : BinK (rEqD K) (gEq false) := by
  intro F H σ env Sl x y p1 p2 p R h1 h2 e Q q
  unfold gEq at e
  split at e
  · rename_i d d' e1 e2
    split at e
    · rename_i hs
      cases e
      rw [Bool.and_eq_true] at hs
      exact ⟨d, d', vw_dp R h1 e1 (SeqAt.canLay_of_shaped hs.1), vw_dp R h2 e2 (SeqAt.canLay_of_shaped hs.2), hs.1, hs.2, q _ F H (Ex.refl F) (Ex.refl H) R.ex (fun _ _ z => .inl z) (by show V.bl _ = V.bl _; rw [Bool.false_xor])⟩
    · cases e
  · cases e
theorem b_ne {K : PySem.W.Frag} : BinK (rNeD K) (gEq true) := by
  intro F H σ env Sl x y p1 p2 p R h1 h2 e Q q
  unfold gEq at e
  split at e
  · rename_i d d' e1 e2
    split at e
    · rename_i hs
      cases e
      rw [Bool.and_eq_true] at hs
      exact ⟨d, d', vw_dp R h1 e1 (SeqAt.canLay_of_shaped hs.1), vw_dp R h2 e2 (SeqAt.canLay_of_shaped hs.2), hs.1, hs.2, q _ F H (Ex.refl F) (Ex.refl H) R.ex (fun _ _ z => .inl z) (by show V.bl _ = V.bl _; rw [Bool.true_xor])⟩
    · cases e
  · cases e
/-! ### x is None -/
def gIsN (neg : Bool) : En → P → P → Option P
  | _, .val d, .val .none => some (.val (.bool (neg ^^ isN d)))
  | _, _, _ => none
theorem rp_isn {F : Hp} {d : PyData} {v : V} (h : Rp F d v) : decide (v = .non) = isN d := by
  cases d with
  | none => rw [rp_none h]; rfl
  | bool b => rw [rp_bool h]; rfl
  | int b => rw [rp_int h]; rfl
  | str b => rw [rp_str h]; rfl
  | list ds => obtain ⟨a, vs, rfl, _⟩ := h; rfl
  | tuple ds => obtain ⟨a, vs, rfl, _⟩ := h; rfl
  | dict _ => obtain ⟨_, a, rfl, _⟩ := h; rfl
theorem b_isN : BinK (fun x y H Q => y = .non ∧ Q (.bl (decide (x = .non))) H) (gIsN false) := by
  intro F H σ env Sl x y p1 p2 p R h1 h2 e Q q
  unfold gIsN at e
  split at e
  · cases e
    refine ⟨pnone h2, q _ F H (Ex.refl F) (Ex.refl H) R.ex (fun _ _ z => .inl z) ?_⟩
    show V.bl _ = V.bl _
    rw [Bool.false_xor, rp_isn (pr_val h1)]
  · cases e
theorem b_notN : BinK (fun x y H Q => y = .non ∧ Q (.bl (!decide (x = .non))) H) (gIsN true) := by
  intro F H σ env Sl x y p1 p2 p R h1 h2 e Q q
  unfold gIsN at e
  split at e
  · cases e
    refine ⟨pnone h2, q _ F H (Ex.refl F) (Ex.refl H) R.ex (fun _ _ z => .inl z) ?_⟩
    show V.bl _ = V.bl _
    rw [Bool.true_xor, rp_isn (pr_val h1)]
  · cases e
/-! ### an item, a cut -/
/-- a list's or a tuple's fixed items -/
def sqT (env : En) : P → Option (List PyData)
  | .val (.tuple ds) => some ds
  | p => sq env p
theorem ixN_len {α β : Type} {as : List α} {bs : List β} (h : as.length = bs.length) (i : Int) : ixN as.length i = ixN bs.length i := by rw [h]
theorem atI_all {α β : Type} {R : α → β → Prop} {as : List α} {bs : List β} {i : Int} {a : α} (h : All2 R as bs) (e : atI as i = some a) : ∃ b, atI bs i = some b ∧ R a b := by
  unfold atI at e ⊢
  rw [← ixN_len h.len]
  cases q : ixN as.length i with
  | none => rw [q] at e; cases e
  | some j =>
    rw [q] at e
    exact h.get e
def gIx : En → P → P → Option P := fun env p q => match p, q with
  | .val (.str z), .val (.int i) => if z.length ≤ sizeLine then (atI z.cps.toList i).map fun c => .val (.str ⟨#[c]⟩) else none
  | p, .val (.int i) => (sqT env p).bind fun ds => (atI ds i).map .val
  | _, _ => none
theorem b_ix {K : PySem.W.Frag} : BinK (rIx K) gIx := by
  intro F H σ env Sl x y p1 p2 p R h1 h2 e Q q
  unfold gIx at e
  split at e
  · rename_i z i
    split at e
    · rename_i hz
      cases h3 : atI z.cps.toList i with
      | none => rw [h3] at e; cases e
      | some c =>
        rw [h3] at e
        cases e
        exact .inr (.inr ⟨z, i, c, pstr h1, pint h2, hz, h3, q _ F H (Ex.refl F) (Ex.refl H) R.ex (fun _ _ z => .inl z) rfl⟩)
    · cases e
  · rename_i i _
    cases h3 : sqT env p1 with
    | none => rw [h3] at e; cases e
    | some ds =>
      rw [h3] at e
      cases h4 : atI ds i with
      | none => simp only [Option.bind_some, h4] at e; cases e
      | some d =>
        simp only [Option.bind_some, h4, Option.map_some] at e
        cases e
        unfold sqT at h3
        split at h3
        · cases h3
          obtain ⟨a, vs, rfl, hH, r⟩ := rp_tuple.mp (pr_val h1)
          obtain ⟨v, hv, rv⟩ := atI_all r h4
          exact .inr (.inl ⟨a, vs, i, v, rfl, pint h2, SqT.of (R.ex _ _ hH), hv, q _ F H (Ex.refl F) (Ex.refl H) R.ex (fun _ _ z => .inl z) rv⟩)
        · obtain ⟨a, vs, rfl, hH, r⟩ := sq_of R h1 h3
          obtain ⟨v, hv, rv⟩ := atI_all r h4
          exact .inl ⟨a, vs, i, v, rfl, pint h2, SqL.of hH, hv, q _ F H (Ex.refl F) (Ex.refl H) R.ex (fun _ _ z => .inl z) rv⟩
  · cases e
/-- what comes new is fixed at once, or held -/
theorem new_lst {F H : Hp} {p : Addr} {vs : List V} {ds : List PyData} (ex : Ex F H) (hp : H p = none) (r : All2 (Rp F) ds vs) :
    Ex F (upd F p (.lst vs)) ∧ Ex H (upd H p (.lst vs)) ∧ Ex (upd F p (.lst vs)) (upd H p (.lst vs)) ∧ (∀ b o, upd F p (.lst vs) b = some o → F b = some o ∨ H b = none) ∧ Rp (upd F p (.lst vs)) (.list ds) (.ref p) := by
  have fp := ex.none hp
  refine ⟨Ex.new fp, Ex.new hp, fun b o h => ?_, fun b o h => ?_, rp_list.mpr ⟨p, vs, rfl, upd_same, all_mono (Ex.new fp) r⟩⟩
  · by_cases e : b = p
    · subst e; rw [upd_same] at h ⊢; exact h
    · rw [upd_ne e] at h ⊢; exact ex _ _ h
  · by_cases e : b = p
    · subst e; exact .inr hp
    · rw [upd_ne e] at h; exact .inl h
theorem new_tup {F H : Hp} {p : Addr} {vs : List V} {ds : List PyData} (ex : Ex F H) (hp : H p = none) (r : All2 (Rp F) ds vs) :
    Ex F (upd F p (.tup vs)) ∧ Ex H (upd H p (.tup vs)) ∧ Ex (upd F p (.tup vs)) (upd H p (.tup vs)) ∧ (∀ b o, upd F p (.tup vs) b = some o → F b = some o ∨ H b = none) ∧ Rp (upd F p (.tup vs)) (.tuple ds) (.ref p) := by
  have fp := ex.none hp
  refine ⟨Ex.new fp, Ex.new hp, fun b o h => ?_, fun b o h => ?_, rp_tuple.mpr ⟨p, vs, rfl, upd_same, all_mono (Ex.new fp) r⟩⟩
  · by_cases e : b = p
    · subst e; rw [upd_same] at h ⊢; exact h
    · rw [upd_ne e] at h ⊢; exact ex _ _ h
  · by_cases e : b = p
    · subst e; exact .inr hp
    · rw [upd_ne e] at h; exact .inl h
/-! a reading that ends in one new list -/
def RL (pu : Bool) (t : L2.St → Hp → (V → Hp → Prop) → Prop) (m : En → Option (List PyData × En)) : Prop :=
  ∀ F H σ env Sl, REnv F H σ env Sl → ∀ ds env', m env = some (ds, env') → ∀ Q : VK, (∀ p vs F' H' Sl', Step F H Sl F' H' Sl' → (pu = true → env' = env ∧ Ex H H' ∧ Sl' = Sl) → REnv F' H' σ env' Sl' → All2 (Rp F') ds vs → H' p = none → Q (.ref p) (upd H' p (.lst vs))) → t σ H Q
end Tr
namespace Tr
open PySem PySem.Spec PyProof.Rows L2
abbrev ML := En → Option (List PyData × En)
abbrev MO := En → Option (O × En)
/-- what a new thing is: of its own, apart from all that the names hold -/
structure New (F H0 H : Hp) (Sl : Nat → Addr → Prop) (o : O) (v : V) (T : Addr → Prop) : Prop where
  own : Own F H o v T
  dj : ∀ i a, T a → ¬ Sl i a
  tr : ∀ a, T a → F a = none ∧ ∃ u, H a = some u
  nw : ∀ a, T a → H0 a = none
def RO (t : TE) (m : MO) : Prop := ∀ F H σ env Sl, REnv F H σ env Sl → ∀ o env', m env = some (o, env') →
  ∀ Q : VK, (∀ v F' H' Sl' T, Step F H Sl F' H' Sl' → REnv F' H' σ env' Sl' → New F' H H' Sl' o v T → Q v H') → t σ H Q
def mLE (m : ML) : ME := bnd m fun ds e => some (.val (.list ds), e)
def mLO (m : ML) : MO := bnd m fun ds e => some (.ow ds, e)
theorem Step.tkb {F H F' H' : Hp} {Sl Sl' : Nat → Addr → Prop} (s : Step F H Sl F' H' Sl') {p : Addr} (h : H' p = none) : H p = none := by
  cases q : H p with
  | none => rfl
  | some o => obtain ⟨o', e⟩ := s.tk p o q; rw [e] at h; cases h
theorem re_l {pu : Bool} {t : TE} {m : ML} (h : RL pu t m) : RE pu t (mLE m) := by
  intro F H σ env Sl R p env' e Q q
  obtain ⟨ds, e1, h1, h2⟩ := bnd_of e
  cases h2
  refine h F H σ env Sl R ds _ h1 Q fun p vs F1 H1 Sl1 s1 pu1 R1 r np => ?_
  obtain ⟨x, y, z, n, rr⟩ := new_lst R1.ex np r
  refine q _ _ _ Sl1 (s1.trans (Step.grow x y n)) (fun hp => ?_) (R1.grow x y z n) rr
  obtain ⟨a, b, c⟩ := pu1 hp
  exact ⟨a, b.trans y, c⟩
theorem ro_l {pu : Bool} {t : TE} {m : ML} (h : RL pu t m) : RO t (mLO m) := by
  intro F H σ env Sl R o env' e Q q
  obtain ⟨ds, e1, h1, h2⟩ := bnd_of e
  cases h2
  refine h F H σ env Sl R ds _ h1 Q fun p vs F1 H1 Sl1 s1 pu1 R1 r np => ?_
  have ex : Ex H1 (upd H1 p (.lst vs)) := Ex.new np
  have n : ∀ b o, F1 b = some o → F1 b = some o ∨ H1 b = none := fun _ _ z => .inl z
  refine q _ F1 _ Sl1 (fun a => a = p) (s1.trans (Step.grow (Ex.refl F1) ex n)) (R1.grow (Ex.refl F1) ex (R1.ex.trans ex) n) ⟨⟨p, vs, rfl, rfl, upd_same, r⟩, fun i a e s => ?_, fun a e => ?_, fun a e => ?_⟩
  · subst e
    obtain ⟨_, o, z⟩ := R1.tr i a s
    rw [np] at z
    cases z
  · subst e
    exact ⟨R1.ex.none np, _, upd_same⟩
  · subst e
    exact s1.tkb np
/-- a plain function of two operands that makes a list -/
def mBinL (g : En → P → P → Option (List PyData)) (ma mb : ME) : ML := bnd ma fun p e => bnd mb (fun q e2 => (g e2 p q).map fun r => (r, e2)) e
def BinL (k : V → V → Hp → VK → Prop) (g : En → P → P → Option (List PyData)) : Prop := ∀ F H σ env Sl x y p1 p2 ds, REnv F H σ env Sl → RP F σ x p1 → RP F σ y p2 → g env p1 p2 = some ds → ∀ Q : VK,
  (∀ p vs, All2 (Rp F) ds vs → H p = none → Q (.ref p) (upd H p (.lst vs))) → k x y H Q
theorem rl_bin {pu pv : Bool} {ta tb : TE} {ma mb : ME} {k : V → V → Hp → VK → Prop} {g : En → P → P → Option (List PyData)} (ha : RE pu ta ma) (hb : RE pv tb mb) (hk : BinL k g) : RL (pu && pv) (tOp k ta tb) (mBinL g ma mb) := by
  intro F H σ env Sl R ds env' e Q q
  obtain ⟨a, e1, h1, h2⟩ := bnd_of e
  obtain ⟨b, e2, h3, h4⟩ := bnd_of h2
  cases h5 : g e2 a b with
  | none => rw [h5] at h4; cases h4
  | some ds' =>
    rw [h5] at h4
    cases h4
    refine ha F H σ env Sl R a _ h1 _ fun r F1 H1 Sl1 s1 pu1 R1 r1 => ?_
    refine hb F1 H1 σ e1 Sl1 R1 b _ h3 _ fun r' F2 H2 Sl2 s2 pu2 R2 r2 => ?_
    exact hk F2 H2 σ _ Sl2 r r' a b ds R2 (r1.mono s2.exF) r2 h5 Q fun p vs rr np => q p vs F2 H2 Sl2 (s1.trans s2) (pu_step (F := F) (F1 := F1) (F2 := F2) pu1 pu2) R2 rr np
def gCat : En → P → P → Option (List PyData) := fun env p q => match sq env p, sq env q with
  | some a, some b => if a.length + b.length ≤ sizeLine then some (a ++ b) else none
  | _, _ => none
theorem b_cat : BinL rCat gCat := by
  intro F H σ env Sl x y p1 p2 ds R h1 h2 e Q q
  unfold gCat at e
  split at e
  · rename_i a b ea eb
    split at e
    · rename_i hz
      cases e
      obtain ⟨l, vs, rfl, hl, r1⟩ := sq_of R h1 ea
      obtain ⟨l2, vs2, rfl, hl2, r2⟩ := sq_of R h2 eb
      exact ⟨l, l2, vs, vs2, rfl, rfl, hl, hl2, by rw [← r1.len, ← r2.len]; exact hz, fun p np => q p _ (r1.app r2) np⟩
    · cases e
  · cases e
def gRep : En → P → P → Option (List PyData) := fun env p q => match sq env p, q with
  | some a, .val (.int k) => if -(2 ^ 63) ≤ k ∧ k < 2 ^ 63 ∧ a.length * k.toNat ≤ sizeLine then some (List.replicate k.toNat a).flatten else none
  | _, _ => none
theorem b_rep : BinL rRep gRep := by
  intro F H σ env Sl x y p1 p2 ds R h1 h2 e Q q
  unfold gRep at e
  split at e
  · rename_i a k ea
    split at e
    · rename_i hz
      cases e
      obtain ⟨l, vs, rfl, hl, r1⟩ := sq_of R h1 ea
      exact ⟨l, k, vs, rfl, pint h2, hl, hz.1, hz.2.1, by rw [← r1.len]; exact hz.2.2, fun p np => q p _ (r1.rep _) np⟩
    · cases e
  · cases e
/-! ### a cut -/
abbrev MP := En → Option (Option Int × En)
def relO : Hp → L2.St → Option Int → Option Int → Prop := fun _ _ a b => a = b
abbrev RQ (pu : Bool) (t : TO) (m : MP) : Prop := RG pu relO t m
def mNoPart : MP := fun env => some (none, env)
theorem rq_none : RQ true tNoPart mNoPart := by
  intro F H σ env Sl R p env' e Q q
  cases e
  exact q _ F H Sl Step.refl (fun _ => ⟨rfl, Ex.refl H, rfl⟩) R rfl
def gPart : P → Option (Option Int)
  | .val (.int i) => some (some i)
  | _ => none
def mPart (ma : ME) : MP := bnd ma fun p e => (gPart p).map fun r => (r, e)
theorem rq_some {pu : Bool} {te : TE} {me : ME} (h : RE pu te me) : RQ pu (tPart te) (mPart me) :=
  rg_fin (rel := relP) (rel' := relO) (k := fun x H Q => ∃ i, x = .int i ∧ Q (some i) H) (g := fun _ p => gPart p) h fun F H σ env Sl r a b R rr e Q q => by
    unfold gPart at e
    split at e
    · cases e
      exact ⟨_, pint rr, q _ F H (Ex.refl F) (Ex.refl H) R.ex (fun _ _ z => .inl z) rfl⟩
    · cases e
def cutD (ds : List PyData) (lo hi : Option Int) : List PyData := (ds.drop (HT.sIx ds.length 0 lo)).take (HT.sIx ds.length ds.length hi - HT.sIx ds.length 0 lo)
def mSl (ma : ME) (ml mh : MP) : ML := bnd ma fun p e => bnd ml (fun lo e2 => bnd mh (fun hi e3 => (sq e3 p).map fun ds => (cutD ds lo hi, e3)) e2) e
theorem rl_sl {K : PySem.W.Frag} {pu pv pw : Bool} {te : TE} {tl th : TO} {me : ME} {ml mh : MP} (he : RE pu te me) (hl : RQ pv tl ml) (hh : RQ pw th mh) : RL (pu && pv && pw) (tSl (rSlL K) te tl th) (mSl me ml mh) := by
  intro F H σ env Sl R ds env' e Q q
  obtain ⟨p, e1, h1, h2⟩ := bnd_of e
  obtain ⟨lo, e2, h3, h4⟩ := bnd_of h2
  obtain ⟨hi, e3, h5, h6⟩ := bnd_of h4
  cases h7 : sq e3 p with
  | none => rw [h7] at h6; cases h6
  | some ds' =>
    rw [h7] at h6
    cases h6
    refine he F H σ env Sl R p _ h1 _ fun r F1 H1 Sl1 s1 pu1 R1 r1 => ?_
    refine hl F1 H1 σ e1 Sl1 R1 lo _ h3 _ fun r' F2 H2 Sl2 s2 pu2 R2 r2 => ?_
    cases r2
    refine hh F2 H2 σ e2 Sl2 R2 hi _ h5 _ fun r'' F3 H3 Sl3 s3 pu3 R3 r3 => ?_
    cases r3
    obtain ⟨a, vs, rfl, hH, rr⟩ := sq_of R3 (r1.mono (s2.exF.trans s3.exF)) h7
    refine ⟨a, vs, rfl, SqL.of hH, fun b nb => ?_⟩
    refine q b _ F3 H3 Sl3 (s1.trans (s2.trans s3)) (pu_step (F := F) (F1 := F2) (F2 := F3) (pu_step (F := F) (F1 := F1) (F2 := F2) pu1 pu2) pu3) R3 ?_ nb
    unfold cutD cutV
    rw [rr.len]
    exact (rr.drop _).take _
/-! ### displays -/
def fzPs (env : En) : List P → Option (List PyData × En)
  | [] => some ([], env)
  | p :: ps => match fzP env p with
    | some (d, e1) => match fzPs e1 ps with
      | some (ds, e2) => some (d :: ds, e2)
      | none => none
    | none => none
theorem fzPs_ok {H : Hp} {σ : L2.St} : ∀ {ps : List P} {F : Hp} {env env' : En} {Sl : Nat → Addr → Prop} {vs : List V} {ds : List PyData}, REnv F H σ env Sl → relA F σ vs ps → fzPs env ps = some (ds, env') →
    ∃ F' Sl', Step F H Sl F' H Sl' ∧ REnv F' H σ env' Sl' ∧ All2 (Rp F') ds vs
  | [], F, env, env', Sl, vs, ds, R, h, e => by
    cases e
    cases h
    exact ⟨F, Sl, Step.refl, R, .nil⟩
  | p :: ps, F, env, env', Sl, vs, ds, R, h, e => by
    unfold fzPs at e
    split at e
    · rename_i d e1 h1
      split at e
      · rename_i ds' e2 h2
        cases e
        cases h with
        | cons a b =>
          obtain ⟨F1, Sl1, s1, R1, r1⟩ := fz_ok R a h1
          obtain ⟨F2, Sl2, s2, R2, r2⟩ := fzPs_ok R1 (b.mono fun _ _ => RP.mono s1.exF) h2
          exact ⟨F2, Sl2, s1.trans s2, R2, .cons (Rp.mono s2.exF r1) r2⟩
      · cases e
    · cases e
/-- how many there are -/
def LenA (n : Nat) (m : MA) : Prop := ∀ env ps e, m env = some (ps, e) → ps.length = n
theorem len_nil : LenA 0 mNil := fun _ _ _ h => by cases h; rfl
theorem len_cons {n : Nat} {ma : ME} {mr : MA} (h : LenA n mr) : LenA (n + 1) (mCons ma mr) := fun env ps e hp => by
  obtain ⟨a, e1, h1, h2⟩ := bnd_of hp
  obtain ⟨b, e2, h3, h4⟩ := bnd_of h2
  cases h4
  rw [List.length_cons, h _ _ _ h3]
def mDs (ma : MA) : ML := bnd ma fun ps e => fzPs e ps
theorem rl_lst {pu : Bool} {n : Nat} {ta : TA} {ma : MA} (h : RA pu ta ma) (hl : LenA n ma) (hn : n ≤ sizeLine := by decide) : RL false (tLst ta) (mDs ma) := by
  intro F H σ env Sl R ds env' e Q q
  obtain ⟨ps, e1, h1, h2⟩ := bnd_of e
  refine h F H σ env Sl R ps _ h1 _ fun r F1 H1 Sl1 s1 pu1 R1 r1 => ?_
  obtain ⟨F2, Sl2, s2, R2, r2⟩ := fzPs_ok R1 r1 h2
  exact ⟨by rw [← r1.len, hl _ _ _ h1]; exact hn, fun p np => q p r F2 H1 Sl2 (s1.trans s2) (fun z => nomatch z) R2 r2 np⟩
def mTup (ma : MA) : ME := bnd ma fun ps e => (fzPs e ps).map fun r => (.val (.tuple r.1), r.2)
theorem re_tup {pu : Bool} {n : Nat} {ta : TA} {ma : MA} (h : RA pu ta ma) (hl : LenA n ma) (hn : n ≤ sizeLine := by decide) : RE false (tTup ta) (mTup ma) := by
  intro F H σ env Sl R p env' e Q q
  obtain ⟨ps, e1, h1, h2⟩ := bnd_of e
  cases h3 : fzPs e1 ps with
  | none => rw [h3] at h2; cases h2
  | some r =>
    obtain ⟨ds, e2⟩ := r
    rw [h3] at h2
    cases h2
    refine h F H σ env Sl R ps _ h1 _ fun r F1 H1 Sl1 s1 pu1 R1 r1 => ?_
    obtain ⟨F2, Sl2, s2, R2, r2⟩ := fzPs_ok R1 r1 h3
    refine ⟨by rw [← r1.len, hl _ _ _ h1]; exact hn, fun a na => ?_⟩
    obtain ⟨x, y, z, w, rr⟩ := new_tup R2.ex na r2
    exact q _ _ _ Sl2 (s1.trans (s2.trans (Step.grow x y w))) (fun z => nomatch z) (R2.grow x y z w) rr
/-! ### truth -/
section
variable {pu pv pw : Bool} {ta tb te : TE} {ma mb me : ME} {t u : TT} {m n : MT}
def gB : P → Option Bool
  | .val (.bool b) => some b
  | _ => none
def mT (ma : ME) : MT := bnd ma fun p e => (gB p).map fun r => (r, e)
theorem gB_ok {F : Hp} {σ : L2.St} {v : V} {p : P} {b : Bool} (h : RP F σ v p) (e : gB p = some b) : v = .bl b := by
  unfold gB at e
  split at e
  · cases e; exact pbool h
  · cases e
theorem rt_B (h : RE pu te me) : RT pu (L2.tB te) (mT me) :=
  rg_fin (rel := relP) (rel' := relB) (k := fun x H Q => ∃ c, x = .bl c ∧ Q c H) (g := fun _ p => gB p) h fun F H σ env Sl r a b R rr e Q q => ⟨b, gB_ok rr e, q _ F H (Ex.refl F) (Ex.refl H) R.ex (fun _ _ z => .inl z) rfl⟩
theorem rt_test (h : RE pu te me) : RT pu (tTest te) (mT me) :=
  rg_fin (rel := relP) (rel' := relB) (k := fun x H Q => ∃ c, x = .bl c ∧ Q c H) (g := fun _ p => gB p) h fun F H σ env Sl r a b R rr e Q q => ⟨b, gB_ok rr e, q _ F H (Ex.refl F) (Ex.refl H) R.ex (fun _ _ z => .inl z) rfl⟩
def mAnd (m n : MT) : MT := bnd m fun b e => match b with | true => n e | false => some (false, e)
def mOr (m n : MT) : MT := bnd m fun b e => match b with | true => some (true, e) | false => n e
def mNot (m : MT) : MT := bnd m fun b e => some (!b, e)
theorem rt_and (h : RT pu t m) (h' : RT pv u n) : RT (pu && pv) (tAnd t u) (mAnd m n) := by
  intro F H σ env Sl R b env' e Q q
  obtain ⟨b1, e1, h1, h2⟩ := bnd_of e
  refine h F H σ env Sl R b1 _ h1 _ fun r F1 H1 Sl1 s1 pu1 R1 r1 => ?_
  cases r1
  cases b1 with
  | true =>
    rw [if_pos rfl]
    exact h' F1 H1 σ e1 Sl1 R1 b _ h2 _ fun r' F2 H2 Sl2 s2 pu2 R2 r2 => q r' F2 H2 Sl2 (s1.trans s2) (pu_step (F := F) (F1 := F1) (F2 := F2) pu1 pu2) R2 r2
  | false =>
    cases h2
    rw [if_neg Bool.false_ne_true]
    exact q _ F1 H1 Sl1 s1 (fun hp => pu1 (Bool.and_eq_true _ _ ▸ hp).1) R1 rfl
theorem rt_or (h : RT pu t m) (h' : RT pv u n) : RT (pu && pv) (tOr t u) (mOr m n) := by
  intro F H σ env Sl R b env' e Q q
  obtain ⟨b1, e1, h1, h2⟩ := bnd_of e
  refine h F H σ env Sl R b1 _ h1 _ fun r F1 H1 Sl1 s1 pu1 R1 r1 => ?_
  cases r1
  cases b1 with
  | false =>
    rw [if_neg Bool.false_ne_true]
    exact h' F1 H1 σ e1 Sl1 R1 b _ h2 _ fun r' F2 H2 Sl2 s2 pu2 R2 r2 => q r' F2 H2 Sl2 (s1.trans s2) (pu_step (F := F) (F1 := F1) (F2 := F2) pu1 pu2) R2 r2
  | true =>
    cases h2
    rw [if_pos rfl]
    exact q _ F1 H1 Sl1 s1 (fun hp => pu1 (Bool.and_eq_true _ _ ▸ hp).1) R1 rfl
theorem rt_not (h : RT pu t m) : RT pu (tNot t) (mNot m) := by
  intro F H σ env Sl R b env' e Q q
  obtain ⟨b1, e1, h1, h2⟩ := bnd_of e
  cases h2
  refine h F H σ env Sl R b1 _ h1 _ fun r F1 H1 Sl1 s1 pu1 R1 r1 => ?_
  cases r1
  exact q _ F1 H1 Sl1 s1 pu1 R1 rfl
def mYes : MT := fun env => some (true, env)
theorem rt_yes : RT true tYes mYes := by
  intro F H σ env Sl R b env' e Q q
  cases e
  exact q _ F H Sl Step.refl (fun _ => ⟨rfl, Ex.refl H, rfl⟩) R rfl
/-! .. as values -/
def mAndV (ma mb : ME) : ME := bnd (mT ma) fun b e => match b with | true => mb e | false => some (.val (.bool false), e)
def mOrV (ma mb : ME) : ME := bnd (mT ma) fun b e => match b with | true => some (.val (.bool true), e) | false => mb e
def mNotV (ma : ME) : ME := bnd (mT ma) fun b e => some (.val (.bool (!b)), e)
theorem re_andV (h : RE pu ta ma) (h' : RE pv tb mb) : RE (pu && pv) (tAndV ta tb) (mAndV ma mb) := by
  intro F H σ env Sl R b env' e Q q
  obtain ⟨b1, e1, h1, h2⟩ := bnd_of e
  refine rt_B h F H σ env Sl R b1 _ h1 (fun c H1 => if c = true then tb σ H1 Q else Q (.bl false) H1) fun r F1 H1 Sl1 s1 pu1 R1 r1 => ?_
  cases r1
  cases b1 with
  | true =>
    rw [if_pos rfl]
    exact h' F1 H1 σ e1 Sl1 R1 b _ h2 _ fun r' F2 H2 Sl2 s2 pu2 R2 r2 => q r' F2 H2 Sl2 (s1.trans s2) (pu_step (F := F) (F1 := F1) (F2 := F2) pu1 pu2) R2 r2
  | false =>
    cases h2
    rw [if_neg Bool.false_ne_true]
    exact q _ F1 H1 Sl1 s1 (fun hp => pu1 (Bool.and_eq_true _ _ ▸ hp).1) R1 rfl
theorem re_orV (h : RE pu ta ma) (h' : RE pv tb mb) : RE (pu && pv) (tOrV ta tb) (mOrV ma mb) := by
  intro F H σ env Sl R b env' e Q q
  obtain ⟨b1, e1, h1, h2⟩ := bnd_of e
  refine rt_B h F H σ env Sl R b1 _ h1 (fun c H1 => if c = true then Q (.bl true) H1 else tb σ H1 Q) fun r F1 H1 Sl1 s1 pu1 R1 r1 => ?_
  cases r1
  cases b1 with
  | false =>
    rw [if_neg Bool.false_ne_true]
    exact h' F1 H1 σ e1 Sl1 R1 b _ h2 _ fun r' F2 H2 Sl2 s2 pu2 R2 r2 => q r' F2 H2 Sl2 (s1.trans s2) (pu_step (F := F) (F1 := F1) (F2 := F2) pu1 pu2) R2 r2
  | true =>
    cases h2
    rw [if_pos rfl]
    exact q _ F1 H1 Sl1 s1 (fun hp => pu1 (Bool.and_eq_true _ _ ▸ hp).1) R1 rfl
theorem re_notV (h : RE pu ta ma) : RE pu (tNotV ta) (mNotV ma) := by
  intro F H σ env Sl R b env' e Q q
  obtain ⟨b1, e1, h1, h2⟩ := bnd_of e
  cases h2
  refine rt_B h F H σ env Sl R b1 _ h1 (fun c H1 => Q (.bl (!c)) H1) fun r F1 H1 Sl1 s1 pu1 R1 r1 => ?_
  cases r1
  exact q _ F1 H1 Sl1 s1 pu1 R1 rfl
/-- a if t else b -/
def mIf {α : Type} (m : MT) (ma mb : En → Option (α × En)) : En → Option (α × En) := bnd m fun b e => match b with | true => ma e | false => mb e
theorem re_if (h : RT pw t m) (h1 : RE pu ta ma) (h2 : RE pv tb mb) : RE false (tIf t ta tb) (mIf m ma mb) := by
  intro F H σ env Sl R p env' e Q q
  obtain ⟨b1, e1, x1, x2⟩ := bnd_of e
  refine h F H σ env Sl R b1 _ x1 _ fun r F1 H1 Sl1 s1 pu1 R1 r1 => ?_
  cases r1
  cases b1 with
  | true =>
    rw [if_pos rfl]
    exact h1 F1 H1 σ e1 Sl1 R1 p _ x2 _ fun r' F2 H2 Sl2 s2 pu2 R2 r2 => q r' F2 H2 Sl2 (s1.trans s2) (fun z => nomatch z) R2 r2
  | false =>
    rw [if_neg Bool.false_ne_true]
    exact h2 F1 H1 σ e1 Sl1 R1 p _ x2 _ fun r' F2 H2 Sl2 s2 pu2 R2 r2 => q r' F2 H2 Sl2 (s1.trans s2) (fun z => nomatch z) R2 r2
theorem New.mono0 {F H0 H1 H : Hp} {Sl : Nat → Addr → Prop} {o : O} {v : V} {T : Addr → Prop} (n : New F H1 H Sl o v T) (k : ∀ a, H1 a = none → H0 a = none) : New F H0 H Sl o v T := ⟨n.own, n.dj, n.tr, fun a h => k a (n.nw a h)⟩
theorem ro_if {mo mo' : MO} (h : RT pw t m) (h1 : RO ta mo) (h2 : RO tb mo') : RO (tIf t ta tb) (mIf m mo mo') := by
  intro F H σ env Sl R p env' e Q q
  obtain ⟨b1, e1, x1, x2⟩ := bnd_of e
  refine h F H σ env Sl R b1 _ x1 _ fun r F1 H1 Sl1 s1 pu1 R1 r1 => ?_
  cases r1
  cases b1 with
  | true =>
    rw [if_pos rfl]
    exact h1 F1 H1 σ e1 Sl1 R1 p _ x2 _ fun r' F2 H2 Sl2 T s2 R2 r2 => q r' F2 H2 Sl2 T (s1.trans s2) R2 (r2.mono0 fun _ => s1.tkb)
  | false =>
    rw [if_neg Bool.false_ne_true]
    exact h2 F1 H1 σ e1 Sl1 R1 p _ x2 _ fun r' F2 H2 Sl2 T s2 R2 r2 => q r' F2 H2 Sl2 T (s1.trans s2) R2 (r2.mono0 fun _ => s1.tkb)
end
end Tr
namespace Tr
open PySem PySem.Spec PyProof.Rows L2

/-! ### what is walked -/
/-- J gives the data ds, one after the other, while what F has stands -/
def ItOk (J : It) (F : Hp) (ds : List PyData) : Prop := ∀ F1 H1, Ex F F1 → Ex F1 H1 → ∀ i : Nat,
  (∀ d, ds[i]? = some d → J.go i H1 ∧ ∀ x H', J.yld i H1 x H' → ∃ F', Ex F1 F' ∧ Ex H1 H' ∧ Ex F' H' ∧ (∀ b o, F' b = some o → F1 b = some o ∨ H1 b = none) ∧ Rp F' d x) ∧ (ds[i]? = none → J.stop i H1)
def RI (wi : TI) (m : ML) : Prop := ∀ F H σ env Sl, REnv F H σ env Sl → ∀ ds env', m env = some (ds, env') → ∀ Q : It → Hp → Prop,
  (∀ J F' H' Sl', Step F H Sl F' H' Sl' → REnv F' H' σ env' Sl' → ItOk J F' ds → Q J H') → wi σ H Q
def gList : PyData → Option (List PyData)
  | .list ds => some ds
  | _ => none
def gTuple : PyData → Option (List PyData)
  | .tuple ds => some ds
  | _ => none
def mItL (me : ME) : ML := bnd me fun p e => match fzP e p with
  | some (.list ds, e2) => some (ds, e2)
  | _ => none
def mItT (me : ME) : ML := bnd me fun p e => match p with
  | .val (.tuple ds) => some (ds, e)
  | _ => none
theorem it_l {K : PySem.W.Frag} {F : Hp} {a : Addr} {vs : List V} {ds : List PyData} (h : F a = some (.lst vs)) (r : All2 (Rp F) ds vs) : ItOk (Itl K a) F ds := by
  intro F1 H1 e1 e2 i
  have hs : SqL K H1 a vs := SqL.of (e2 _ _ (e1 _ _ h))
  refine ⟨fun d hd => ?_, fun hd => ⟨vs, hs, ?_⟩⟩
  · obtain ⟨v, hv, rv⟩ := r.get hd
    refine ⟨⟨vs, v, hs, hv⟩, fun x H' y => ?_⟩
    obtain ⟨rfl, f⟩ := y
    have ex : x = v := Option.some.inj ((f vs hs).symm.trans hv)
    subst ex
    exact ⟨F1, Ex.refl _, Ex.refl _, e2, fun _ _ z => .inl z, Rp.mono e1 rv⟩
  · rw [← r.len]
    exact List.getElem?_eq_none_iff.mp hd
theorem it_t {K : PySem.W.Frag} {F : Hp} {a : Addr} {vs : List V} {ds : List PyData} (h : F a = some (.tup vs)) (r : All2 (Rp F) ds vs) : ItOk (Itt K a) F ds := by
  intro F1 H1 e1 e2 i
  have hs : SqT K H1 a vs := SqT.of (e2 _ _ (e1 _ _ h))
  refine ⟨fun d hd => ?_, fun hd => ⟨vs, hs, ?_⟩⟩
  · obtain ⟨v, hv, rv⟩ := r.get hd
    refine ⟨⟨vs, v, hs, hv⟩, fun x H' y => ?_⟩
    obtain ⟨rfl, f⟩ := y
    have ex : x = v := Option.some.inj ((f vs hs).symm.trans hv)
    subst ex
    exact ⟨F1, Ex.refl _, Ex.refl _, e2, fun _ _ z => .inl z, Rp.mono e1 rv⟩
  · rw [← r.len]
    exact List.getElem?_eq_none_iff.mp hd
theorem ri_list {K : PySem.W.Frag} {pu : Bool} {te : TE} {me : ME} (h : RE pu te me) : RI (iList K te) (mItL me) := by
  intro F H σ env Sl R ds env' e Q q
  obtain ⟨p, e1, h1, h2⟩ := bnd_of e
  split at h2
  · rename_i ds' e2 h3
    cases h2
    refine h F H σ env Sl R p _ h1 _ fun r F1 H1 Sl1 s1 pu1 R1 r1 => ?_
    obtain ⟨F2, Sl2, s2, R2, r2⟩ := fz_ok R1 r1 h3
    obtain ⟨a, vs, rfl, hF, rr⟩ := rp_list.mp r2
    exact ⟨a, rfl, ⟨vs, SqL.of (R2.ex _ _ hF)⟩, q _ F2 H1 Sl2 (s1.trans s2) R2 (it_l hF rr)⟩
  · cases h2
theorem ri_tup {K : PySem.W.Frag} {pu : Bool} {te : TE} {me : ME} (h : RE pu te me) : RI (iTup K te) (mItT me) := by
  intro F H σ env Sl R ds env' e Q q
  obtain ⟨p, e1, h1, h2⟩ := bnd_of e
  split at h2
  · cases h2
    refine h F H σ env Sl R _ _ h1 _ fun r F1 H1 Sl1 s1 pu1 R1 r1 => ?_
    obtain ⟨a, vs, rfl, hF, rr⟩ := rp_tuple.mp (pr_val r1)
    exact ⟨a, rfl, ⟨vs, SqT.of (R1.ex _ _ hF)⟩, q _ F1 H1 Sl1 s1 R1 (it_t hF rr)⟩
  · cases h2
/-- lo, lo + 1, .. -/
def rgD (lo : Int) (n : Nat) : List PyData := (List.range n).map fun k => .int (lo + (k : Nat))
theorem rgD_get {lo : Int} {n i : Nat} : (rgD lo n)[i]? = if i < n then some (.int (lo + (i : Nat))) else none := by
  unfold rgD
  rw [List.getElem?_map]
  by_cases h : i < n
  · rw [if_pos h, List.getElem?_range h]; rfl
  · rw [if_neg h, List.getElem?_eq_none (by rw [List.length_range]; omega)]; rfl
theorem rgD_len {lo : Int} {n : Nat} : (rgD lo n).length = n := by unfold rgD; rw [List.length_map, List.length_range]
theorem it_r {F : Hp} {lo : Int} {n : Nat} : ItOk (Itr lo n) F (rgD lo n) := by
  intro F1 H1 e1 e2 i
  rw [rgD_get]
  refine ⟨fun d hd => ?_, fun hd => ?_⟩
  · split at hd
    · rename_i hi
      cases hd
      refine ⟨hi, fun x H' y => ?_⟩
      obtain ⟨rfl, rfl⟩ := y
      exact ⟨F1, Ex.refl _, Ex.refl _, e2, fun _ _ z => .inl z, rfl⟩
    · cases hd
  · split at hd
    · cases hd
    · rename_i hi
      exact Nat.le_of_not_lt hi
def mRng1 (ma : MA) : ML := bnd ma fun ps e => match ps with
  | [.val (.int j)] => if -(2 ^ 62) ≤ j ∧ j < 2 ^ 62 then some (rgD 0 j.toNat, e) else none
  | _ => none
def mRng2 (ma : MA) : ML := bnd ma fun ps e => match ps with
  | [.val (.int i), .val (.int j)] => if -(2 ^ 62) ≤ i ∧ i < 2 ^ 62 ∧ -(2 ^ 62) ≤ j ∧ j < 2 ^ 62 then some (rgD i (j - i).toNat, e) else none
  | _ => none
theorem ri_rng1 {pu : Bool} {ta : TA} {ma : MA} (h : RA pu ta ma) : RI (iRng1 ta) (mRng1 ma) := by
  intro F H σ env Sl R ds env' e Q q
  obtain ⟨ps, e1, h1, h2⟩ := bnd_of e
  split at h2
  · split at h2
    · rename_i j hj
      cases h2
      refine h F H σ env Sl R _ _ h1 _ fun r F1 H1 Sl1 s1 pu1 R1 r1 => ?_
      cases r1 with
      | cons x t =>
        cases t
        exact ⟨j, by rw [pint x], hj.1, hj.2, q _ F1 H1 Sl1 s1 R1 it_r⟩
    · cases h2
  · cases h2
theorem ri_rng2 {pu : Bool} {ta : TA} {ma : MA} (h : RA pu ta ma) : RI (iRng2 ta) (mRng2 ma) := by
  intro F H σ env Sl R ds env' e Q q
  obtain ⟨ps, e1, h1, h2⟩ := bnd_of e
  split at h2
  · split at h2
    · rename_i i j hj
      cases h2
      refine h F H σ env Sl R _ _ h1 _ fun r F1 H1 Sl1 s1 pu1 R1 r1 => ?_
      cases r1 with
      | cons x t =>
        cases t with
        | cons y t =>
          cases t
          exact ⟨i, j, by rw [pint x, pint y], hj, q _ F1 H1 Sl1 s1 R1 it_r⟩
    · cases h2
  · cases h2
/-- i, item -/
def enD (ds : List PyData) : List PyData := (List.range ds.length).map fun k => .tuple [.int (k : Nat), ds.getD k .none]
theorem enD_get {ds : List PyData} {i : Nat} : (enD ds)[i]? = (ds[i]?).map fun d => .tuple [.int (i : Nat), d] := by
  unfold enD
  rw [List.getElem?_map]
  by_cases h : i < ds.length
  · rw [List.getElem?_range h, List.getElem?_eq_getElem h]
    simp [List.getD_eq_getElem?_getD, h]
  · rw [List.getElem?_eq_none (by rw [List.length_range]; omega), List.getElem?_eq_none (by omega)]; rfl
def mEnum (ma : MA) : ML := bnd ma fun ps e => match ps with
  | [p] => match fzP e p with
    | some (.list ds, e2) => some (enD ds, e2)
    | _ => none
  | _ => none
theorem it_e {K : PySem.W.Frag} {F : Hp} {a : Addr} {vs : List V} {ds : List PyData} (h : F a = some (.lst vs)) (r : All2 (Rp F) ds vs) : ItOk (Ite K a) F (enD ds) := by
  intro F1 H1 e1 e2 i
  have hs : SqL K H1 a vs := SqL.of (e2 _ _ (e1 _ _ h))
  rw [enD_get]
  refine ⟨fun d hd => ?_, fun hd => ⟨vs, hs, ?_⟩⟩
  · cases hd' : ds[i]? with
    | none => rw [hd'] at hd; cases hd
    | some d' =>
      rw [hd'] at hd
      cases hd
      obtain ⟨v, hv, rv⟩ := r.get hd'
      refine ⟨⟨vs, v, hs, hv⟩, fun x H' y => ?_⟩
      obtain ⟨T, x', rfl, nT, rfl, f⟩ := y
      have ex : x' = v := Option.some.inj ((f vs hs).symm.trans hv)
      subst ex
      obtain ⟨y1, y2, y3, y4, y5⟩ := new_tup (ds := [.int (i : Nat), d']) (vs := [.int (i : Nat), x']) e2 nT (.cons rfl (.cons (Rp.mono e1 rv) .nil))
      exact ⟨_, y1, y2, y3, y4, y5⟩
  · cases hd' : ds[i]? with
    | none =>
      rw [← r.len]
      exact List.getElem?_eq_none_iff.mp hd'
    | some d' => rw [hd'] at hd; cases hd
theorem ri_enum {K : PySem.W.Frag} {pu : Bool} {ta : TA} {ma : MA} (h : RA pu ta ma) : RI (iEnum K ta) (mEnum ma) := by
  intro F H σ env Sl R ds env' e Q q
  obtain ⟨ps, e1, h1, h2⟩ := bnd_of e
  split at h2
  · split at h2
    · rename_i ds' e2 h3
      cases h2
      refine h F H σ env Sl R _ _ h1 _ fun r F1 H1 Sl1 s1 pu1 R1 r1 => ?_
      cases r1 with
      | cons x t =>
        cases t
        obtain ⟨F2, Sl2, s2, R2, r2⟩ := fz_ok R1 x h3
        obtain ⟨a, vs, rfl, hF, rr⟩ := rp_list.mp r2
        exact ⟨a, vs, rfl, SqL.of (R2.ex _ _ hF), q _ F2 H1 Sl2 (s1.trans s2) R2 (it_e hF rr)⟩
    · cases h2
  · cases h2

/-! ### where it goes -/
/-- is: the places that are stored to -/
def RT' (is : List Nat) (g : TG) (mg : PyData → En → Option En) : Prop := ∀ F H σ env Sl x d, REnv F H σ env Sl → Rp F d x → ∀ env', mg d env = some env' → ∀ Q : L2.St → Hp → Prop,
  (∀ σ' Sl', REnv F H σ' env' Sl' → (∀ i a, Sl' i a → Sl i a) → (∀ i, i ∉ is → σ'[i]? = σ[i]?) → σ'.length = σ.length → Q σ' H) → g x σ H Q
/-- a name takes a thing -/
theorem REnv.put {F H : Hp} {σ : L2.St} {env : En} {Sl : Nat → Addr → Prop} {i : Nat} {o : O} {v : V} {T : Addr → Prop} (R : REnv F H σ env Sl) (w : Own F H o v T) (dj : ∀ j a, T a → Sl j a → j = i) (tr : ∀ a, T a → F a = none ∧ ∃ u, H a = some u) :
    REnv F H (σ.set i (some v)) (env.set i (some o)) (fun j a => (j ≠ i ∧ Sl j a) ∨ (j = i ∧ T a)) := by
  refine ⟨R.ex, by rw [List.length_set, List.length_set]; exact R.len, fun j u h => ?_, fun j k a x y => ?_, fun j a x => ?_⟩
  · rcases set_at h with ⟨rfl, e2, hl⟩ | ⟨ne, h'⟩
    · cases e2
      refine ⟨v, ?_, w.sub fun a s => .inr ⟨rfl, s⟩⟩
      rw [List.getElem?_set_self (by rw [R.len]; exact hl)]
    · obtain ⟨v2, e2, w2⟩ := R.at_ j u h'
      refine ⟨v2, ?_, w2.sub fun a s => .inl ⟨ne, s⟩⟩
      rw [List.getElem?_set_ne (Ne.symm ne)]
      exact e2
  · rcases x with ⟨n1, x⟩ | ⟨rfl, x⟩
    · rcases y with ⟨n2, y⟩ | ⟨rfl, y⟩
      · exact R.dj j k a x y
      · exact absurd (dj j a y x) n1
    · rcases y with ⟨n2, y⟩ | ⟨rfl, y⟩
      · exact absurd (dj k a x y) n2
      · rfl
  · rcases x with ⟨_, x⟩ | ⟨_, x⟩
    · exact R.tr j a x
    · exact tr a x
theorem REnv.putD {F H : Hp} {σ : L2.St} {env : En} {Sl : Nat → Addr → Prop} {i : Nat} {d : PyData} {v : V} (R : REnv F H σ env Sl) (w : Rp F d v) : REnv F H (σ.set i (some v)) (env.set i (some (.fz d))) (lose Sl i) := by
  have h := R.put (i := i) (o := .fz d) (v := v) (T := fun _ => False) w (fun _ _ z => z.elim) (fun _ z => z.elim)
  exact ⟨h.ex, h.len, fun j u q => by
    obtain ⟨v', e, w'⟩ := h.at_ j u q
    exact ⟨v', e, w'.sub fun a s => s.elim id fun z => z.2.elim⟩, fun j k a x y => R.dj j k a x.2 y.2, fun j a x => R.tr j a x.2⟩
theorem pin_set {σ : L2.St} {i : Nat} {x : Option V} : ∀ j, j ∉ [i] → (σ.set i x)[j]? = σ[j]? := fun j e => by
  rw [List.getElem?_set_ne]
  intro z
  exact e (by rw [z]; simp)
def mgN (i : Nat) : PyData → En → Option En := fun d env => some (env.set i (some (.fz d)))
theorem rg_name {i : Nat} : RT' [i] (gName i) (mgN i) := by
  intro F H σ env Sl x d R r env' e Q q
  cases e
  exact q _ _ (R.putD r) (fun _ _ z => z.2) pin_set (List.length_set ..)
def mgTs : List Nat → List PyData → En → Option En
  | [], [], env => some env
  | i :: is, d :: ds, env => mgTs is ds (env.set i (some (.fz d)))
  | _, _, _ => none
def mgT (is : List Nat) : PyData → En → Option En := fun d env => match d with
  | .tuple ds => mgTs is ds env
  | _ => none
def RTs (g : TGs) (is : List Nat) : Prop := ∀ F H σ env Sl xs ds, REnv F H σ env Sl → All2 (Rp F) ds xs → ∀ env', mgTs is ds env = some env' → ∀ Q : L2.St → Hp → Prop,
  (∀ σ' Sl', REnv F H σ' env' Sl' → (∀ i a, Sl' i a → Sl i a) → (∀ i, i ∉ is → σ'[i]? = σ[i]?) → σ'.length = σ.length → Q σ' H) → g xs σ H Q
theorem rgs_nil : RTs gNil [] := by
  intro F H σ env Sl xs ds R r env' e Q q
  cases r with
  | nil => cases e; exact ⟨rfl, q σ Sl R (fun _ _ z => z) (fun _ _ => rfl) rfl⟩
  | cons _ _ => cases e
theorem rgs_cons {i : Nat} {g : TGs} {is : List Nat} (h : RTs g is) : RTs (gCons (gName i) g) (i :: is) := by
  intro F H σ env Sl xs ds R r env' e Q q
  cases r with
  | nil => cases e
  | cons a b =>
    refine ⟨_, _, rfl, ?_⟩
    exact h F H _ _ _ _ _ (R.putD a) b env' e Q fun σ' Sl' R' k p hl => q σ' Sl' R' (fun j x z => (k j x z).2) (fun j z => (p j fun y => z (by simp [y])).trans (pin_set j fun y => z (by simp at y; simp [y]))) (hl.trans (List.length_set ..))
theorem mgTs_len : ∀ {is : List Nat} {ds : List PyData} {env env' : En}, mgTs is ds env = some env' → ds.length = is.length
  | [], [], _, _, _ => rfl
  | [], _ :: _, _, _, h => nomatch h
  | _ :: _, [], _, _, h => nomatch h
  | _ :: is, _ :: ds, _, _, h => by
    have h' : mgTs is ds _ = some _ := h
    rw [List.length_cons, List.length_cons, mgTs_len h']
theorem rg_tup {K : PySem.W.Frag} {n : Nat} {g : TGs} {is : List Nat} (h : RTs g is) (hn : is.length = n := by rfl) : RT' is (gTup K n g) (mgT is) := by
  intro F H σ env Sl x d R r env' e Q q
  unfold mgT at e
  split at e
  · rename_i ds
    obtain ⟨a, vs, rfl, hF, rr⟩ := rp_tuple.mp r
    exact ⟨a, vs, rfl, SqT.of (R.ex _ _ hF), by rw [← rr.len, mgTs_len e]; exact hn, h F H σ env Sl vs ds R rr env' e Q q⟩
  · cases e
/-! ### comprehensions -/
def wipeE (env : En) : List Nat → En
  | [] => env
  | v :: vs => (wipeE env vs).set v none
theorem REnv.forget {F H : Hp} {σ : L2.St} {env : En} {Sl : Nat → Addr → Prop} {i : Nat} (R : REnv F H σ env Sl) : REnv F H (σ.set i none) (env.set i none) (lose Sl i) := by
  refine ⟨R.ex, by rw [List.length_set, List.length_set]; exact R.len, fun j u h => ?_, fun j k a x y => R.dj j k a x.2 y.2, fun j a x => R.tr j a x.2⟩
  rcases set_at h with ⟨rfl, e2, _⟩ | ⟨ne, h'⟩
  · cases e2
  · obtain ⟨v2, e2, w2⟩ := R.at_ j u h'
    refine ⟨v2, ?_, w2.sub fun a s => ⟨ne, s⟩⟩
    rw [List.getElem?_set_ne (Ne.symm ne)]
    exact e2
theorem REnv.wiped {F H : Hp} {σ : L2.St} {env : En} : ∀ {vs : List Nat} {Sl : Nat → Addr → Prop}, REnv F H σ env Sl → ∃ Sl', REnv F H (wipe σ vs) (wipeE env vs) Sl' ∧ ∀ i a, Sl' i a → Sl i a
  | [], Sl, R => ⟨Sl, R, fun _ _ z => z⟩
  | v :: vs, Sl, R => by
    obtain ⟨Sl1, R1, k1⟩ := REnv.wiped (vs := vs) R
    exact ⟨_, R1.forget, fun i a z => k1 i a z.2⟩
/-- only fewer things are held -/
theorem Step.fewer {F H : Hp} {Sl Sl' : Nat → Addr → Prop} (k : ∀ i a, Sl' i a → Sl i a) : Step F H Sl F H Sl' := ⟨Ex.refl F, fun _ _ h _ => h, fun _ _ h => ⟨_, h⟩, fun i b h => .inl (k i b h), fun _ _ h => .inl h⟩
/-- behind a block: what it told of the block's names is forgotten -/
theorem REnv.unwipe {F H : Hp} {σ : L2.St} {env : En} {vs : List Nat} {Sl : Nat → Addr → Prop} (R : REnv F H (wipe σ vs) env Sl) : REnv F H σ env Sl :=
  ⟨R.ex, by rw [← R.len, wipe_length], fun i o h => by
    obtain ⟨v, e, w⟩ := R.at_ i o h
    exact ⟨v, (wipe_some e).1, w⟩, R.dj, R.tr⟩
def mLcGo (mg : PyData → En → Option En) (mt : MT) (me : ME) (vs : List Nat) : List PyData → List PyData → ML
  | [], acc, env => some (acc, env)
  | d :: ds, acc, env => match mg d env with
    | some e1 => match mt e1 with
      | some (true, e2) => match me e2 with
        | some (p, e3) => match fzP e3 p with
          | some (y, e4) => if acc.length < sizeLine then mLcGo mg mt me vs ds (acc ++ [y]) (wipeE e4 vs) else none
          | none => none
        | none => none
      | some (false, e2) => mLcGo mg mt me vs ds acc (wipeE e2 vs)
      | none => none
    | none => none
def mLc (mi : ML) (mg : PyData → En → Option En) (mt : MT) (me : ME) (vs : List Nat) : ML := bnd mi fun ds e => mLcGo mg mt me vs ds [] (wipeE e vs)
end Tr
namespace Tr
open PySem PySem.Spec PyProof.Rows L2

/-! ### a comprehension -/
theorem fresh_notin {F H : Hp} {σ : L2.St} {env : En} {Sl : Nat → Addr → Prop} (R : REnv F H σ env Sl) {p : Addr} (h : H p = none) : ∀ i, ¬ Sl i p := fun i z => by
  obtain ⟨_, o, e⟩ := R.tr i p z
  rw [h] at e
  cases e
/-- a list apart from all that is held is written -/
theorem REnv.side {F H : Hp} {σ : L2.St} {env : En} {Sl : Nat → Addr → Prop} {p : Addr} {u : HO} (R : REnv F H σ env Sl) (hf : F p = none) (hn : ∀ i, ¬ Sl i p) : REnv F (upd H p u) σ env Sl := by
  refine ⟨fun b o h => ?_, R.len, fun i o h => ?_, R.dj, fun i a x => ?_⟩
  · rw [upd_ne (fun z => by rw [z, hf] at h; cases h)]
    exact R.ex _ _ h
  · obtain ⟨v, e, w⟩ := R.at_ i o h
    exact ⟨v, e, w.ext (Ex.refl F) fun a u' s q => by
      rw [upd_ne (fun z => hn i (by rw [← z]; exact s))]
      exact q⟩
  · obtain ⟨h1, o, h2⟩ := R.tr i a x
    refine ⟨h1, o, ?_⟩
    rw [upd_ne (fun z => hn i (by rw [← z]; exact x))]
    exact h2

theorem wipe_at {σ : L2.St} {i : Nat} : ∀ {vs : List Nat}, (wipe σ vs)[i]? = if i ∈ vs then (if i < σ.length then some none else none) else σ[i]?
  | [] => by rw [if_neg (by simp)]; rfl
  | v :: vs => by
    show ((wipe σ vs).set v none)[i]? = _
    by_cases e : v = i
    · subst e
      rw [if_pos (by simp), List.getElem?_set]
      simp only [if_true, wipe_length]
    · rw [List.getElem?_set_ne e, wipe_at]
      have e' : ¬ i = v := fun z => e z.symm
      simp only [List.mem_cons, e', false_or]
theorem wipe_eq {σ σ' : L2.St} {vs is : List Nat} (h : ∀ i, i ∉ is → σ'[i]? = (wipe σ vs)[i]?) (hl : σ'.length = σ.length) (hs : ∀ i ∈ is, i ∈ vs) : wipe σ' vs = wipe σ vs := by
  refine List.ext_getElem? fun i => ?_
  rw [wipe_at, wipe_at, hl]
  by_cases hv : i ∈ vs
  · rw [if_pos hv, if_pos hv]
  · rw [if_neg hv, if_neg hv, h i (fun z => hv (hs i z)), wipe_at, if_neg hv]
theorem step_wiped {F H : Hp} {σ : L2.St} {env : En} {vs : List Nat} {Sl : Nat → Addr → Prop} {σ' : L2.St} (R : REnv F H σ' env Sl) (e : wipe σ' vs = wipe σ vs) : ∃ Sl', REnv F H (wipe σ vs) (wipeE env vs) Sl' ∧ ∀ i a, Sl' i a → Sl i a := by
  obtain ⟨Sl', R', k⟩ := R.wiped (vs := vs)
  rw [e] at R'
  exact ⟨Sl', R', k⟩
theorem Step.side {F H F' H' : Hp} {Sl Sl' : Nat → Addr → Prop} {p : Addr} {u : HO} (s : Step F H Sl F' H' Sl') (h : H p = none) : Step F H Sl F' (upd H' p u) Sl' :=
  ⟨s.exF, fun b o e n => by rw [upd_ne (ne_of_none e h)]; exact s.fr b o e n, fun b o e => by rw [upd_ne (ne_of_none e h)]; exact s.tk b o e, s.own, s.fz⟩
theorem lc_core {wi : TI} {g : TG} {tt : TT} {te : TE} {vs is : List Nat} {mi : ML} {mg : PyData → En → Option En} {mt : MT} {me : ME} {pt pe : Bool} (hi : RI wi mi) (hg : RT' is g mg) (ht : RT pt tt mt) (he : RE pe te me) (hs : ∀ i ∈ is, i ∈ vs) :
    ∀ F H σ env Sl, REnv F H σ env Sl → ∀ ds env', mLc mi mg mt me vs env = some (ds, env') → ∀ Q : VK,
      (∀ p ys F' H' Sl', Step F H Sl F' H' Sl' → REnv F' H' σ env' Sl' → All2 (Rp F') ds ys → F' p = none → H p = none → (∀ i, ¬ Sl' i p) → H' p = some (.lst ys) → Q (.ref p) H') → tLc wi g tt te vs σ H Q := by
  intro F H σ env Sl R ds env' e Q q
  obtain ⟨xs, e0, h1, h2⟩ := bnd_of e
  refine hi F H σ env Sl R xs _ h1 _ fun J F1 H1 Sl1 s1 R1 hJ => ?_
  intro p np
  obtain ⟨Sl2, R2, k2⟩ := R1.wiped (vs := vs)
  have n2 : ∀ i, ¬ Sl2 i p := fun i z => fresh_notin R1 np i (k2 i p z)
  have R3 : REnv F1 (upd H1 p (.lst [])) (wipe σ vs) (wipeE e0 vs) Sl2 := R2.side (R1.ex.none np) n2
  have s3 : Step F1 H1 Sl1 F1 (upd H1 p (.lst [])) Sl2 := (Step.fewer k2).trans (Step.grow (Ex.refl F1) (Ex.new np) fun _ _ z => .inl z)
  refine ⟨fun i m Hi => ∃ Fi Sli envi acc ys, i ≤ xs.length ∧ m = xs.length - i ∧ REnv Fi Hi (wipe σ vs) envi Sli ∧ Step F1 H1 Sl1 Fi Hi Sli ∧ mLcGo mg mt me vs (xs.drop i) acc envi = some (ds, env') ∧ All2 (Rp Fi) acc ys ∧ Fi p = none ∧ (∀ i, ¬ Sli i p) ∧ Hi p = some (.lst ys), ?_, ?_⟩
  · exact ⟨xs.length, F1, Sl2, wipeE e0 vs, [], [], Nat.zero_le _, by omega, R3, s3, h2, .nil, R1.ex.none np, n2, upd_same⟩
  · rintro i m Hi ⟨Fi, Sli, envi, acc, ys, hil, hm, Ri, si, go, ra, fp, nsp, hp⟩
    cases hx : xs[i]? with
    | none =>
      have hge : xs.length ≤ i := List.getElem?_eq_none_iff.mp hx
      rw [List.drop_eq_nil_of_le hge] at go
      have go' : some (acc, envi) = some (ds, env') := go
      cases go'
      refine .inl ⟨(hJ Fi Hi si.exF Ri.ex i).2 hx, ?_⟩
      exact q p ys Fi Hi Sli (s1.trans si) Ri.unwipe ra fp (s1.tkb np) nsp hp
    | some d =>
      have hlt : i < xs.length := (List.getElem?_eq_some_iff.mp hx).1
      have hd : xs.drop i = d :: xs.drop (i + 1) := by
        rw [List.drop_eq_getElem_cons hlt]
        have := (List.getElem?_eq_some_iff.mp hx).2
        rw [this]
      rw [hd] at go
      unfold mLcGo at go
      obtain ⟨jg, jy⟩ := (hJ Fi Hi si.exF Ri.ex i).1 d hx
      refine .inr ⟨jg, fun H' => ∃ Fi Sli envi acc ys, i + 1 ≤ xs.length ∧ REnv Fi H' (wipe σ vs) envi Sli ∧ Step F1 H1 Sl1 Fi H' Sli ∧ mLcGo mg mt me vs (xs.drop (i + 1)) acc envi = some (ds, env') ∧ All2 (Rp Fi) acc ys ∧ Fi p = none ∧ (∀ i, ¬ Sli i p) ∧ H' p = some (.lst ys), fun H' ⟨Fj, Slj, envj, accj, ysj, z1, z2, z3, z4, z5, z6, z7, z8⟩ => ⟨xs.length - (i + 1), by omega, Fj, Slj, envj, accj, ysj, z1, rfl, z2, z3, z4, z5, z6, z7, z8⟩, fun x H' hy => ?_⟩
      obtain ⟨Fj, f1, f2, f3, f4, f5⟩ := jy x H' hy
      have Rj : REnv Fj H' (wipe σ vs) envi Sli := Ri.grow f1 f2 f3 f4
      have sj : Step F1 H1 Sl1 Fj H' Sli := si.trans (Step.grow f1 f2 f4)
      have fpj : Fj p = none := by
        cases z : Fj p with
        | none => rfl
        | some o =>
          rcases f4 p o z with y | y
          · rw [fp] at y; cases y
          · rw [hp] at y; cases y
      cases hg1 : mg d envi with
      | none => rw [hg1] at go; cases go
      | some e1 =>
        rw [hg1] at go
        refine hg Fj H' (wipe σ vs) envi Sli x d Rj f5 e1 hg1 _ fun σ2 Sl4 R4 k4 p4 l4 => ?_
        have hl4 : σ2.length = σ.length := by rw [l4, wipe_length]
        have weq : wipe σ2 vs = wipe σ vs := wipe_eq p4 hl4 hs
        refine ⟨weq, ?_⟩
        have s4 : Step F1 H1 Sl1 Fj H' Sl4 := sj.trans (Step.fewer k4)
        have nsp4 : ∀ i, ¬ Sl4 i p := fun i z => nsp i (k4 i p z)
        have hp4 : H' p = some (.lst ys) := f2 _ _ hp
        cases ht1 : mt e1 with
        | none => simp only [ht1] at go; cases go
        | some tb =>
          obtain ⟨b, e2⟩ := tb
          simp only [ht1] at go
          refine ht Fj H' σ2 e1 Sl4 R4 b e2 ht1 _ fun b' F5 H5 Sl5 s5 pu5 R5 rb => ?_
          cases rb
          have s5' := s4.trans s5
          have hp5 : H5 p = some (.lst ys) := s5.fr _ _ hp4 nsp4
          have fp5 : F5 p = none := by
            cases z : F5 p with
            | none => rfl
            | some o =>
              rcases s5.fz p o z with y | y | ⟨j, y⟩
              · rw [fpj] at y; cases y
              · rw [hp4] at y; cases y
              · exact absurd y (nsp4 j)
          have nsp5 : ∀ i, ¬ Sl5 i p := fun i z => by
            rcases s5.own i p z with y | y
            · exact nsp4 i y
            · rw [hp4] at y; cases y
          have ra5 : All2 (Rp F5) acc ys := all_mono (f1.trans s5.exF) ra
          cases b with
          | false =>
            rw [if_neg Bool.false_ne_true]
            obtain ⟨Sl6, R6, k6⟩ := step_wiped (σ := σ) (vs := vs) R5 weq
            exact ⟨F5, Sl6, _, acc, ys, hlt, R6, s5'.trans (Step.fewer k6), go, ra5, fp5, fun i z => nsp5 i (k6 i p z), hp5⟩
          | true =>
            rw [if_pos rfl]
            cases he1 : me e2 with
            | none => simp only [he1] at go; cases go
            | some pe3 =>
              obtain ⟨pp, e3⟩ := pe3
              simp only [he1] at go
              cases hz1 : fzP e3 pp with
              | none => simp only [hz1] at go; cases go
              | some ye4 =>
                obtain ⟨y, e4⟩ := ye4
                simp only [hz1] at go
                split at go
                · rename_i hlen
                  refine he F5 H5 σ2 e2 Sl5 R5 pp e3 he1 _ fun v F6 H6 Sl6 s6 pu6 R6 r6 => ?_
                  obtain ⟨F7, Sl7, s7, R7, r7⟩ := fz_ok R6 r6 hz1
                  have s67 := s6.trans s7
                  have hp6 : H6 p = some (.lst ys) := s67.fr _ _ hp5 nsp5
                  have fp6 : F7 p = none := by
                    cases z : F7 p with
                    | none => rfl
                    | some o =>
                      rcases s67.fz p o z with y | y | ⟨j, y⟩
                      · rw [fp5] at y; cases y
                      · rw [hp5] at y; cases y
                      · exact absurd y (nsp5 j)
                  have nsp6 : ∀ i, ¬ Sl7 i p := fun i z => by
                    rcases s67.own i p z with y | y
                    · exact nsp5 i y
                    · rw [hp5] at y; cases y
                  have ra7 : All2 (Rp F7) (acc ++ [y]) (ys ++ [v]) := (all_mono s67.exF ra5).snoc r7
                  obtain ⟨Sl8, R8, k8⟩ := step_wiped (σ := σ) (vs := vs) R7 weq
                  have nsp8 : ∀ i, ¬ Sl8 i p := fun i z => nsp6 i (k8 i p z)
                  exact ⟨ys, hp6, by rw [← ra.len]; exact hlen, F7, Sl8, _, acc ++ [y], ys ++ [v], hlt, R8.side fp6 nsp8, (s5'.trans (s67.trans (Step.fewer k8))).side np, go, ra7, fp6, nsp8, upd_same⟩
                · cases go
/-- a list comprehension: its list is new; fixed at once, or held -/
theorem re_lc {wi : TI} {g : TG} {tt : TT} {te : TE} {vs is : List Nat} {mi : ML} {mg : PyData → En → Option En} {mt : MT} {me : ME} {pt pe : Bool} (hi : RI wi mi) (hg : RT' is g mg) (ht : RT pt tt mt) (he : RE pe te me) (hs : ∀ i ∈ is, i ∈ vs := by decide) :
    RE false (tLc wi g tt te vs) (mLE (mLc mi mg mt me vs)) := by
  intro F H σ env Sl R r env' e Q q
  obtain ⟨ds, e1, h1, h2⟩ := bnd_of e
  cases h2
  refine lc_core hi hg ht he hs F H σ env Sl R ds _ h1 Q fun p ys F' H' Sl' s R' ra fp np nsp hp => ?_
  have ex : Ex F' (upd F' p (.lst ys)) := Ex.new fp
  refine q _ (upd F' p (.lst ys)) H' Sl' ⟨s.exF.trans ex, s.fr, s.tk, s.own, fun b o z => ?_⟩ (fun z => nomatch z) ⟨fun b o z => ?_, R'.len, fun i o z => ?_, R'.dj, fun i a z => ?_⟩ (rp_list.mpr ⟨p, ys, rfl, upd_same, all_mono ex ra⟩)
  · by_cases hb : b = p
    · subst hb; exact .inr (.inl np)
    · rw [upd_ne hb] at z; exact s.fz b o z
  · by_cases hb : b = p
    · subst hb; rw [upd_same] at z; cases z; exact hp
    · rw [upd_ne hb] at z; exact R'.ex b o z
  · obtain ⟨v, e2, w⟩ := R'.at_ i o z
    exact ⟨v, e2, w.ext ex fun _ _ _ y => y⟩
  · obtain ⟨y1, y2⟩ := R'.tr i a z
    refine ⟨?_, y2⟩
    rw [upd_ne fun y => nsp i (by rw [← y]; exact z)]
    exact y1
theorem ro_lc {wi : TI} {g : TG} {tt : TT} {te : TE} {vs is : List Nat} {mi : ML} {mg : PyData → En → Option En} {mt : MT} {me : ME} {pt pe : Bool} (hi : RI wi mi) (hg : RT' is g mg) (ht : RT pt tt mt) (he : RE pe te me) (hs : ∀ i ∈ is, i ∈ vs := by decide) :
    RO (tLc wi g tt te vs) (mLO (mLc mi mg mt me vs)) := by
  intro F H σ env Sl R r env' e Q q
  obtain ⟨ds, e1, h1, h2⟩ := bnd_of e
  cases h2
  refine lc_core hi hg ht he hs F H σ env Sl R ds _ h1 Q fun p ys F' H' Sl' s R' ra fp np nsp hp => ?_
  exact q _ F' H' Sl' (fun a => a = p) s R' ⟨⟨p, ys, rfl, rfl, hp, ra⟩, fun i a z y => nsp i (by rw [← z]; exact y), fun a z => by rw [z]; exact ⟨fp, _, hp⟩, fun a z => by rw [z]; exact np⟩
end Tr
namespace Tr
open PySem PySem.Spec PyProof.Rows L2

/-! ### statements -/
inductive Ctl where | nx | bk | ct | rt (o : O)
abbrev MS := En → Option (Ctl × En)
/-- what is to hold behind it; pn: the place of the parameter whose list the caller holds -/
def EndsAt (pn : List Nat) (D : Ends) (F0 H0 : Hp) (Sl0 : Nat → Addr → Prop) (σ0 : L2.St) (c : Ctl) (env' : En) : Prop := match c with
  | .nx => ∀ F' H' σ' Sl', Step F0 H0 Sl0 F' H' Sl' → REnv F' H' σ' env' Sl' → (∀ i, i ∈ pn → σ'[i]? = σ0[i]?) → D.nx σ' H'
  | .bk => ∀ F' H' σ' Sl', Step F0 H0 Sl0 F' H' Sl' → REnv F' H' σ' env' Sl' → (∀ i, i ∈ pn → σ'[i]? = σ0[i]?) → D.bk σ' H'
  | .ct => ∀ F' H' σ' Sl', Step F0 H0 Sl0 F' H' Sl' → REnv F' H' σ' env' Sl' → (∀ i, i ∈ pn → σ'[i]? = σ0[i]?) → D.ct σ' H'
  | .rt o => ∀ v F' H' σ' Sl' T, Step F0 H0 Sl0 F' H' Sl' → REnv F' H' σ' env' Sl' → (∀ i, i ∈ pn → σ'[i]? = σ0[i]?) → Own F' H' o v T → (∀ i a, T a → ¬ Sl' i a) → (∀ a, T a → F' a = none ∧ ∃ u, H' a = some u) →
      (∀ a, T a → H0 a = none ∨ ∃ i, i ∉ pn ∧ Sl0 i a) → D.rt v H'
def RS (pn : List Nat) (t : TS) (m : MS) : Prop := ∀ F H σ env Sl, REnv F H σ env Sl → ∀ c env', m env = some (c, env') → ∀ D : Ends, EndsAt pn D F H Sl σ c env' → t D σ H
theorem EndsAt.step {pn : List Nat} {D : Ends} {F H F1 H1 : Hp} {Sl Sl1 : Nat → Addr → Prop} {σ σ1 : L2.St} {c : Ctl} {env' : En} (h : EndsAt pn D F H Sl σ c env') (s : Step F H Sl F1 H1 Sl1) (p : ∀ i, i ∈ pn → σ1[i]? = σ[i]?) : EndsAt pn D F1 H1 Sl1 σ1 c env' := by
  cases c with
  | nx => exact fun F' H' σ' Sl' s' R q => h F' H' σ' Sl' (s.trans s') R fun i e => (q i e).trans (p i e)
  | bk => exact fun F' H' σ' Sl' s' R q => h F' H' σ' Sl' (s.trans s') R fun i e => (q i e).trans (p i e)
  | ct => exact fun F' H' σ' Sl' s' R q => h F' H' σ' Sl' (s.trans s') R fun i e => (q i e).trans (p i e)
  | rt o =>
    refine fun v F' H' σ' Sl' T s' R q w dj tr nw => h v F' H' σ' Sl' T (s.trans s') R (fun i e => (q i e).trans (p i e)) w dj tr fun a ha => ?_
    rcases nw a ha with z | ⟨i, hi, z⟩
    · exact .inl (s.tkb z)
    · rcases s.own i a z with y | y
      · exact .inr ⟨i, hi, y⟩
      · exact .inl y
def mSeq (m n : MS) : MS := fun env => match m env with
  | some (.nx, e) => n e
  | r => r
theorem rs_seq {pn : List Nat} {t u : TS} {m n : MS} (h : RS pn t m) (h' : RS pn u n) : RS pn (tSeq t u) (mSeq m n) := by
  intro F H σ env Sl R c env' e D q
  unfold mSeq at e
  split at e
  · rename_i e1 h1
    refine h F H σ env Sl R .nx e1 h1 _ fun F' H' σ' Sl' s R' p => ?_
    exact h' F' H' σ' e1 Sl' R' c env' e D (q.step s p)
  · rename_i hn
    refine h F H σ env Sl R c env' e _ ?_
    cases c with
    | nx => exact absurd e (hn env')
    | bk => exact q
    | ct => exact q
    | rt o => exact q
def mNext : MS := fun env => some (.nx, env)
theorem rs_next {pn : List Nat} : RS pn tNext mNext := by
  intro F H σ env Sl R c env' e D q
  cases e
  exact q F H σ Sl Step.refl R fun _ _ => rfl
def mBreak : MS := fun env => some (.bk, env)
theorem rs_break {pn : List Nat} : RS pn tBreak mBreak := by
  intro F H σ env Sl R c env' e D q
  cases e
  exact q F H σ Sl Step.refl R fun _ _ => rfl
def mCont : MS := fun env => some (.ct, env)
theorem rs_cont {pn : List Nat} : RS pn tCont mCont := by
  intro F H σ env Sl R c env' e D q
  cases e
  exact q F H σ Sl Step.refl R fun _ _ => rfl
def mNever : MS := fun _ => none
theorem rs_never {pn : List Nat} : RS pn tNever mNever := by
  intro F H σ env Sl R c env' e D q
  cases e
/-- a thing that never changes goes to where g puts it -/
def mAsg (me : ME) (mg : PyData → En → Option En) : MS := bnd me fun p e => match fzP e p with
  | some (d, e2) => match mg d e2 with
    | some e3 => some (.nx, e3)
    | none => none
  | none => none
theorem rs_asg {pn : List Nat} {pu : Bool} {te : TE} {me : ME} {g : TG} {mg : PyData → En → Option En} {is : List Nat} (h : RE pu te me) (hg : RT' is g mg) (hp : ∀ i, i ∈ pn → i ∉ is := by simp) : RS pn (tAsg te g) (mAsg me mg) := by
  intro F H σ env Sl R c env' e D q
  obtain ⟨p, e1, h1, h2⟩ := bnd_of e
  split at h2
  · rename_i d e2 h3
    split at h2
    · rename_i e3 h4
      cases h2
      refine h F H σ env Sl R p _ h1 _ fun r F1 H1 Sl1 s1 pu1 R1 r1 => ?_
      obtain ⟨F2, Sl2, s2, R2, r2⟩ := fz_ok R1 r1 h3
      refine hg F2 H1 σ e2 Sl2 r d R2 r2 _ h4 _ fun σ' Sl' R' k p l => ?_
      exact q F2 H1 σ' Sl' (s1.trans (s2.trans (Step.fewer k))) R' fun i z => p i (hp i z)
    · cases h2
  · cases h2
/-- a name takes what it alone holds from now on -/
def mAsgO (i : Nat) (mo : MO) : MS := bnd mo fun o e => some (.nx, e.set i (some o))
theorem rs_asgO {pn : List Nat} {te : TE} {mo : MO} {i : Nat} (h : RO te mo) (hp : i ∉ pn := by decide) : RS pn (tAsg te (gName i)) (mAsgO i mo) := by
  intro F H σ env Sl R c env' e D q
  obtain ⟨o, e1, h1, h2⟩ := bnd_of e
  cases h2
  refine h F H σ env Sl R o _ h1 _ fun v F1 H1 Sl1 T s1 R1 n => ?_
  exact q F1 H1 _ _ ⟨s1.exF, s1.fr, s1.tk, fun j b z => z.elim (fun y => s1.own j b y.2) fun y => .inr (n.nw b y.2), s1.fz⟩ (R1.put n.own (fun j a x y => absurd y (n.dj j a x)) n.tr) fun j z => pin_set j (by simp; intro y; exact hp (y ▸ z))
/-- the list that the place j holds is written: what it holds afterwards -/
theorem REnv.write {F H : Hp} {σ : L2.St} {env : En} {Sl : Nat → Addr → Prop} {j : Nat} {a : Addr} {vs' : List V} {ds ds' : List PyData} (R : REnv F H σ env Sl) (hj : env[j]? = some (some (.ow ds))) (hv : σ[j]? = some (some (.ref a))) (r : All2 (Rp F) ds' vs') :
    Step F H Sl F (upd H a (.lst vs')) Sl ∧ REnv F (upd H a (.lst vs')) σ (env.set j (some (.ow ds'))) Sl := by
  obtain ⟨v, e1, a', ws, e2, sa, hH, _⟩ := R.at_ j _ hj
  rw [hv] at e1
  cases e1
  cases e2
  have ns : ∀ i, i ≠ j → ¬ Sl i a := fun i n z => n (R.dj i j a z sa)
  have fa := (R.tr j a sa).1
  refine ⟨⟨Ex.refl F, fun b o h n => ?_, fun b o h => ?_, fun _ _ z => .inl z, fun _ _ z => .inl z⟩, ⟨fun b o h => ?_, by rw [List.length_set]; exact R.len, fun i o h => ?_, R.dj, fun i b z => ?_⟩⟩
  · rw [upd_ne (fun z => n j (by rw [z]; exact sa))]; exact h
  · by_cases z : b = a
    · subst z; exact ⟨_, upd_same⟩
    · exact ⟨o, by rw [upd_ne z]; exact h⟩
  · rw [upd_ne (fun z => by rw [z, fa] at h; cases h)]; exact R.ex b o h
  · rcases set_at h with ⟨rfl, e2, _⟩ | ⟨ne, h'⟩
    · cases e2
      exact ⟨_, hv, a, vs', rfl, sa, upd_same, r⟩
    · obtain ⟨v2, e2, w2⟩ := R.at_ i o h'
      exact ⟨v2, e2, w2.ext (Ex.refl F) fun b u s q => by rw [upd_ne (fun z => ns i ne (by rw [← z]; exact s))]; exact q⟩
  · obtain ⟨y1, u, y2⟩ := R.tr i b z
    refine ⟨y1, ?_⟩
    by_cases e : b = a
    · subst e; exact ⟨_, upd_same⟩
    · exact ⟨u, by rw [upd_ne e]; exact y2⟩
theorem REnv.held {F H : Hp} {σ : L2.St} {env : En} {Sl : Nat → Addr → Prop} {j : Nat} {ds : List PyData} (R : REnv F H σ env Sl) (hj : env[j]? = some (some (.ow ds))) : ∃ a vs, σ[j]? = some (some (.ref a)) ∧ H a = some (.lst vs) ∧ All2 (Rp F) ds vs := by
  obtain ⟨v, e1, a, vs, e2, sa, hH, r⟩ := R.at_ j _ hj
  subst e2
  exact ⟨a, vs, e1, hH, r⟩
/-- xs[i] = e -/
def mSetI (j : Nat) (mi me : ME) : MS := bnd me fun p e1 => match fzP e1 p with
  | some (d, e2) => match e2[j]? with
    | some (some (.ow _)) => match mi e2 with
      | some (.val (.int k), e3) => match e3[j]? with
        | some (some (.ow ds)) => match ixN ds.length k with
          | some n => some (.nx, e3.set j (some (.ow (ds.set n d))))
          | none => none
        | _ => none
      | _ => none
    | _ => none
  | none => none
theorem rs_setI {pn : List Nat} {pu pv : Bool} {te ti : TE} {me mi : ME} {j : Nat} (h : RE pu te me) (hi : RE pv ti mi) : RS pn (tAsg te (gSub (tVar j) ti rSetL)) (mSetI j mi me) := by
  intro F H σ env Sl R c env' e D q
  obtain ⟨p, e1, h1, h2⟩ := bnd_of e
  split at h2
  · rename_i d e2 h3
    split at h2
    · rename_i ds0 h0
      split at h2
      · rename_i k e3 h4
        split at h2
        · rename_i ds h5
          split at h2
          · rename_i n h6
            cases h2
            refine h F H σ env Sl R p _ h1 _ fun r F1 H1 Sl1 s1 pu1 R1 r1 => ?_
            obtain ⟨F2, Sl2, s2, R2, r2⟩ := fz_ok R1 r1 h3
            obtain ⟨a, _, ha, _⟩ := R2.held h0
            refine ⟨_, ha, ?_⟩
            refine hi F2 H1 σ e2 Sl2 R2 _ _ h4 _ fun r' F3 H3 Sl3 s3 pu3 R3 r3 => ?_
            obtain ⟨a', vs, ha', hH, rr⟩ := R3.held h5
            rw [ha] at ha'
            cases ha'
            obtain ⟨s4, R4⟩ := R3.write h5 ha (vs' := vs.set n r) (rr.set n (Rp.mono s3.exF r2))
            refine ⟨a, vs, k, n, rfl, pint r3, hH, by rw [← rr.len]; exact h6, ?_⟩
            exact q _ _ σ _ (s1.trans (s2.trans (s3.trans s4))) R4 fun _ _ => rfl
          · cases h2
        · cases h2
      · cases h2
    · cases h2
  · cases h2
/-- xs.append(e) -/
def mApp (j : Nat) (ma : MA) : MS := fun env => match env[j]? with
  | some (some (.ow _)) => match ma env with
    | some ([p], e1) => match fzP e1 p with
      | some (d, e2) => match e2[j]? with
        | some (some (.ow ds)) => if ds.length < sizeLine then some (.nx, e2.set j (some (.ow (ds ++ [d])))) else none
        | _ => none
      | none => none
    | _ => none
  | _ => none
theorem rs_app {K : PySem.W.Frag} {pn : List Nat} {pu : Bool} {ta : TA} {ma : MA} {j : Nat} (h : RA pu ta ma) : RS pn (tDrop (tBM K "list" rAppend (tVar j) ta)) (mApp j ma) := by
  intro F H σ env Sl R c env' e D q
  unfold mApp at e
  split at e
  · rename_i ds0 h0
    split at e
    · rename_i p e1 h1
      split at e
      · rename_i d e2 h3
        split at e
        · rename_i ds h5
          split at e
          · rename_i hl
            cases e
            obtain ⟨a, vs0, ha, hH0, _⟩ := R.held h0
            refine ⟨_, ha, Or.inl ⟨rfl, vs0, SqL.of hH0⟩, ?_⟩
            refine h F H σ env Sl R _ _ h1 _ fun r F1 H1 Sl1 s1 pu1 R1 r1 => ?_
            cases r1 with
            | cons x t =>
              cases t
              obtain ⟨F2, Sl2, s2, R2, r2⟩ := fz_ok R1 x h3
              obtain ⟨a', vs, ha', hH, rr⟩ := R2.held h5
              rw [ha] at ha'
              cases ha'
              rename_i v
              obtain ⟨s4, R4⟩ := R2.write h5 ha (vs' := vs ++ [v]) (rr.snoc r2)
              exact ⟨a, vs, v, rfl, rfl, hH, by rw [← rr.len]; exact hl, q _ _ σ _ (s1.trans (s2.trans s4)) R4 fun _ _ => rfl⟩
          · cases e
        · cases e
      · cases e
    · cases e
  · cases e
/-- xs.pop(i) as a value -/
def mPopAt (j : Nat) (ma : MA) : ME := fun env => match env[j]? with
  | some (some (.ow _)) => match ma env with
    | some ([.val (.int i)], e1) => match e1[j]? with
      | some (some (.ow ds)) => if -(2 ^ 63) ≤ i ∧ i < 2 ^ 63 then match seqIndex? i ds.length with
        | some k => match ds[k]? with
          | some d => some (.val d, e1.set j (some (.ow (ds.eraseIdx k))))
          | none => none
        | none => none else none
      | _ => none
    | _ => none
  | _ => none
theorem re_popAt {K : PySem.W.Frag} {pu : Bool} {ta : TA} {ma : MA} {j : Nat} (h : RA pu ta ma) : RE false (tBM K "list" rPopAt (tVar j) ta) (mPopAt j ma) := by
  intro F H σ env Sl R c env' e Q q
  unfold mPopAt at e
  split at e
  · rename_i ds0 h0
    split at e
    · rename_i i e1 h1
      split at e
      · rename_i ds h5
        split at e
        · rename_i hb
          split at e
          · rename_i k hk
            split at e
            · rename_i d hd
              cases e
              obtain ⟨a, vs0, ha, hH0, _⟩ := R.held h0
              refine ⟨_, ha, Or.inl ⟨rfl, vs0, SqL.of hH0⟩, ?_⟩
              refine h F H σ env Sl R _ _ h1 _ fun r F1 H1 Sl1 s1 pu1 R1 r1 => ?_
              cases r1 with
              | cons x t =>
                cases t
                obtain ⟨a', vs, ha', hH, rr⟩ := R1.held h5
                rw [ha] at ha'
                cases ha'
                obtain ⟨v, hv, rv⟩ := rr.get hd
                obtain ⟨s4, R4⟩ := R1.write h5 ha (vs' := vs.eraseIdx k) (rr.erase k)
                exact ⟨a, vs, i, k, v, rfl, by rw [pint x], hH, hb.1, hb.2, by rw [← rr.len]; exact hk, hv, q v _ _ _ (s1.trans s4) (fun z => nomatch z) R4 rv⟩
            · cases e
          · cases e
        · cases e
      · cases e
    · cases e
  · cases e
/-- e -/
def mDrop (me : ME) : MS := bnd me fun _ e => some (.nx, e)
theorem rs_drop {pn : List Nat} {pu : Bool} {te : TE} {me : ME} (h : RE pu te me) : RS pn (tDrop te) (mDrop me) := by
  intro F H σ env Sl R c env' e D q
  obtain ⟨p, e1, h1, h2⟩ := bnd_of e
  cases h2
  exact h F H σ env Sl R p _ h1 _ fun r F1 H1 Sl1 s1 pu1 R1 r1 => q F1 H1 σ Sl1 s1 R1 fun _ _ => rfl
/-- return e; return a list that is handed over -/
def mRet (me : ME) : MS := bnd me fun p e => match fzP e p with
  | some (d, e2) => some (.rt (.fz d), e2)
  | none => none
theorem rs_ret {pn : List Nat} {pu : Bool} {te : TE} {me : ME} (h : RE pu te me) : RS pn (tRet te) (mRet me) := by
  intro F H σ env Sl R c env' e D q
  obtain ⟨p, e1, h1, h2⟩ := bnd_of e
  split at h2
  · rename_i d e2 h3
    cases h2
    refine h F H σ env Sl R p _ h1 _ fun r F1 H1 Sl1 s1 pu1 R1 r1 => ?_
    obtain ⟨F2, Sl2, s2, R2, r2⟩ := fz_ok R1 r1 h3
    exact q r F2 H1 σ Sl2 (fun _ => False) (s1.trans s2) R2 (fun _ _ => rfl) r2 (fun _ _ z => z.elim) (fun _ z => z.elim) fun _ z => z.elim
  · cases h2
def mRetO (mo : MO) : MS := bnd mo fun o e => some (.rt o, e)
theorem rs_retO {pn : List Nat} {te : TE} {mo : MO} (h : RO te mo) : RS pn (tRet te) (mRetO mo) := by
  intro F H σ env Sl R c env' e D q
  obtain ⟨o, e1, h1, h2⟩ := bnd_of e
  cases h2
  exact h F H σ env Sl R o _ h1 _ fun v F1 H1 Sl1 T s1 R1 n => q v F1 H1 σ Sl1 T s1 R1 (fun _ _ => rfl) n.own (fun i a x => n.dj i a x) n.tr fun a z => .inl (n.nw a z)
def mRetV (j : Nat) : MS := fun env => match env[j]? with
  | some (some o) => some (.rt o, env.set j none)
  | _ => none
theorem rs_retV {pn : List Nat} {j : Nat} (hp : j ∉ pn := by decide) : RS pn (tRet (tVar j)) (mRetV j) := by
  intro F H σ env Sl R c env' e D q
  unfold mRetV at e
  split at e
  · rename_i o h0
    cases e
    obtain ⟨v, hv, w⟩ := R.at_ j o h0
    refine ⟨v, hv, q v F H (σ.set j none) (lose Sl j) (Sl j) (Step.fewer fun i a z => z.2) R.forget (fun i z => pin_set i (by simp; intro y; exact hp (y ▸ z))) w (fun i a x y => y.1 (R.dj i j a y.2 x)) (R.tr j) fun a x => .inr ⟨j, hp, x⟩⟩
  · cases e
def mRetN : MS := fun env => some (.rt (.fz .none), env)
theorem rs_retN {pn : List Nat} : RS pn tRetN mRetN := by
  intro F H σ env Sl R c env' e D q
  cases e
  exact q .non F H σ Sl (fun _ => False) Step.refl R (fun _ _ => rfl) rfl (fun _ _ z => z.elim) (fun _ z => z.elim) fun _ z => z.elim
/-- if -/
theorem rs_if {pn : List Nat} {pu : Bool} {tc : TT} {t u : TS} {mc : MT} {m n : MS} (h : RT pu tc mc) (h1 : RS pn t m) (h2 : RS pn u n) : RS pn (tIfS tc t u) (mIf mc m n) := by
  intro F H σ env Sl R c env' e D q
  obtain ⟨b1, e1, x1, x2⟩ := bnd_of e
  refine h F H σ env Sl R b1 _ x1 _ fun r F1 H1 Sl1 s1 pu1 R1 r1 => ?_
  cases r1
  cases b1 with
  | true =>
    rw [if_pos rfl]
    exact h1 F1 H1 σ e1 Sl1 R1 c _ x2 D (q.step s1 fun _ _ => rfl)
  | false =>
    rw [if_neg Bool.false_ne_true]
    exact h2 F1 H1 σ e1 Sl1 R1 c _ x2 D (q.step s1 fun _ _ => rfl)
/-- x += e of whole numbers, by f -/
def mAug (i : Nat) (f : Int → Int → Int) (me : ME) : MS := fun env => match env[i]? with
  | some (some (.fz (.int x))) => match me env with
    | some (.val (.int y), e1) => some (.nx, e1.set i (some (.fz (.int (f x y)))))
    | _ => none
  | _ => none
theorem rs_aug {pn : List Nat} {pu : Bool} {te : TE} {me : ME} {i : Nat} {f : Int → Int → Int} (h : RE pu te me) (hp : i ∉ pn := by decide) : RS pn (tAug i te (ipI f)) (mAug i f me) := by
  intro F H σ env Sl R c env' e D q
  unfold mAug at e
  split at e
  · rename_i x h0
    split at e
    · rename_i y e1 h1
      cases e
      obtain ⟨v, hv, w⟩ := R.at_ i _ h0
      refine ⟨v, hv, ?_⟩
      refine h F H σ env Sl R _ _ h1 _ fun r F1 H1 Sl1 s1 pu1 R1 r1 => ?_
      refine ⟨x, y, w, pint r1, ?_⟩
      exact q F1 H1 _ _ (s1.trans (Step.fewer fun _ _ z => z.2)) (R1.putD (d := .int (f x y)) rfl) fun j z => pin_set j (by simp; intro y; exact hp (y ▸ z))
    · cases e
  · cases e
end Tr
namespace Tr
open PySem PySem.Spec PyProof.Rows L2

/-! ### loops -/
def mForGo (mg : PyData → En → Option En) (mb : MS) : List PyData → MS
  | [], env => some (.nx, env)
  | d :: ds, env => match mg d env with
    | some e1 => match mb e1 with
      | some (.nx, e2) => mForGo mg mb ds e2
      | some (.ct, e2) => mForGo mg mb ds e2
      | some (.bk, e2) => some (.nx, e2)
      | some (.rt o, e2) => some (.rt o, e2)
      | none => none
    | none => none
def mFor (mi : ML) (mg : PyData → En → Option En) (mb : MS) : MS := bnd mi fun ds e => mForGo mg mb ds e
theorem rs_for {pn : List Nat} {wi : TI} {g : TG} {tb : TS} {is : List Nat} {mi : ML} {mg : PyData → En → Option En} {mb : MS} (hi : RI wi mi) (hg : RT' is g mg) (hb : RS pn tb mb) (hp : ∀ i, i ∈ pn → i ∉ is := by simp) : RS pn (tFor wi g tb) (mFor mi mg mb) := by
  intro F H σ env Sl R c env' e D q
  obtain ⟨xs, e0, h1, h2⟩ := bnd_of e
  refine hi F H σ env Sl R xs _ h1 _ fun J F1 H1 Sl1 s1 R1 hJ => ?_
  have q1 := q.step s1 fun _ _ => rfl
  refine ⟨fun i m σi Hi => ∃ Fi Sli envi, i ≤ xs.length ∧ m = xs.length - i ∧ Ex F1 Fi ∧ REnv Fi Hi σi envi Sli ∧ EndsAt pn D Fi Hi Sli σi c env' ∧ mForGo mg mb (xs.drop i) envi = some (c, env'), ⟨xs.length, F1, Sl1, e0, Nat.zero_le _, by omega, Ex.refl F1, R1, q1, h2⟩, ?_⟩
  rintro i m σi Hi ⟨Fi, Sli, envi, hil, hm, exi, Ri, qi, go⟩
  cases hx : xs[i]? with
  | none =>
    have hge : xs.length ≤ i := List.getElem?_eq_none_iff.mp hx
    rw [List.drop_eq_nil_of_le hge] at go
    have go' : some (Ctl.nx, envi) = some (c, env') := go
    cases go'
    exact .inl ⟨(hJ Fi Hi exi Ri.ex i).2 hx, qi Fi Hi σi Sli Step.refl Ri fun _ _ => rfl⟩
  | some d =>
    have hlt : i < xs.length := (List.getElem?_eq_some_iff.mp hx).1
    have hd : xs.drop i = d :: xs.drop (i + 1) := by
      rw [List.drop_eq_getElem_cons hlt]
      have := (List.getElem?_eq_some_iff.mp hx).2
      rw [this]
    rw [hd] at go
    unfold mForGo at go
    obtain ⟨jg, jy⟩ := (hJ Fi Hi exi Ri.ex i).1 d hx
    refine .inr ⟨jg, fun σ' H' => ∃ Fj Slj envj, i + 1 ≤ xs.length ∧ Ex F1 Fj ∧ REnv Fj H' σ' envj Slj ∧ EndsAt pn D Fj H' Slj σ' c env' ∧ mForGo mg mb (xs.drop (i + 1)) envj = some (c, env'), fun σ' H' ⟨Fj, Slj, envj, z1, z2, z3, z4, z5⟩ => ⟨xs.length - (i + 1), by omega, Fj, Slj, envj, z1, rfl, z2, z3, z4, z5⟩, fun x H' hy => ?_⟩
    obtain ⟨Fj, f1, f2, f3, f4, f5⟩ := jy x H' hy
    have Rj : REnv Fj H' σi envi Sli := Ri.grow f1 f2 f3 f4
    have qj := qi.step (Step.grow (Sl := Sli) f1 f2 f4) fun _ _ => rfl
    cases hg1 : mg d envi with
    | none => rw [hg1] at go; cases go
    | some e1 =>
      rw [hg1] at go
      refine hg Fj H' σi envi Sli x d Rj f5 e1 hg1 _ fun σ2 Sl4 R4 k4 p4 l4 => ?_
      have q4 := qj.step (Step.fewer k4) fun j z => p4 j (hp j z)
      cases hb1 : mb e1 with
      | none => simp only [hb1] at go; cases go
      | some ce =>
        obtain ⟨c1, e2⟩ := ce
        simp only [hb1] at go
        refine hb Fj H' σ2 e1 Sl4 R4 c1 e2 hb1 _ ?_
        cases c1 with
        | nx => exact fun F' H'' σ' Sl' s' R' p' => ⟨F', Sl', e2, hlt, exi.trans (f1.trans s'.exF), R', q4.step s' p', go⟩
        | ct => exact fun F' H'' σ' Sl' s' R' p' => ⟨F', Sl', e2, hlt, exi.trans (f1.trans s'.exF), R', q4.step s' p', go⟩
        | bk => cases go; exact q4
        | rt o => cases go; exact q4
/-- at most n turns -/
def mWhile (mc : MT) (mb : MS) : Nat → MS
  | 0, _ => none
  | n + 1, env => match mc env with
    | some (true, e1) => match mb e1 with
      | some (.nx, e2) => mWhile mc mb n e2
      | some (.ct, e2) => mWhile mc mb n e2
      | some (.bk, e2) => some (.nx, e2)
      | some (.rt o, e2) => some (.rt o, e2)
      | none => none
    | some (false, e1) => some (.nx, e1)
    | none => none
theorem rs_while {pn : List Nat} {pu : Bool} {tc : TT} {tb : TS} {mc : MT} {mb : MS} (n : Nat) (hc : RT pu tc mc) (hb : RS pn tb mb) : RS pn (tWhile tc tb) (mWhile mc mb n) := by
  intro F H σ env Sl R c env' e D q
  refine ⟨fun m σi Hi => ∃ Fi Sli envi, REnv Fi Hi σi envi Sli ∧ EndsAt pn D Fi Hi Sli σi c env' ∧ mWhile mc mb m envi = some (c, env'), ⟨n, F, Sl, env, R, q, e⟩, ?_⟩
  rintro m σi Hi ⟨Fi, Sli, envi, Ri, qi, go⟩
  cases m with
  | zero => cases go
  | succ m =>
    unfold mWhile at go
    cases hc1 : mc envi with
    | none => rw [hc1] at go; cases go
    | some be =>
      obtain ⟨b, e1⟩ := be
      rw [hc1] at go
      refine hc Fi Hi σi envi Sli Ri b e1 hc1 _ fun r F1 H1 Sl1 s1 pu1 R1 r1 => ?_
      cases r1
      have q1 := qi.step s1 fun _ _ => rfl
      cases b with
      | false =>
        rw [if_neg Bool.false_ne_true]
        cases go
        exact q1 F1 H1 σi Sl1 Step.refl R1 fun _ _ => rfl
      | true =>
        rw [if_pos rfl]
        cases hb1 : mb e1 with
        | none => simp only [hb1] at go; cases go
        | some ce =>
          obtain ⟨c1, e2⟩ := ce
          simp only [hb1] at go
          refine ⟨fun σ' H' => ∃ Fi Sli envi, REnv Fi H' σ' envi Sli ∧ EndsAt pn D Fi H' Sli σ' c env' ∧ mWhile mc mb m envi = some (c, env'), fun σ' H' z => ⟨m, Nat.lt_succ_self m, z⟩, hb F1 H1 σi e1 Sl1 R1 c1 e2 hb1 _ ?_⟩
          cases c1 with
          | nx => exact fun F' H'' σ' Sl' s' R' p' => ⟨F', Sl', e2, R', q1.step s' p', go⟩
          | ct => exact fun F' H'' σ' Sl' s' R' p' => ⟨F', Sl', e2, R', q1.step s' p', go⟩
          | bk => cases go; exact q1
          | rt o => cases go; exact q1

/-! ### defs and calls -/
/-- a def as a function of what it is given: what it gives back, and what its parameters' lists hold then -/
abbrev MF := List O → Option (O × List O)
def mDef (n np : Nat) (pn : List Nat) (m : MS) : MF := fun os => if os.length = np then match m (os.map some ++ List.replicate (n - os.length) none) with
  | some (.rt r, env) => fin pn os env r
  | some (.nx, env) => fin pn os env (.fz .none)
  | _ => none else none
where
  fin (pn : List Nat) (os : List O) (env : En) (r : O) : Option (O × List O) := (finL pn os env).map fun os' => (r, os')
  finL : List Nat → List O → En → Option (List O)
    | [], os, _ => some os
    | j :: pn, os, env => match env[j]? with
      | some (some o) => finL pn (os.set j o) env
      | _ => none
theorem finL_spec : ∀ {pn : List Nat} {os os' : List O} {env : En}, mDef.finL pn os env = some os' → os'.length = os.length ∧ (∀ k, k ∉ pn → os'[k]? = os[k]?) ∧ (∀ k, k ∈ pn → k < os.length → ∃ o, env[k]? = some (some o) ∧ os'[k]? = some o)
  | [], os, os', env, h => by
    cases h
    exact ⟨rfl, fun _ _ => rfl, fun k hk => by simp at hk⟩
  | j :: pn, os, os', env, h => by
    unfold mDef.finL at h
    split at h
    · rename_i o ho
      obtain ⟨l, a, b⟩ := finL_spec h
      rw [List.length_set] at l b
      refine ⟨l, fun k hk => ?_, fun k hk hl => ?_⟩
      · have n1 : k ≠ j := fun z => hk (by rw [z]; exact List.mem_cons_self)
        rw [a k (fun z => hk (List.mem_cons_of_mem _ z)), List.getElem?_set_ne (Ne.symm n1)]
      · by_cases hp : k ∈ pn
        · exact b k hp hl
        · rcases List.mem_cons.mp hk with rfl | z
          · refine ⟨o, ho, ?_⟩
            rw [a k hp, List.getElem?_set_self (by exact hl)]
          · exact absurd z hp
    · cases h
/-- nothing is held among them, but for the place pn -/
def plainO : O → Bool
  | .fz _ => true
  | .sc _ _ => true
  | .kt _ _ => true
  | _ => false
theorem plain_own {F H F' H' : Hp} {o : O} {v : V} {S T : Addr → Prop} (h : Own F H o v S) (e : Ex F F') (p : plainO o = true) : Own F' H' o v T := by
  cases o with
  | fz d => exact Rp.mono e h
  | sc K ns => obtain ⟨a, q, h⟩ := h; exact ⟨a, q, ex_sq e h⟩
  | kt K xs => obtain ⟨a, q, h⟩ := h; exact ⟨a, q, ex_sqT e h⟩
  | rg _ _ => cases p
  | ow _ => cases p
  | ow2 _ => cases p
  | ob _ _ _ => cases p
  | tp _ => cases p
  | dk _ => cases p
  | dt _ => cases p
def spOf (pn : List Nat) (mf : MF) : Sp := fun vs H Q _ => ∃ F os Sl r os', REnv F H (vs.map some) (os.map some) Sl ∧ (∀ k b, Sl k b → k ∈ pn) ∧ (∀ k o, os[k]? = some o → k ∉ pn → plainO o = true) ∧ mf os = some (r, os') ∧
  ∀ v F' H' Sl' T, Step F H Sl F' H' Sl' → REnv F' H' (vs.map some) (os'.map some) Sl' → (∀ k b, Sl' k b → k ∈ pn) → New F' H H' Sl' r v T → Q v H'
theorem by_len {n np : Nat} {pn : List Nat} {m : MS} {vs : List V} {H : Hp} {Q : VK} {E : XK} (h : spOf pn (mDef n np pn m) vs H Q E) : vs.length = np := by
  obtain ⟨F, os, Sl, r, os', R, _, _, hm, _⟩ := h
  have hl := R.len
  rw [List.length_map, List.length_map] at hl
  unfold mDef at hm
  split at hm
  · rename_i hn
    rw [hl, hn]
  · cases hm
end Tr
namespace Tr
open PySem PySem.Spec PyProof.Rows L2

theorem start_at {N : List Str} {vs : List V} {i : Nat} : (L2.start N vs)[i]? = if i < vs.length then (vs[i]?).map some else (if i < vs.length + (N.length - vs.length) then some none else none) := by
  unfold L2.start
  by_cases h : i < vs.length
  · rw [if_pos h, List.getElem?_append_left (by rw [List.length_map]; exact h), List.getElem?_map]
  · rw [if_neg h, List.getElem?_append_right (by rw [List.length_map]; omega), List.length_map, List.getElem?_replicate]
    by_cases h2 : i < vs.length + (N.length - vs.length)
    · rw [if_pos h2, if_pos (by omega)]
    · rw [if_neg h2, if_neg (by omega)]
theorem args_at {α : Type} {l : List α} {i : Nat} {o : α} (h : (l.map some)[i]? = some (some o)) : l[i]? = some o := by
  rw [List.getElem?_map] at h
  cases q : l[i]? with
  | none => rw [q] at h; cases h
  | some x => rw [q] at h; cases h; rfl
theorem env0_at {os : List O} {n i : Nat} {o : O} (h : (os.map some ++ List.replicate n none)[i]? = some (some o)) : os[i]? = some o := by
  by_cases hi : i < os.length
  · rw [List.getElem?_append_left (by rw [List.length_map]; exact hi)] at h
    exact args_at h
  · rw [List.getElem?_append_right (by rw [List.length_map]; omega), List.getElem?_replicate] at h
    split at h <;> cases h
theorem start_of {N : List Str} {vs : List V} {i : Nat} {v : V} (h : vs[i]? = some v) : (L2.start N vs)[i]? = some (some v) := by
  rw [start_at, if_pos (List.getElem?_eq_some_iff.mp h).1, h]
  rfl
theorem REnv.enter {F H : Hp} {N : List Str} {vs : List V} {os : List O} {Sl : Nat → Addr → Prop} (R : REnv F H (vs.map some) (os.map some) Sl) : REnv F H (L2.start N vs) (os.map some ++ List.replicate (N.length - os.length) none) Sl := by
  have hl : vs.length = os.length := by
    have := R.len
    rw [List.length_map, List.length_map] at this
    exact this
  refine ⟨R.ex, ?_, fun i o h => ?_, R.dj, R.tr⟩
  · unfold L2.start
    rw [List.length_append, List.length_append, List.length_map, List.length_map, List.length_replicate, List.length_replicate, hl]
  · obtain ⟨v, e, w⟩ := R.at_ i o (by rw [List.getElem?_map, env0_at h]; rfl)
    exact ⟨v, start_of (args_at e), w⟩
/-- what is left of the arguments behind a def's body -/
theorem leave {F H F' H' : Hp} {N : List Str} {pn : List Nat} {vs : List V} {os os' : List O} {Sl Sl' : Nat → Addr → Prop} {σ' : L2.St} {env' : En} {r r' : O} (R : REnv F H (vs.map some) (os.map some) Sl) (pl : ∀ k o, os[k]? = some o → k ∉ pn → plainO o = true) (hs : ∀ k b, Sl k b → k ∈ pn)
    (s : Step F H Sl F' H' Sl') (R' : REnv F' H' σ' env' Sl') (p : ∀ i, i ∈ pn → σ'[i]? = (L2.start N vs)[i]?) (e : mDef.fin pn os env' r = some (r', os')) :
    r' = r ∧ ∃ Sl'', Step F H Sl F' H' Sl'' ∧ REnv F' H' (vs.map some) (os'.map some) Sl'' ∧ (∀ k b, Sl'' k b → k ∈ pn) ∧ ∀ i a, Sl'' i a → Sl' i a := by
  have hl := R.len
  rw [List.length_map, List.length_map] at hl
  have plain : ∀ k o, os[k]? = some o → k ∉ pn → ∃ v, vs[k]? = some v ∧ ∀ T, Own F' H' o v T := fun k o h n => by
    obtain ⟨v, e1, w⟩ := R.at_ k o (by rw [List.getElem?_map, h]; rfl)
    exact ⟨v, args_at e1, fun T => plain_own w s.exF (pl k o h n)⟩
  unfold mDef.fin at e
  cases hf : mDef.finL pn os env' with
  | none => rw [hf] at e; cases e
  | some os1 =>
    rw [hf] at e
    cases e
    obtain ⟨hl1, hout, hin⟩ := finL_spec hf
    refine ⟨rfl, fun k b => k ∈ pn ∧ Sl' k b, s.trans (Step.fewer fun i a z => z.2), ⟨R'.ex, by rw [List.length_map, List.length_map, hl1]; exact hl, fun i u h => ?_, fun i k a x y => R'.dj i k a x.2 y.2, fun i a z => R'.tr i a z.2⟩, fun k b z => z.1, fun i a z => z.2⟩
    have h := args_at h
    by_cases hi : i ∈ pn
    · have hli : i < os.length := by rw [← hl1]; exact (List.getElem?_eq_some_iff.mp h).1
      obtain ⟨o, ho, ho'⟩ := hin i hi hli
      rw [h] at ho'
      cases ho'
      obtain ⟨v, hv, w⟩ := R'.at_ i u ho
      have hj : i < vs.length := by rw [hl]; exact hli
      have hvj : vs[i]? = some v := by
        rw [p i hi, start_at, if_pos hj] at hv
        cases q : vs[i]? with
        | none => rw [q] at hv; cases hv
        | some x => rw [q] at hv; cases hv; rfl
      exact ⟨v, by rw [List.getElem?_map, hvj]; rfl, w.sub fun a z => ⟨hi, z⟩⟩
    · rw [hout i hi] at h
      obtain ⟨v', hv', rr⟩ := plain i u h hi
      exact ⟨v', by rw [List.getElem?_map, hv']; rfl, rr _⟩
theorem def_ok {pn : List Nat} {t : TS} {m : MS} {N : List Str} {vs : List V} {H : Hp} {Q : VK} {E : XK} (h : RS pn t m) {np : Nat} (hsp : spOf pn (mDef N.length np pn m) vs H Q E) : t { nx := fun _ H' => Q .non H', rt := Q } (L2.start N vs) H := by
  obtain ⟨F, os, Sl, r, os', R, hs, pl, hm, q⟩ := hsp
  unfold mDef at hm
  split at hm
  case isFalse => cases hm
  split at hm
  · rename_i o env' h1
    refine h F H _ _ Sl R.enter (.rt o) env' h1 _ fun v F' H' σ' Sl' T s R' p w dj tr nw => ?_
    obtain ⟨rfl, Sl'', s'', R'', hs'', k⟩ := leave R pl hs s R' p hm
    refine q v F' H' Sl'' T s'' R'' hs'' ⟨w, fun i a x y => dj i a x (k i a y), tr, fun a z => ?_⟩
    rcases nw a z with y | ⟨i, hi, y⟩
    · exact y
    · exact absurd (hs i a y) hi
  · rename_i env' h1
    refine h F H _ _ Sl R.enter .nx env' h1 _ fun F' H' σ' Sl' s R' p => ?_
    obtain ⟨rfl, Sl'', s'', R'', hs'', k⟩ := leave R pl hs s R' p hm
    exact q .non F' H' Sl'' (fun _ => False) s'' R'' hs'' ⟨rfl, fun _ _ z => z.elim, fun _ z => z.elim, fun _ z => z.elim⟩
  · cases hm

/-! ### a call -/
def oneA (e : En) : P → Option (O × En)
  | .k K xs => some (.kt K xs, e)
  | .val d => some (.fz d, e)
  | .var i => match fzP e (.var i) with
    | some (d, e1) => some (.fz d, e1)
    | none => none
theorem oneA_ok {F H : Hp} {σ : L2.St} {env env' : En} {Sl : Nat → Addr → Prop} {v : V} {p : P} {o : O} (R : REnv F H σ env Sl) (h : RP F σ v p) (e : oneA env p = some (o, env')) : ∃ F' Sl', Step F H Sl F' H Sl' ∧ REnv F' H σ env' Sl' ∧ plainO o = true ∧ ∀ H' T, Own F' H' o v T := by
  cases p with
  | k K xs => cases e; exact ⟨F, Sl, Step.refl, R, rfl, fun _ _ => h⟩
  | val d => cases e; exact ⟨F, Sl, Step.refl, R, rfl, fun _ _ => h⟩
  | var i =>
    simp only [oneA] at e
    split at e
    · rename_i d e1 h1
      cases e
      obtain ⟨F1, Sl1, s1, R1, r1⟩ := fz_ok R h h1
      exact ⟨F1, Sl1, s1, R1, rfl, fun _ _ => r1⟩
    · cases e
def lentOf : P → Option Nat
  | .var i => some i
  | _ => none
/-- the arguments: at a place of pn a name lends what it alone holds; elsewhere what is handed over never changes any more -/
def prepA (pn : List Nat) : Nat → List P → En → Option (List O × List (Option Nat) × En)
  | _, [], e => some ([], [], e)
  | k, p :: ps, e => match (if k ∈ pn then lentOf p else none) with
    | some i => match prepA pn (k + 1) ps e with
      | some (os, ls, e2) => some (.fz .none :: os, some i :: ls, e2)
      | none => none
    | none => match oneA e p with
      | some (o, e1) => match prepA pn (k + 1) ps e1 with
        | some (os, ls, e2) => some (o :: os, none :: ls, e2)
        | none => none
      | none => none
theorem prepA_ok {H : Hp} {σ : L2.St} {pn : List Nat} : ∀ {ps : List P} {k : Nat} {F : Hp} {env env' : En} {Sl : Nat → Addr → Prop} {vs : List V} {os : List O} {ls : List (Option Nat)}, REnv F H σ env Sl → relA F σ vs ps → prepA pn k ps env = some (os, ls, env') →
    ∃ F' Sl', Step F H Sl F' H Sl' ∧ REnv F' H σ env' Sl' ∧ os.length = vs.length ∧ ls.length = vs.length ∧ ∀ j o v l, os[j]? = some o → vs[j]? = some v → ls[j]? = some l → (l = none → plainO o = true ∧ ∀ H' T, Own F' H' o v T) ∧ ∀ i, l = some i → k + j ∈ pn ∧ σ[i]? = some (some v)
  | [], k, F, env, env', Sl, vs, os, ls, R, h, e => by
    cases h
    cases e
    exact ⟨F, Sl, Step.refl, R, rfl, rfl, fun j o v l z => by simp at z⟩
  | p :: ps, k, F, env, env', Sl, vs, os, ls, R, h, e => by
    cases h with
    | cons a b =>
      unfold prepA at e
      split at e
      · rename_i i hi
        split at e
        · rename_i os' ls' e2 h2
          cases e
          obtain ⟨F2, Sl2, s2, R2, l2, l3, r2⟩ := prepA_ok R b h2
          refine ⟨F2, Sl2, s2, R2, by simp [l2], by simp [l3], fun j o v l x y z => ?_⟩
          cases j with
          | zero =>
            cases x; cases y; cases z
            refine ⟨(fun z => nomatch z), fun i' z => ?_⟩
            cases z
            split at hi
            · rename_i hk
              cases p with
              | var i2 => cases hi; exact ⟨hk, a⟩
              | val _ => cases hi
              | k _ _ => cases hi
            · cases hi
          | succ j =>
            obtain ⟨c1, c2⟩ := r2 j o v l x y z
            exact ⟨c1, fun i' w => by rw [show k + (j + 1) = k + 1 + j by omega]; exact c2 i' w⟩
        · cases e
      · split at e
        · rename_i o1 e1 h1
          split at e
          · rename_i os' ls' e2 h2
            cases e
            obtain ⟨F1, Sl1, s1, R1, p1, r1⟩ := oneA_ok R a h1
            obtain ⟨F2, Sl2, s2, R2, l2, l3, r2⟩ := prepA_ok R1 (b.mono fun _ _ => RP.mono s1.exF) h2
            refine ⟨F2, Sl2, s1.trans s2, R2, by simp [l2], by simp [l3], fun j o v l x y z => ?_⟩
            cases j with
            | zero =>
              cases x; cases y; cases z
              exact ⟨fun _ => ⟨p1, fun H' T => plain_own (r1 H' T) s2.exF p1⟩, (fun i z => nomatch z)⟩
            | succ j =>
              obtain ⟨c1, c2⟩ := r2 j o v l x y z
              exact ⟨c1, fun i' w => by rw [show k + (j + 1) = k + 1 + j by omega]; exact c2 i' w⟩
          · cases e
        · cases e
/-- nothing is lent -/
def prepX (ps : List P) (e : En) : Option (List O × En) := match prepA [] 0 ps e with
  | some (os, _, e2) => some (os, e2)
  | none => none
theorem prepX_ok {H : Hp} {σ : L2.St} {ps : List P} {F : Hp} {env env' : En} {Sl : Nat → Addr → Prop} {vs : List V} {os : List O} (R : REnv F H σ env Sl) (h : relA F σ vs ps) (e : prepX ps env = some (os, env')) :
    ∃ F' Sl', Step F H Sl F' H Sl' ∧ REnv F' H σ env' Sl' ∧ os.length = vs.length ∧ ∀ (k : Nat) (o : O) (v : V), os[k]? = some o → vs[k]? = some v → plainO o = true ∧ ∀ H' T, Own F' H' o v T := by
  unfold prepX at e
  split at e
  · rename_i os' ls e2 h1
    cases e
    obtain ⟨F2, Sl2, s2, R2, l2, l3, sp⟩ := prepA_ok R h h1
    refine ⟨F2, Sl2, s2, R2, l2, fun k o v x y => ?_⟩
    have hk : k < ls.length := by rw [l3, ← l2]; exact (List.getElem?_eq_some_iff.mp x).1
    obtain ⟨c1, c2⟩ := sp k o v _ x y (List.getElem?_eq_getElem hk)
    cases hl : ls[k] with
    | none => exact c1 hl
    | some i => exact absurd (c2 i hl).1 (by simp)
  · cases e
/-- no name lends twice -/
def lentsOk : List (Option Nat) → Bool
  | [] => true
  | none :: ls => lentsOk ls
  | some i :: ls => !(ls.contains (some i)) && lentsOk ls
theorem lents_inj : ∀ {ls : List (Option Nat)}, lentsOk ls = true → ∀ {j k i : Nat}, ls[j]? = some (some i) → ls[k]? = some (some i) → j = k
  | [], _, j, k, i, h, _ => by simp at h
  | none :: ls, h, j, k, i, h1, h2 => by
    cases j with
    | zero => simp at h1
    | succ j => cases k with
      | zero => simp at h2
      | succ k => exact congrArg Nat.succ (lents_inj (ls := ls) h (by simpa using h1) (by simpa using h2))
  | some i' :: ls, h, j, k, i, h1, h2 => by
    have h' : (!(ls.contains (some i')) && lentsOk ls) = true := h
    rw [Bool.and_eq_true, Bool.not_eq_true'] at h'
    have no : ∀ m : Nat, ls[m]? ≠ some (some i') := fun m z => by
      have : ls.contains (some i') = true := List.contains_iff_mem.mpr (List.mem_of_getElem? z)
      rw [h'.1] at this
      cases this
    cases j with
    | zero =>
      cases h1
      cases k with
      | zero => rfl
      | succ k => exact absurd (by simpa using h2) (no k)
    | succ j => cases k with
      | zero => cases h2; exact absurd (by simpa using h1) (no j)
      | succ k => exact congrArg Nat.succ (lents_inj (ls := ls) h'.2 (by simpa using h1) (by simpa using h2))
def lendA : List (Option Nat) → List O → En → Option (List O)
  | [], [], _ => some []
  | none :: ls, o :: os, e => (lendA ls os e).map (o :: ·)
  | some i :: ls, _ :: os, e => match e[i]? with
    | some (some o) => (lendA ls os e).map (o :: ·)
    | _ => none
  | _, _, _ => none
theorem lendA_ok : ∀ {ls : List (Option Nat)} {os os1 : List O} {e : En}, lendA ls os e = some os1 → os1.length = os.length ∧ ∀ j : Nat, (ls[j]? = some none → os1[j]? = os[j]?) ∧ ∀ i, ls[j]? = some (some i) → ∃ o, e[i]? = some (some o) ∧ os1[j]? = some o
  | [], [], os1, e, h => by cases h; exact ⟨rfl, fun j => ⟨fun z => by simp at z, fun i z => by simp at z⟩⟩
  | [], _ :: _, os1, e, h => nomatch h
  | none :: ls, [], os1, e, h => nomatch h
  | some _ :: ls, [], os1, e, h => nomatch h
  | none :: ls, o :: os, os1, e, h => by
    unfold lendA at h
    cases h1 : lendA ls os e with
    | none => rw [h1] at h; cases h
    | some r =>
      rw [h1] at h
      cases h
      obtain ⟨l, a⟩ := lendA_ok h1
      refine ⟨by simp [l], fun j => ?_⟩
      cases j with
      | zero => exact ⟨fun _ => rfl, (fun i z => by simp at z)⟩
      | succ j => simpa using a j
  | some i :: ls, o :: os, os1, e, h => by
    unfold lendA at h
    split at h
    · rename_i o2 ho
      cases h1 : lendA ls os e with
      | none => rw [h1] at h; cases h
      | some r =>
        rw [h1] at h
        cases h
        obtain ⟨l, a⟩ := lendA_ok h1
        refine ⟨by simp [l], fun j => ?_⟩
        cases j with
        | zero => exact ⟨(fun z => by simp at z), fun i' z => by cases z; exact ⟨o2, ho, rfl⟩⟩
        | succ j => simpa using a j
    · cases h
def backA : List (Option Nat) → List O → En → Option En
  | [], [], e => some e
  | none :: ls, _ :: os, e => backA ls os e
  | some i :: ls, o :: os, e => backA ls os (e.set i (some o))
  | _, _, _ => none
theorem backA_ok : ∀ {ls : List (Option Nat)} {os : List O} {e e' : En}, lentsOk ls = true → backA ls os e = some e' → e'.length = e.length ∧ (∀ i : Nat, (∀ j : Nat, ls[j]? ≠ some (some i)) → e'[i]? = e[i]?) ∧ ∀ (j i : Nat) (o : O), ls[j]? = some (some i) → os[j]? = some o → i < e.length → e'[i]? = some (some o)
  | [], [], e, e', _, h => by cases h; exact ⟨rfl, fun _ _ => rfl, fun j i o z => by simp at z⟩
  | [], _ :: _, e, e', _, h => nomatch h
  | none :: ls, [], e, e', _, h => nomatch h
  | some _ :: ls, [], e, e', _, h => nomatch h
  | none :: ls, o :: os, e, e', n, h => by
    obtain ⟨l, a, b⟩ := backA_ok (ls := ls) n h
    refine ⟨l, fun i z => a i fun j w => z (j + 1) (by simpa using w), fun j i o2 x y z => ?_⟩
    cases j with
    | zero => simp at x
    | succ j => exact b j i o2 (by simpa using x) (by simpa using y) z
  | some i0 :: ls, o :: os, e, e', n, h => by
    have n' : (!(ls.contains (some i0)) && lentsOk ls) = true := n
    rw [Bool.and_eq_true, Bool.not_eq_true'] at n'
    have no : ∀ m : Nat, ls[m]? ≠ some (some i0) := fun m z => by
      have : ls.contains (some i0) = true := List.contains_iff_mem.mpr (List.mem_of_getElem? z)
      rw [n'.1] at this
      cases this
    obtain ⟨l, a, b⟩ := backA_ok (ls := ls) n'.2 h
    rw [List.length_set] at l b
    refine ⟨l, fun i z => ?_, fun j i o2 x y z => ?_⟩
    · rw [a i fun j w => z (j + 1) (by simpa using w), List.getElem?_set_ne (fun w => z 0 (by rw [w]; rfl))]
    · cases j with
      | zero =>
        cases x; cases y
        rw [a i0 no, List.getElem?_set_self z]
      | succ j => exact b j i o2 (by simpa using x) (by simpa using y) z
def callP (pn : List Nat) (mf : MF) (ps : List P) (e : En) : Option (O × En) := match prepA pn 0 ps e with
  | some (os, ls, e2) => if lentsOk ls = true then match lendA ls os e2 with
    | some os1 => match mf os1 with
      | some (r, os') => match backA ls os' e2 with
        | some e3 => some (r, e3)
        | none => none
      | none => none
    | none => none else none
  | none => none
theorem call_core {F H : Hp} {σ : L2.St} {e1 e2 : En} {Sl : Nat → Addr → Prop} {vs : List V} {ps : List P} {pn : List Nat} {mf : MF} {r : O} {E : XK} (R1 : REnv F H σ e1 Sl) (r1 : relA F σ vs ps) (h : callP pn mf ps e1 = some (r, e2)) (Q : VK)
    (q : ∀ v F' H' Sl' T, Step F H Sl F' H' Sl' → REnv F' H' σ e2 Sl' → New F' H H' Sl' r v T → Q v H') : spOf pn mf vs H Q E := by
  unfold callP at h
  split at h
  case h_2 => cases h
  rename_i os ls e3 h3
  split at h
  case isFalse => cases h
  rename_i nd
  split at h
  case h_2 => cases h
  rename_i os1 h4
  split at h
  case h_2 => cases h
  rename_i r0 os' h5
  split at h
  case h_2 => cases h
  rename_i e4 h6
  cases h
  obtain ⟨F2, Sl2, s2, R2, l2, l3, sp⟩ := prepA_ok R1 r1 h3
  obtain ⟨la, aa⟩ := lendA_ok h4
  obtain ⟨lb, ab, bb⟩ := backA_ok nd h6
  have look : ∀ {j : Nat} {o : O}, os1[j]? = some o → ∃ v l, vs[j]? = some v ∧ ls[j]? = some l ∧ ((l = none ∧ plainO o = true ∧ ∀ H' T, Own F2 H' o v T) ∨ ∃ i, l = some i ∧ j ∈ pn ∧ σ[i]? = some (some v) ∧ e3[i]? = some (some o)) := fun {j o} hj => by
    have hl : j < vs.length := by rw [← l2, ← la]; exact (List.getElem?_eq_some_iff.mp hj).1
    have ho : os[j]? = some (os[j]'(by rw [l2]; exact hl)) := List.getElem?_eq_getElem _
    have hv : vs[j]? = some vs[j] := List.getElem?_eq_getElem hl
    have hls : ls[j]? = some (ls[j]'(by rw [l3]; exact hl)) := List.getElem?_eq_getElem _
    refine ⟨_, _, hv, hls, ?_⟩
    obtain ⟨c1, c2⟩ := sp j _ _ _ ho hv hls
    cases hc : ls[j]'(by rw [l3]; exact hl) with
    | none =>
      rw [hc] at hls
      rw [(aa j).1 hls, ho] at hj
      cases hj
      exact .inl ⟨rfl, c1 hc⟩
    | some i =>
      rw [hc] at hls
      obtain ⟨o2, x, y⟩ := (aa j).2 i hls
      rw [hj] at y
      cases y
      obtain ⟨d1, d2⟩ := c2 i hc
      exact .inr ⟨i, rfl, by rw [Nat.zero_add] at d1; exact d1, d2, x⟩
  refine ⟨F2, os1, fun k b => ∃ i, ls[k]? = some (some i) ∧ Sl2 i b, _, os', ⟨R2.ex, by rw [List.length_map, List.length_map, la, l2], fun j u hu => ?_, fun a b c ⟨i, x, y⟩ ⟨i', x', y'⟩ => ?_, fun k a ⟨i, _, z⟩ => R2.tr i a z⟩, fun k b ⟨i, x, z⟩ => ?_, fun k u hu n => ?_, h5, fun v F3 H3 Sl3 T s3 R3 hs3 n3 => ?_⟩
  · obtain ⟨v, l, hv, hls, c⟩ := look (args_at hu)
    refine ⟨v, by rw [List.getElem?_map, hv]; rfl, ?_⟩
    rcases c with ⟨_, _, w⟩ | ⟨i, rfl, _, hσ, he⟩
    · exact w _ _
    · obtain ⟨v2, e5, w⟩ := R2.at_ i u he
      rw [hσ] at e5
      cases e5
      exact w.sub fun a z => ⟨i, hls, z⟩
  · cases R2.dj i i' c y y'
    exact lents_inj nd x x'
  · have hk : k < vs.length := by rw [← l3]; exact (List.getElem?_eq_some_iff.mp x).1
    have := (sp k (os[k]'(by rw [l2]; exact hk)) vs[k] _ (List.getElem?_eq_getElem _) (List.getElem?_eq_getElem _) x).2 i rfl
    rw [Nat.zero_add] at this
    exact this.1
  · obtain ⟨v, l, hv, hls, c⟩ := look hu
    rcases c with ⟨_, p, _⟩ | ⟨i, _, hk, _⟩
    · exact p
    · exact absurd hk n
  · have R3l : vs.length = os'.length := by
      have := R3.len
      rw [List.length_map, List.length_map] at this
      exact this
    have s4 : Step F2 H Sl2 F3 H3 (fun i b => (∃ k, ls[k]? = some (some i) ∧ Sl3 k b) ∨ ((∀ k : Nat, ls[k]? ≠ some (some i)) ∧ Sl2 i b)) := by
      refine ⟨s3.exF, fun b u z n => s3.fr b u z fun k ⟨i, _, y⟩ => n i y, s3.tk, fun i b z => ?_, fun b u z => ?_⟩
      · rcases z with ⟨k, hk, z⟩ | ⟨_, z⟩
        · rcases s3.own k b z with ⟨i', hk', y⟩ | y
          · rw [hk] at hk'
            cases hk'
            exact .inl y
          · exact .inr y
        · exact .inl z
      · rcases s3.fz b u z with y | y | ⟨k, i, _, y⟩
        · exact .inl y
        · exact .inr (.inl y)
        · exact .inr (.inr ⟨i, y⟩)
    have apart : ∀ i k a, (∀ k : Nat, ls[k]? ≠ some (some i)) → Sl2 i a → ¬ Sl3 k a := fun i k a n x y => by
      rcases s3.own k a y with ⟨i', hk, z⟩ | z
      · cases R2.dj i i' a x z
        exact n k hk
      · obtain ⟨_, u, z'⟩ := R2.tr i a x
        rw [z] at z'
        cases z'
    have R4 : REnv F3 H3 σ e2 (fun i b => (∃ k, ls[k]? = some (some i) ∧ Sl3 k b) ∨ ((∀ k : Nat, ls[k]? ≠ some (some i)) ∧ Sl2 i b)) := by
      refine ⟨R3.ex, by rw [lb]; exact R2.len, fun i o hi => ?_, fun i j a x y => ?_, fun i a x => ?_⟩
      · by_cases hlt : ∃ k : Nat, ls[k]? = some (some i)
        · obtain ⟨k, hk⟩ := hlt
          have hkl : k < vs.length := by rw [← l3]; exact (List.getElem?_eq_some_iff.mp hk).1
          have hok : os'[k]? = some (os'[k]'(by rw [← R3l]; exact hkl)) := List.getElem?_eq_getElem _
          obtain ⟨o2, x, _⟩ := (aa k).2 i hk
          have := bb k i _ hk hok (List.getElem?_eq_some_iff.mp x).1
          rw [hi] at this
          cases this
          obtain ⟨v7, e8, w7⟩ := R3.at_ k _ (by rw [List.getElem?_map, hok]; rfl)
          have e9 := args_at e8
          obtain ⟨_, hσ⟩ := (sp k _ v7 _ (List.getElem?_eq_getElem (by rw [l2]; exact hkl)) e9 hk).2 i rfl
          exact ⟨v7, hσ, w7.sub fun a z => .inl ⟨k, hk, z⟩⟩
        · have n : ∀ k : Nat, ls[k]? ≠ some (some i) := fun k z => hlt ⟨k, z⟩
          rw [ab i n] at hi
          obtain ⟨v7, e8, w7⟩ := R2.at_ i o hi
          exact ⟨v7, e8, (w7.ext s3.exF fun a x s y => s3.fr a x y fun m ⟨i', hm, z⟩ => by cases R2.dj i i' a s z; exact n m hm).sub fun a s => .inr ⟨n, s⟩⟩
      · rcases x with ⟨k, hk, x⟩ | ⟨n1, x⟩
        · rcases y with ⟨k', hk', y⟩ | ⟨n2, y⟩
          · cases R3.dj k k' a x y
            rw [hk] at hk'
            cases hk'
            rfl
          · exact absurd x (apart j k a n2 y)
        · rcases y with ⟨k', hk', y⟩ | ⟨n2, y⟩
          · exact absurd y (apart i k' a n1 x)
          · exact R2.dj i j a x y
      · rcases x with ⟨k, hk, x⟩ | ⟨n1, x⟩
        · exact R3.tr k a x
        · obtain ⟨y1, u, y2⟩ := R2.tr i a x
          refine ⟨?_, s3.tk a u y2⟩
          cases z : F3 a with
          | none => rfl
          | some u' =>
            rcases s3.fz a u' z with y | y | ⟨k, i', hk, y⟩
            · rw [y1] at y; cases y
            · rw [y2] at y; cases y
            · cases R2.dj i i' a x y
              exact absurd hk (n1 k)
    refine q v F3 H3 _ T (s2.trans s4) R4 ⟨n3.own, fun i a x y => ?_, n3.tr, fun a x => s2.tkb (n3.nw a x)⟩
    rcases y with ⟨k, _, y⟩ | ⟨_, y⟩
    · exact n3.dj k a x y
    · obtain ⟨_, u, z⟩ := R2.tr i a y
      rw [n3.nw a x] at z
      cases z
/-- f(..): the lists that the names at the places pn alone hold may be changed -/
def mCall (pn : List Nat) (mf : MF) (ma : MA) : MO := bnd ma fun ps e => callP pn mf ps e
theorem ro_call {pu : Bool} {ta : TA} {ma : MA} {pn : List Nat} {mf : MF} {E : XK} (h : RA pu ta ma) : RO (tCall (spOf pn mf) [] E ta) (mCall pn mf ma) := by
  intro F H σ env Sl R o env' e Q q
  obtain ⟨ps, e1, h1, h2⟩ := bnd_of e
  refine h F H σ env Sl R ps _ h1 _ fun vs F1 H1 Sl1 s1 pu1 R1 r1 => ?_
  rw [List.append_nil]
  exact call_core R1 r1 h2 Q fun v F' H' Sl' T s R' n => q v F' H' Sl' T (s1.trans s) R' (n.mono0 fun _ z => s1.tkb z)
/-- what is new is fixed at once -/
def mFz (mo : MO) : ME := bnd mo fun o e => match o.dat with
  | some d => some (.val d, e)
  | none => none
theorem re_o {te : TE} {mo : MO} (h : RO te mo) : RE false te (mFz mo) := by
  intro F H σ env Sl R p env' e Q q
  obtain ⟨o, e1, h1, h2⟩ := bnd_of e
  split at h2
  · rename_i d hd
    cases h2
    refine h F H σ env Sl R o _ h1 Q fun v F1 H1 Sl1 T s1 R1 n => ?_
    have ex : Ex F1 (fixed F1 H1 T) := fun a u z => by
      rw [fixed_out fun y => by rw [(n.tr a y).1] at z; cases z]
      exact z
    refine q v (fixed F1 H1 T) H1 Sl1 ⟨s1.exF.trans ex, s1.fr, s1.tk, s1.own, fun b u z => ?_⟩ (fun z => nomatch z) ⟨fun b u z => ?_, R1.len, fun i u z => ?_, R1.dj, fun i a z => ?_⟩ (n.own.fix (fun a z => (n.tr a z).1) hd)
    · by_cases t : T b
      · exact .inr (.inl (n.nw b t))
      · rw [fixed_out t] at z; exact s1.fz b u z
    · by_cases t : T b
      · rw [fixed_in t] at z; exact z
      · rw [fixed_out t] at z; exact R1.ex b u z
    · obtain ⟨v2, e2, w2⟩ := R1.at_ i u z
      exact ⟨v2, e2, w2.ext ex fun _ _ _ y => y⟩
    · obtain ⟨y1, y2⟩ := R1.tr i a z
      refine ⟨?_, y2⟩
      rw [fixed_out fun t => n.dj i a t z]
      exact y1
  · cases h2
end Tr
namespace Tr
open PySem PySem.Spec PyProof.Rows L2

/-! ### powers of any base -/
/-- the result within 2 ^ 27 bits -/
def CPowX (i j : Int) : Prop := 0 ≤ j ∧ (Builtin.Int.intBits i : Int) * j ≤ 2 ^ 27
theorem op_powX {X : Cx} : OpR X (binaryOp .Pow) (rI CPowX fun i j => .int (i ^ j.toNat)) := opI fun _ _ _ _ _ _ _ hc q => pow_int hc.1 hc.2 q
theorem b_pow : BinK (rI CPowX fun i j => .int (i ^ j.toNat)) (gI (fun i j => decide (0 ≤ j ∧ (Builtin.Int.intBits i : Int) * j ≤ 2 ^ 27)) fun i j => .int (i ^ j.toNat)) := bin_I (fun i j h => show 0 ≤ j ∧ (Builtin.Int.intBits i : Int) * j ≤ 2 ^ 27 from of_decide_eq_true h) fun _ _ _ => rfl
/-! ### built-in functions -/
def gLen : En → List P → Option P := fun env ps => match ps with
  | [p] => match vw env p with
    | some (.list ds) => some (.val (.int (ds.length : Nat)))
    | some (.tuple ds) => some (.val (.int (ds.length : Nat)))
    | _ => none
  | _ => none
theorem dpAll_len {K : PySem.W.Frag} {H : Hp} : ∀ {vs : List V} {ds : List PyData}, DpAll K H vs ds → vs.length = ds.length
  | _, _, .nil => rfl
  | _, _, .cons _ t => by rw [List.length_cons, List.length_cons, dpAll_len t]
theorem f_len {K : PySem.W.Frag} : FnK (fun xs H Q => ∃ p ys, xs = [.ref p] ∧ (SqL K H p ys ∨ SqT K H p ys) ∧ Q (.int ys.length) H) gLen := by
  intro F H σ env Sl xs ps p R h e Q q
  unfold gLen at e
  split at e
  · rename_i p1
    cases h with
    | cons a t =>
      cases t
      split at e
      · rename_i ds h1
        cases e
        obtain ⟨b, ys, rfl, hs, hall⟩ := rp_list.mp (vw_rp R a h1)
        exact ⟨_, _, rfl, .inl (SqL.of hs), q _ F H (Ex.refl F) (Ex.refl H) R.ex (fun _ _ z => .inl z) (by show V.int _ = V.int _; rw [hall.len])⟩
      · rename_i ds h1
        cases e
        obtain ⟨b, ys, rfl, hs, hall⟩ := rp_tuple.mp (vw_rp R a h1)
        exact ⟨_, _, rfl, .inr (SqT.of hs), q _ F H (Ex.refl F) (Ex.refl H) R.ex (fun _ _ z => .inl z) (by show V.int _ = V.int _; rw [hall.len])⟩
      · cases e
  · cases e
def gInt : En → List P → Option P := fun _ ps => match ps with
  | [.val (.int i)] => some (.val (.int i))
  | [.val (.bool b)] => some (.val (.int (if b then 1 else 0)))
  | _ => none
theorem f_int : FnK (fun xs H Q => (∃ i, xs = [.int i] ∧ Q (.int i) H) ∨ ∃ k, xs = [.bl k] ∧ Q (.int (if k then 1 else 0)) H) gInt := by
  intro F H σ env Sl xs ps p R h e Q q
  unfold gInt at e
  split at e
  · cases e
    cases h with
    | cons a t => cases t; exact .inl ⟨_, by rw [pint a], q _ F H (Ex.refl F) (Ex.refl H) R.ex (fun _ _ z => .inl z) rfl⟩
  · cases e
    cases h with
    | cons a t => cases t; exact .inr ⟨_, by rw [pbool a], q _ F H (Ex.refl F) (Ex.refl H) R.ex (fun _ _ z => .inl z) rfl⟩
  · cases e
/-- all truth values -/
def allB : List PyData → Option (List Bool)
  | [] => some []
  | .bool b :: ds => (allB ds).map (b :: ·)
  | _ :: _ => none
theorem allB_ok {F : Hp} : ∀ {ds : List PyData} {vs : List V} {bs : List Bool}, All2 (Rp F) ds vs → allB ds = some bs → vs = bs.map V.bl
  | [], _, _, .nil, e => by cases e; rfl
  | .bool b :: ds, _, _, .cons r t, e => by
    unfold allB at e
    cases h : allB ds with
    | none => rw [h] at e; cases e
    | some bs' =>
      rw [h] at e
      cases e
      rw [allB_ok t h, rp_bool r]
      rfl
  | .none :: _, _, _, _, e => nomatch e
  | .int _ :: _, _, _, _, e => nomatch e
  | .str _ :: _, _, _, _, e => nomatch e
  | .list _ :: _, _, _, _, e => nomatch e
  | .tuple _ :: _, _, _, _, e => nomatch e
  | .dict _ :: _, _, _, _, e => nomatch e
def gAll : En → List P → Option P := fun env ps => match ps with
  | [p] => ((sq env p).bind allB).map fun bs => .val (.bool (bs.all id))
  | _ => none
theorem f_all {K : PySem.W.Frag} : FnK (rAll K) gAll := by
  intro F H σ env Sl xs ps p R h e Q q
  unfold gAll at e
  split at e
  · rename_i p1
    cases h with
    | cons a t =>
      cases t
      cases h1 : sq env p1 with
      | none => rw [h1] at e; cases e
      | some ds =>
        cases h2 : allB ds with
        | none => simp only [h1, Option.bind_some, h2] at e; cases e
        | some bs =>
          simp only [h1, Option.bind_some, h2, Option.map_some] at e
          cases e
          obtain ⟨l, vs, rfl, hl, r⟩ := sq_of R a h1
          have e2 := allB_ok r h2
          exact ⟨l, bs, rfl, SqL.of (by rw [← e2]; exact hl), q _ F H (Ex.refl F) (Ex.refl H) R.ex (fun _ _ z => .inl z) rfl⟩
  · cases e
/-- all whole numbers -/
def allI : List PyData → Option (List Int)
  | [] => some []
  | .int b :: ds => (allI ds).map (b :: ·)
  | _ :: _ => none
theorem allI_ok {F : Hp} : ∀ {ds : List PyData} {vs : List V} {bs : List Int}, All2 (Rp F) ds vs → allI ds = some bs → vs = bs.map V.int
  | [], _, _, .nil, e => by cases e; rfl
  | .int b :: ds, _, _, .cons r t, e => by
    unfold allI at e
    cases h : allI ds with
    | none => rw [h] at e; cases e
    | some bs' =>
      rw [h] at e
      cases e
      rw [allI_ok t h, rp_int r]
      rfl
  | .none :: _, _, _, _, e => nomatch e
  | .bool _ :: _, _, _, _, e => nomatch e
  | .str _ :: _, _, _, _, e => nomatch e
  | .list _ :: _, _, _, _, e => nomatch e
  | .tuple _ :: _, _, _, _, e => nomatch e
  | .dict _ :: _, _, _, _, e => nomatch e
theorem allI_map : ∀ ns : List Int, allI (ns.map .int) = some ns
  | [] => rfl
  | n :: ns => by show (allI (ns.map .int)).map _ = _; rw [allI_map ns]; rfl
theorem allB_map : ∀ ns : List Bool, allB (ns.map .bool) = some ns
  | [] => rfl
  | n :: ns => by show (allB (ns.map .bool)).map _ = _; rw [allB_map ns]; rfl
/-! isinstance(x, T), T a built-in class -/
def tyName : PyData → String
  | .none => "NoneType"
  | .bool _ => "bool"
  | .int _ => "int"
  | .str _ => "str"
  | .list _ => "list"
  | .tuple _ => "tuple"
  | .dict _ => "dict"
def isT (T : String) (d : PyData) : Bool := tyName d == T || (T == "int" && tyName d == "bool")
theorem kit_key : ∀ a ∈ ["NoneType", "bool", "int", "str", "list", "tuple", "dict"], ∀ T ∈ ["int", "bool", "list", "tuple", "str"], kitB a T = some (a == T || (T == "int" && a == "bool")) := by decide +kernel
theorem kit_is (T : String) (h : T ∈ ["int", "bool", "list", "tuple", "str"]) {K : PySem.W.Frag} (d : PyData) : PySem.W.kitOne K (.type (tyName d)) (.type T) = some (isT T d) := by
  refine kit_ty (kit_key (tyName d) ?_ T h)
  cases d <;> simp [tyName]
theorem tyx_of {K : PySem.W.Frag} {H : Hp} {d : PyData} {v : V} (h : Rp H d v) : TyX K H v (.type (tyName d)) := by
  cases d with
  | none => cases (show v = .non from h); exact .base .non
  | bool b => cases (show v = .bl b from h); exact .base (.bl _)
  | int i => cases (show v = .int i from h); exact .base (.int _)
  | str x => cases (show v = .str x from h); exact .base (.str _)
  | list ds =>
    obtain ⟨a, vs, rfl, h1, _⟩ := h
    exact .base (.lst h1)
  | tuple ds =>
    obtain ⟨a, vs, rfl, h1, _⟩ := h
    exact .base (.tup h1)
  | dict kvs =>
    obtain ⟨_, a, rfl, h1⟩ := h
    exact .base (.dK h1)
def mIsi (T : String) (me : ME) : ME := bnd me fun p e => (vw e p).map fun d => (.val (.bool (isT T d)), e)
theorem re_isi {K : PySem.W.Frag} {pu : Bool} {te : TE} {me : ME} (T : String) (h : RE pu te me) (hT : T ∈ ["int", "bool", "list", "tuple", "str"] := by simp) : RE pu (tCB (rIsi K) (tCons te (tCons (tC (.ty T)) tNil))) (mIsi T me) := by
  intro F H σ env Sl R p env' e Q q
  obtain ⟨p1, e1, h1, h2⟩ := bnd_of e
  cases h3 : vw e1 p1 with
  | none => rw [h3] at h2; cases h2
  | some d =>
    rw [h3] at h2
    cases h2
    refine h F H σ env Sl R p1 _ h1 _ fun r F1 H1 Sl1 s1 pu1 R1 r1 => ?_
    have t1 := tyx_of (K := K) (vw_rp R1 r1 h3)
    exact ⟨r, .ty T, .type (tyName d), .type T, isT T d, rfl, .ty T, t1, kit_is T hT d, q _ F1 H1 Sl1 s1 pu1 R1 rfl⟩
/-! x in xs, of things without parts -/
def flat : PyData → Bool
  | .none => true
  | .bool _ => true
  | .int _ => true
  | .str _ => true
  | _ => false
def gIn (neg : Bool) : En → P → P → Option P := fun env p q => match p with
  | .val d => match sqT env q with
    | some ds => if flat d && ds.all flat then some (.val (.bool (neg ^^ ds.any fun y => PyData.eqv y d))) else none
    | none => none
  | _ => none
theorem flat_v {F : Hp} {d : PyData} {v : V} (h : Rp F d v) (e : flat d = true) : flatV v = true := by
  cases d with
  | none => rw [rp_none h]; rfl
  | bool b => rw [rp_bool h]; rfl
  | int b => rw [rp_int h]; rfl
  | str b => rw [rp_str h]; rfl
  | list ds => cases e
  | tuple ds => cases e
  | dict _ => cases e
theorem flat_vs {F : Hp} {ds : List PyData} {vs : List V} (h : All2 (Rp F) ds vs) (e : ds.all flat = true) : vs.all flatV = true := by
  induction h with
  | nil => rfl
  | cons a t ih =>
    rw [List.all_cons, Bool.and_eq_true] at e ⊢
    exact ⟨flat_v a e.1, ih e.2⟩
theorem flat_eq {F F' : Hp} {d d' : PyData} {v v' : V} (h : Rp F d v) (h' : Rp F' d' v') (e : flat d = true) (e' : flat d' = true) : eqV v v' = PyData.eqv d d' := by
  cases d with
  | none => cases d' with
    | none => rw [rp_none h, rp_none h']; simp [eqV, PyData.eqv]
    | bool b => rw [rp_none h, rp_bool h']; simp [eqV, PyData.eqv]
    | int b => rw [rp_none h, rp_int h']; simp [eqV, PyData.eqv]
    | str b => rw [rp_none h, rp_str h']; simp [eqV, PyData.eqv]
    | list ds => cases e'
    | tuple ds => cases e'
    | dict _ => cases e'
  | bool a => cases d' with
    | none => rw [rp_bool h, rp_none h']; simp [eqV, PyData.eqv]
    | bool b => rw [rp_bool h, rp_bool h']; simp [eqV, PyData.eqv]
    | int b => rw [rp_bool h, rp_int h']; simp [eqV, PyData.eqv]
    | str b => rw [rp_bool h, rp_str h']; simp [eqV, PyData.eqv]
    | list ds => cases e'
    | tuple ds => cases e'
    | dict _ => cases e'
  | int a => cases d' with
    | none => rw [rp_int h, rp_none h']; simp [eqV, PyData.eqv]
    | bool b => rw [rp_int h, rp_bool h']; simp [eqV, PyData.eqv]
    | int b => rw [rp_int h, rp_int h']; simp [eqV, PyData.eqv]
    | str b => rw [rp_int h, rp_str h']; simp [eqV, PyData.eqv]
    | list ds => cases e'
    | tuple ds => cases e'
    | dict _ => cases e'
  | str a => cases d' with
    | none => rw [rp_str h, rp_none h']; simp [eqV, PyData.eqv]
    | bool b => rw [rp_str h, rp_bool h']; simp [eqV, PyData.eqv]
    | int b => rw [rp_str h, rp_int h']; simp [eqV, PyData.eqv]
    | str b => rw [rp_str h, rp_str h']; simp [eqV, PyData.eqv]
    | list ds => cases e'
    | tuple ds => cases e'
    | dict _ => cases e'
  | list ds => cases e
  | tuple ds => cases e
  | dict _ => cases e
theorem flat_any {F F' : Hp} {ds : List PyData} {vs : List V} {d : PyData} {v : V} (h : All2 (Rp F) ds vs) (h' : Rp F' d v) (e : ds.all flat = true) (e' : flat d = true) : inV v vs = ds.any fun y => PyData.eqv y d := by
  unfold inV
  induction h with
  | nil => rfl
  | cons a t ih =>
    rw [List.all_cons, Bool.and_eq_true] at e
    rw [List.any_cons, List.any_cons, flat_eq a h' e.1 e', ih e.2]
theorem b_in {K : PySem.W.Frag} (neg : Bool) : BinK (rIn K neg) (gIn neg) := by
  intro F H σ env Sl x y p1 p2 p R h1 h2 e Q q
  unfold gIn at e
  split at e
  · rename_i d
    split at e
    · rename_i ds h3
      split at e
      · rename_i hf
        cases e
        rw [Bool.and_eq_true] at hf
        have h1' : Rp F d x := h1
        have fin : ∀ (a : Addr) (vs : List V), (SqL K H a vs ∨ SqT K H a vs) → All2 (Rp F) ds vs → y = .ref a → rIn K neg x y H Q := fun a vs hs r ey => by
          refine ⟨a, vs, ey, hs, flat_v h1' hf.1, flat_vs r hf.2, ?_⟩
          rw [flat_any r h1' hf.2 hf.1]
          refine q _ F H (Ex.refl F) (Ex.refl H) R.ex (fun _ _ z => .inl z) ?_
          show V.bl _ = V.bl _
          cases neg
          · rw [Bool.false_xor]; rfl
          · rw [Bool.true_xor]; rfl
        unfold sqT at h3
        split at h3
        · cases h3
          obtain ⟨a, vs, rfl, hH, r⟩ := rp_tuple.mp (pr_val h2)
          exact fin a vs (.inr (SqT.of (R.ex _ _ hH))) r rfl
        · obtain ⟨a, vs, rfl, hH, r⟩ := sq_of R h2 h3
          exact fin a vs (.inl (SqL.of hH)) r rfl
      · cases e
    · cases e
  · cases e
/-! -x -/
def gNeg : En → P → Option P
  | _, .val (.int i) => some (.val (.int (-i)))
  | _, _ => none
theorem u_neg : UnK (rU fun i => .int (-i)) gNeg := by
  intro F H σ env Sl x p1 p R h e Q q
  unfold gNeg at e
  split at e
  · cases e
    exact ⟨_, pint h, q _ F H (Ex.refl F) (Ex.refl H) R.ex (fun _ _ z => .inl z) rfl⟩
  · cases e
/-! a < b < c -/
def gAndB : P → Option Bool
  | .val (.bool b) => some b
  | _ => none
def mChain (g g' : En → P → P → Option P) (ma mb mc : ME) : ME := bnd ma fun p e => bnd mb (fun q e2 => match g e2 p q with
  | some (.val (.bool true)) => bnd mc (fun r e3 => (g' e3 q r).map fun z => (z, e3)) e2
  | some (.val (.bool false)) => some (.val (.bool false), e2)
  | _ => none) e
theorem re_chain {k k' : R2} {g g' : En → P → P → Option P} {pu pv pw : Bool} {ta tb tc : TE} {ma mb mc : ME} (hk : BinK k g) (hk' : BinK k' g') (ha : RE pu ta ma) (hb : RE pv tb mb) (hc : RE pw tc mc) : RE false (tChain k k' ta tb tc) (mChain g g' ma mb mc) := by
  intro F H σ env Sl R p env' e Q q
  obtain ⟨p1, e1, h1, h2⟩ := bnd_of e
  obtain ⟨p2, e2, h3, h4⟩ := bnd_of h2
  refine ha F H σ env Sl R p1 _ h1 _ fun x F1 H1 Sl1 s1 pu1 R1 r1 => ?_
  refine hb F1 H1 σ e1 Sl1 R1 p2 _ h3 _ fun y F2 H2 Sl2 s2 pu2 R2 r2 => ?_
  split at h4
  · rename_i h5
    refine hk F2 H2 σ e2 Sl2 x y p1 p2 _ R2 (r1.mono s2.exF) r2 h5 _ fun v F3 H3 f1 f2 f3 f4 r3 => ?_
    have R3 := R2.grow f1 f2 f3 f4
    have s3 := s1.trans (s2.trans (Step.grow (Sl := Sl2) f1 f2 f4))
    refine ⟨true, pbool r3, ?_⟩
    rw [if_pos rfl]
    obtain ⟨p3, e3, h6, h7⟩ := bnd_of h4
    cases h8 : g' e3 p2 p3 with
    | none => rw [h8] at h7; cases h7
    | some z =>
      rw [h8] at h7
      cases h7
      refine hc F3 H3 σ e2 Sl2 R3 p3 _ h6 _ fun w F4 H4 Sl4 s4 pu4 R4 r4 => ?_
      exact hk' F4 H4 σ _ Sl4 y w p2 p3 _ R4 ((r2.mono f1).mono s4.exF) r4 h8 Q fun v F5 H5 g1 g2 g3 g4 r5 => q v F5 H5 Sl4 (s3.trans (s4.trans (Step.grow g1 g2 g4))) (fun z => nomatch z) (R4.grow g1 g2 g3 g4) r5
  · rename_i h5
    cases h4
    refine hk F2 H2 σ _ Sl2 x y p1 p2 _ R2 (r1.mono s2.exF) r2 h5 _ fun v F3 H3 f1 f2 f3 f4 r3 => ?_
    refine ⟨false, pbool r3, ?_⟩
    rw [if_neg Bool.false_ne_true]
    exact q _ F3 H3 Sl2 (s1.trans (s2.trans (Step.grow f1 f2 f4))) (fun z => nomatch z) (R2.grow f1 f2 f3 f4) rfl
  · cases h4
end Tr
namespace Tr
open PySem PySem.Spec PyProof.Rows L2

/-! ### a list apart from all that is fixed and all that the names hold -/
structure Sd (F H : Hp) (Sl : Nat → Addr → Prop) (r : Addr) (vs : List V) : Prop where
  f : F r = none
  h : H r = some (.lst vs)
  s : ∀ i, ¬ Sl i r
theorem Sd.step {F H F' H' : Hp} {Sl Sl' : Nat → Addr → Prop} {r : Addr} {vs : List V} (d : Sd F H Sl r vs) (s : Step F H Sl F' H' Sl') : Sd F' H' Sl' r vs := by
  refine ⟨?_, s.fr r _ d.h d.s, fun i z => ?_⟩
  · cases q : F' r with
    | none => rfl
    | some o =>
      rcases s.fz r o q with y | y | ⟨j, y⟩
      · rw [d.f] at y; cases y
      · rw [d.h] at y; cases y
      · exact absurd y (d.s j)
  · rcases s.own i r z with y | y
    · exact d.s i y
    · rw [d.h] at y; cases y
theorem Sd.upd {F H : Hp} {Sl : Nat → Addr → Prop} {r p : Addr} {vs : List V} {u : HO} (d : Sd F H Sl r vs) (n : r ≠ p) : Sd F (upd H p u) Sl r vs := ⟨d.f, by rw [upd_ne n]; exact d.h, d.s⟩
/-- the rows that stand at rs, apart -/
def Rows (F H : Hp) (Sl : Nat → Addr → Prop) (rows : List (List PyData)) (rs : List Addr) : Prop := All2 (fun row r => ∃ vs, Sd F H Sl r vs ∧ All2 (Rp F) row vs) rows rs
theorem Rows.step {F H F' H' : Hp} {Sl Sl' : Nat → Addr → Prop} {rows : List (List PyData)} {rs : List Addr} (d : Rows F H Sl rows rs) (s : Step F H Sl F' H' Sl') : Rows F' H' Sl' rows rs :=
  d.mono fun _ _ ⟨vs, a, b⟩ => ⟨vs, a.step s, all_mono s.exF b⟩
theorem Rows.upd {F H : Hp} {Sl : Nat → Addr → Prop} {rows : List (List PyData)} {rs : List Addr} {p : Addr} {u : HO} (d : Rows F H Sl rows rs) (n : p ∉ rs) : Rows F (upd H p u) Sl rows rs :=
  d.monoM fun _ r _ hr ⟨vs, a, b⟩ => ⟨vs, a.upd (fun e => n (e ▸ hr)), b⟩
def mLc2Go (mg : PyData → En → Option En) (mt : MT) (mo : MO) (vs : List Nat) : List PyData → List (List PyData) → En → Option (List (List PyData) × En)
  | [], acc, env => some (acc, env)
  | d :: ds, acc, env => match mg d env with
    | some e1 => match mt e1 with
      | some (true, e2) => match mo e2 with
        | some (.ow row, e3) => if acc.length < sizeLine then mLc2Go mg mt mo vs ds (acc ++ [row]) (wipeE e3 vs) else none
        | _ => none
      | some (false, e2) => mLc2Go mg mt mo vs ds acc (wipeE e2 vs)
      | none => none
    | none => none
/-- a comprehension whose items are new lists: all held -/
def mLc2 (mi : ML) (mg : PyData → En → Option En) (mt : MT) (mo : MO) (vs : List Nat) : MO := bnd mi fun ds e => (mLc2Go mg mt mo vs ds [] (wipeE e vs)).map fun r => (.ow2 r.1, r.2)
theorem ro_lc2 {wi : TI} {g : TG} {tt : TT} {te : TE} {vs is : List Nat} {mi : ML} {mg : PyData → En → Option En} {mt : MT} {mo : MO} {pt : Bool} (hi : RI wi mi) (hg : RT' is g mg) (ht : RT pt tt mt) (he : RO te mo) (hs : ∀ i ∈ is, i ∈ vs := by decide) :
    RO (tLc wi g tt te vs) (mLc2 mi mg mt mo vs) := by
  intro F H σ env Sl R o env' e Q q
  obtain ⟨xs, e0, h1, h2⟩ := bnd_of e
  cases h3 : mLc2Go mg mt mo vs xs [] (wipeE e0 vs) with
  | none => rw [h3] at h2; cases h2
  | some re =>
    obtain ⟨rows, e9⟩ := re
    rw [h3] at h2
    cases h2
    refine hi F H σ env Sl R xs _ h1 _ fun J F1 H1 Sl1 s1 R1 hJ => ?_
    intro p np
    obtain ⟨Sl2, R2, k2⟩ := R1.wiped (vs := vs)
    have n2 : ∀ i, ¬ Sl2 i p := fun i z => fresh_notin R1 np i (k2 i p z)
    have R3 : REnv F1 (upd H1 p (.lst [])) (wipe σ vs) (wipeE e0 vs) Sl2 := R2.side (R1.ex.none np) n2
    have s3 : Step F1 H1 Sl1 F1 (upd H1 p (.lst [])) Sl2 := (Step.fewer k2).trans (Step.grow (Ex.refl F1) (Ex.new np) fun _ _ z => .inl z)
    refine ⟨fun i m Hi => ∃ Fi Sli envi acc rs, i ≤ xs.length ∧ m = xs.length - i ∧ REnv Fi Hi (wipe σ vs) envi Sli ∧ Step F1 H1 Sl1 Fi Hi Sli ∧ mLc2Go mg mt mo vs (xs.drop i) acc envi = some (rows, e9) ∧ Rows Fi Hi Sli acc rs ∧ Sd Fi Hi Sli p (rs.map V.ref) ∧ p ∉ rs ∧ rs.Nodup ∧ ∀ r ∈ rs, H1 r = none, ?_, ?_⟩
    · exact ⟨xs.length, F1, Sl2, wipeE e0 vs, [], [], Nat.zero_le _, by omega, R3, s3, h3, .nil, ⟨R1.ex.none np, upd_same, n2⟩, by simp, List.nodup_nil, by simp⟩
    · rintro i m Hi ⟨Fi, Sli, envi, acc, rs, hil, hm, Ri, si, go, ra, dp, prs, nd, nw⟩
      cases hx : xs[i]? with
      | none =>
        have hge : xs.length ≤ i := List.getElem?_eq_none_iff.mp hx
        rw [List.drop_eq_nil_of_le hge] at go
        have go' : some (acc, envi) = some (rows, e9) := go
        cases go'
        refine .inl ⟨(hJ Fi Hi si.exF Ri.ex i).2 hx, ?_⟩
        refine q _ Fi Hi Sli (fun a => a = p ∨ a ∈ rs) (s1.trans si) Ri.unwipe ⟨⟨p, rs, rfl, .inl rfl, dp.h, prs, nd, ra.monoM fun row r _ hr ⟨ws, a, b⟩ => ⟨.inr hr, ws, a.h, b⟩⟩, fun j a z y => ?_, fun a z => ?_, fun a z => ?_⟩
        · rcases z with rfl | z
          · exact dp.s j y
          · obtain ⟨k, hk⟩ := List.mem_iff_getElem?.mp z
            obtain ⟨row, _, ws, sd, _⟩ := ra.getR hk
            exact sd.s j y
        · rcases z with rfl | z
          · exact ⟨dp.f, _, dp.h⟩
          · obtain ⟨k, hk⟩ := List.mem_iff_getElem?.mp z
            obtain ⟨row, _, ws, sd, _⟩ := ra.getR hk
            exact ⟨sd.f, _, sd.h⟩
        · rcases z with rfl | z
          · exact s1.tkb np
          · exact s1.tkb (nw a z)
      | some d =>
        have hlt : i < xs.length := (List.getElem?_eq_some_iff.mp hx).1
        have hd : xs.drop i = d :: xs.drop (i + 1) := by
          rw [List.drop_eq_getElem_cons hlt]
          have := (List.getElem?_eq_some_iff.mp hx).2
          rw [this]
        rw [hd] at go
        unfold mLc2Go at go
        obtain ⟨jg, jy⟩ := (hJ Fi Hi si.exF Ri.ex i).1 d hx
        refine .inr ⟨jg, fun H' => ∃ Fi Sli envi acc rs, i + 1 ≤ xs.length ∧ REnv Fi H' (wipe σ vs) envi Sli ∧ Step F1 H1 Sl1 Fi H' Sli ∧ mLc2Go mg mt mo vs (xs.drop (i + 1)) acc envi = some (rows, e9) ∧ Rows Fi H' Sli acc rs ∧ Sd Fi H' Sli p (rs.map V.ref) ∧ p ∉ rs ∧ rs.Nodup ∧ ∀ r ∈ rs, H1 r = none,
          fun H' ⟨Fj, Slj, envj, accj, rsj, z1, z2⟩ => ⟨xs.length - (i + 1), by omega, Fj, Slj, envj, accj, rsj, z1, rfl, z2⟩, fun x H' hy => ?_⟩
        obtain ⟨Fj, f1, f2, f3, f4, f5⟩ := jy x H' hy
        have Rj : REnv Fj H' (wipe σ vs) envi Sli := Ri.grow f1 f2 f3 f4
        have sg : Step Fi Hi Sli Fj H' Sli := Step.grow f1 f2 f4
        cases hg1 : mg d envi with
        | none => rw [hg1] at go; cases go
        | some e1 =>
          rw [hg1] at go
          refine hg Fj H' (wipe σ vs) envi Sli x d Rj f5 e1 hg1 _ fun σ2 Sl4 R4 k4 p4 l4 => ?_
          have hl4 : σ2.length = σ.length := by rw [l4, wipe_length]
          have weq : wipe σ2 vs = wipe σ vs := wipe_eq p4 hl4 hs
          refine ⟨weq, ?_⟩
          have sg4 : Step Fi Hi Sli Fj H' Sl4 := sg.trans (Step.fewer k4)
          cases ht1 : mt e1 with
          | none => simp only [ht1] at go; cases go
          | some tb =>
            obtain ⟨b, e2⟩ := tb
            simp only [ht1] at go
            refine ht Fj H' σ2 e1 Sl4 R4 b e2 ht1 _ fun b' F5 H5 Sl5 s5 pu5 R5 rb => ?_
            cases rb
            have s5' := sg4.trans s5
            cases b with
            | false =>
              rw [if_neg Bool.false_ne_true]
              obtain ⟨Sl6, R6, k6⟩ := step_wiped (σ := σ) (vs := vs) R5 weq
              have s6 := s5'.trans (Step.fewer k6)
              exact ⟨F5, Sl6, _, acc, rs, hlt, R6, si.trans s6, go, ra.step s6, dp.step s6, prs, nd, nw⟩
            | true =>
              rw [if_pos rfl]
              cases he1 : mo e2 with
              | none => simp only [he1] at go; cases go
              | some pe3 =>
                obtain ⟨oo, e3⟩ := pe3
                simp only [he1] at go
                cases oo with
                | fz _ => cases go
                | rg _ _ => cases go
                | sc _ _ => cases go
                | kt _ _ => cases go
                | ob _ _ _ => cases go
                | tp _ => cases go
                | dk _ => cases go
                | dt _ => cases go
                | ow2 _ => cases go
                | ow row =>
                  simp only at go
                  split at go
                  · rename_i hlen
                    refine he F5 H5 σ2 e2 Sl5 R5 _ e3 he1 _ fun v F6 H6 Sl6 T s6 R6 n6 => ?_
                    obtain ⟨a, ws, rfl, ta, ha, rr⟩ := n6.own
                    obtain ⟨Sl8, R8, k8⟩ := step_wiped (σ := σ) (vs := vs) R6 weq
                    have s8 := s5'.trans (s6.trans (Step.fewer k8))
                    have dp5 := dp.step s5'
                    have dp8 := dp.step s8
                    have na5 : H5 a = none := n6.nw a ta
                    have nap : a ≠ p := fun z => by rw [z, dp5.h] at na5; cases na5
                    have nar : a ∉ rs := fun z => by
                      obtain ⟨k, hk⟩ := List.mem_iff_getElem?.mp z
                      obtain ⟨row', _, ws', sd, _⟩ := (ra.step s5').getR hk
                      rw [sd.h] at na5
                      cases na5
                    have sda : Sd F6 H6 Sl8 a ws := ⟨(n6.tr a ta).1, ha, fun j z => n6.dj j a ta (k8 j a z)⟩
                    have ra8 : Rows F6 H6 Sl8 (acc ++ [row]) (rs ++ [a]) := (ra.step s8).snoc ⟨ws, sda, rr⟩
                    have prs8 : p ∉ rs ++ [a] := by
                      rw [List.mem_append]
                      rintro (z | z)
                      · exact prs z
                      · exact nap (List.mem_singleton.mp z).symm
                    refine ⟨rs.map V.ref, dp8.h, by rw [List.length_map, ← ra.len]; exact hlen, F6, Sl8, _, acc ++ [row], rs ++ [a], hlt, R8.side dp8.f dp8.s, (si.trans s8).side np, go, ra8.upd prs8, ⟨dp8.f, ?_, dp8.s⟩, prs8, ?_, fun r hr => ?_⟩
                    · rw [upd_same, List.map_append]; rfl
                    · exact List.nodup_append.mpr ⟨nd, by simp, fun x hx y hy => by
                        have : y = a := by simpa using hy
                        rw [this]
                        exact fun z => nar (z ▸ hx)⟩
                    · rcases List.mem_append.mp hr with z | z
                      · exact nw r z
                      · have : r = a := by simpa using z
                        rw [this]
                        exact si.tkb (s5'.tkb na5)
                  · cases go
/-! a loop that hands over the rows of a new list, one after the other -/
def mForMGo (i : Nat) (mb : MS) : List (List PyData) → MS
  | [], env => some (.nx, env)
  | row :: rows, env => match mb (env.set i (some (.ow row))) with
    | some (.nx, e2) => mForMGo i mb rows e2
    | some (.ct, e2) => mForMGo i mb rows e2
    | some (.bk, e2) => some (.nx, e2)
    | some (.rt o, e2) => some (.rt o, e2)
    | none => none
def mForM (mo : MO) (i : Nat) (mb : MS) : MS := bnd mo fun o e => match o with
  | .ow2 rows => mForMGo i mb rows e
  | _ => none
theorem rs_forM {K : PySem.W.Frag} {pn : List Nat} {te : TE} {tb : TS} {mo : MO} {mb : MS} {i : Nat} (h : RO te mo) (hb : RS pn tb mb) (hp : i ∉ pn := by decide) : RS pn (tFor (iList K te) (gName i) tb) (mForM mo i mb) := by
  intro F H σ env Sl R c env' e D q
  obtain ⟨o, e0, h1, h2⟩ := bnd_of e
  cases o with
  | fz _ => cases h2
  | rg _ _ => cases h2
  | sc _ _ => cases h2
  | kt _ _ => cases h2
  | ob _ _ _ => cases h2
  | tp _ => cases h2
  | dk _ => cases h2
  | dt _ => cases h2
  | ow _ => cases h2
  | ow2 rows =>
    refine h F H σ env Sl R _ _ h1 _ fun v F1 H1 Sl1 T s1 R1 n1 => ?_
    obtain ⟨a, rs, rfl, ta, ha, nar, nd, rr⟩ := n1.own
    refine ⟨a, rfl, ⟨_, SqL.of ha⟩, ?_⟩
    have sd : Sd F1 H1 Sl1 a (rs.map V.ref) := ⟨(n1.tr a ta).1, ha, fun j z => n1.dj j a ta z⟩
    have rw1 : Rows F1 H1 Sl1 rows rs := rr.mono fun row r ⟨tr, ws, hr, ra⟩ => ⟨ws, ⟨(n1.tr r tr).1, hr, fun j z => n1.dj j r tr z⟩, ra⟩
    have nw : ∀ r ∈ rs, H r = none := fun r hr => by
      obtain ⟨k, hk⟩ := List.mem_iff_getElem?.mp hr
      obtain ⟨row, _, tr, _⟩ := rr.getR hk
      exact n1.nw r tr
    have hlen := rr.len
    refine ⟨fun k m σi Hi => ∃ Fi Sli envi, k ≤ rows.length ∧ m = rows.length - k ∧ REnv Fi Hi σi envi Sli ∧ Step F H Sl Fi Hi Sli ∧ (∀ j, j ∈ pn → σi[j]? = σ[j]?) ∧ Sd Fi Hi Sli a (rs.map V.ref) ∧ Rows Fi Hi Sli (rows.drop k) (rs.drop k) ∧ mForMGo i mb (rows.drop k) envi = some (c, env'), ⟨rows.length, F1, Sl1, e0, Nat.zero_le _, by omega, R1, s1, fun _ _ => rfl, sd, rw1, h2⟩, ?_⟩
    rintro k m σi Hi ⟨Fi, Sli, envi, hk, hm, Ri, si, pi, sdi, rwi, go⟩
    have hs : SqL K Hi a (rs.map V.ref) := SqL.of sdi.h
    cases hx : rows[k]? with
    | none =>
      have hge : rows.length ≤ k := List.getElem?_eq_none_iff.mp hx
      rw [List.drop_eq_nil_of_le hge] at go
      have go' : some (Ctl.nx, envi) = some (c, env') := go
      cases go'
      exact .inl ⟨⟨_, hs, by rw [List.length_map, ← hlen]; exact hge⟩, q Fi Hi σi Sli si Ri pi⟩
    | some row =>
      have hlt : k < rows.length := (List.getElem?_eq_some_iff.mp hx).1
      have hltr : k < rs.length := by omega
      have hd : rows.drop k = row :: rows.drop (k + 1) := by
        rw [List.drop_eq_getElem_cons hlt]
        have := (List.getElem?_eq_some_iff.mp hx).2
        rw [this]
      have hdr : rs.drop k = rs[k] :: rs.drop (k + 1) := List.drop_eq_getElem_cons hltr
      rw [hd] at go
      unfold mForMGo at go
      rw [hd, hdr] at rwi
      cases rwi with
      | cons r0 rt =>
        obtain ⟨ws, sdr, rar⟩ := r0
        have gx : (rs.map V.ref)[k]? = some (.ref rs[k]) := by rw [List.getElem?_map, List.getElem?_eq_getElem hltr]; rfl
        refine .inr ⟨⟨_, _, hs, gx⟩, fun σ' H' => ∃ Fj Slj envj, k + 1 ≤ rows.length ∧ REnv Fj H' σ' envj Slj ∧ Step F H Sl Fj H' Slj ∧ (∀ j, j ∈ pn → σ'[j]? = σ[j]?) ∧ Sd Fj H' Slj a (rs.map V.ref) ∧ Rows Fj H' Slj (rows.drop (k + 1)) (rs.drop (k + 1)) ∧ mForMGo i mb (rows.drop (k + 1)) envj = some (c, env'),
          fun σ' H' ⟨Fj, Slj, envj, z1, z2⟩ => ⟨rows.length - (k + 1), by omega, Fj, Slj, envj, z1, rfl, z2⟩, fun x H' hy => ?_⟩
        obtain ⟨rfl, f⟩ := hy
        have ex : x = .ref rs[k] := Option.some.inj ((f _ hs).symm.trans gx)
        subst ex
        have R2 := Ri.put (i := i) (o := .ow row) (v := .ref rs[k]) (T := fun b => b = rs[k]) ⟨rs[k], ws, rfl, rfl, sdr.h, rar⟩ (fun j b z y => absurd (z ▸ y) (sdr.s j)) fun b z => by rw [z]; exact ⟨sdr.f, _, sdr.h⟩
        have hnr : H rs[k] = none := nw _ (List.getElem_mem hltr)
        have s2 : Step F H Sl Fi H' (fun j b => (j ≠ i ∧ Sli j b) ∨ (j = i ∧ b = rs[k])) :=
          ⟨si.exF, si.fr, si.tk, fun j b z => z.elim (fun y => si.own j b y.2) fun y => .inr (by rw [y.2]; exact hnr), si.fz⟩
        have p2 : ∀ j, j ∈ pn → (σi.set i (some (V.ref rs[k])))[j]? = σ[j]? := fun j z => (pin_set j (by simp; intro y; exact hp (y ▸ z))).trans (pi j z)
        have nk : rs[k] ∉ rs.drop (k + 1) := fun z => by
          have := nd.sublist (List.drop_sublist k rs)
          rw [hdr] at this
          exact (List.nodup_cons.mp this).1 z
        have nka : rs[k] ≠ a := fun z => nar (by rw [← z]; exact List.getElem_mem hltr)
        have sd2 : Sd Fi H' (fun j b => (j ≠ i ∧ Sli j b) ∨ (j = i ∧ b = rs[k])) a (rs.map V.ref) := ⟨sdi.f, sdi.h, fun j z => z.elim (fun y => sdi.s j y.2) fun y => nka y.2.symm⟩
        have rt2 : Rows Fi H' (fun j b => (j ≠ i ∧ Sli j b) ∨ (j = i ∧ b = rs[k])) (rows.drop (k + 1)) (rs.drop (k + 1)) :=
          rt.monoM fun row' r' _ hr ⟨ws', z1, z2⟩ => ⟨ws', ⟨z1.f, z1.h, fun j z => z.elim (fun y => z1.s j y.2) fun y => nk (by rw [← y.2]; exact hr)⟩, z2⟩
        have q2 := q.step s2 p2
        cases hb1 : mb (envi.set i (some (.ow row))) with
        | none => simp only [hb1] at go; cases go
        | some ce =>
          obtain ⟨c1, e2⟩ := ce
          simp only [hb1] at go
          refine hb Fi H' _ _ _ R2 c1 e2 hb1 _ ?_
          cases c1 with
          | nx => exact fun F' H'' σ' Sl' s' R' p' => ⟨F', Sl', e2, hlt, R', s2.trans s', fun j z => (p' j z).trans (p2 j z), sd2.step s', rt2.step s', go⟩
          | ct => exact fun F' H'' σ' Sl' s' R' p' => ⟨F', Sl', e2, hlt, R', s2.trans s', fun j z => (p' j z).trans (p2 j z), sd2.step s', rt2.step s', go⟩
          | bk => cases go; exact q2
          | rt o => cases go; exact q2
/-! a cut of the script -/
open Classical in
noncomputable def mSlS (K : PySem.W.Frag) (i : Nat) (ml mh : MP) : ML := fun env => match env[i]? with
  | some (some (.sc _ _)) => (bnd ml fun lo e2 => bnd mh (fun hi e3 => match e3[i]? with
    | some (some (.sc K' ns)) => if K' = K then some (cutD (ns.map .int) lo hi, e3) else none
    | _ => none) e2) env
  | _ => none
theorem all_ints {F : Hp} : ∀ ns : List Int, All2 (Rp F) (ns.map .int) (ns.map V.int)
  | [] => .nil
  | n :: ns => .cons rfl (all_ints ns)
theorem cut_all {R : PyData → V → Prop} {ds : List PyData} {vs : List V} (r : All2 R ds vs) (lo hi : Option Int) : All2 R (cutD ds lo hi) (cutV vs lo hi) := by
  unfold cutD cutV
  rw [r.len]
  exact (r.drop _).take _
theorem rl_slS {K : PySem.W.Frag} {pv pw : Bool} {i : Nat} {tl th : TO} {ml mh : MP} (hl : RQ pv tl ml) (hh : RQ pw th mh) : RL false (tSl (rSlL K) (tVar i) tl th) (mSlS K i ml mh) := by
  intro F H σ env Sl R ds env' e Q q
  unfold mSlS at e
  split at e
  · rename_i K0 ns0 h0
    obtain ⟨v, hv, _⟩ := R.at_ i _ h0
    obtain ⟨lo, e2, h3, h4⟩ := bnd_of e
    obtain ⟨hi, e3, h5, h6⟩ := bnd_of h4
    split at h6
    · rename_i K' ns h7
      split at h6
      · rename_i hK
        subst hK
        cases h6
        refine ⟨v, hv, ?_⟩
        refine hl F H σ env Sl R lo _ h3 _ fun r' F2 H2 Sl2 s2 pu2 R2 r2 => ?_
        cases r2
        refine hh F2 H2 σ e2 Sl2 R2 hi _ h5 _ fun r'' F3 H3 Sl3 s3 pu3 R3 r3 => ?_
        cases r3
        obtain ⟨v', hv', a, rfl, hs⟩ := R3.at_ i _ h7
        rw [hv] at hv'
        cases hv'
        exact ⟨a, _, rfl, ex_sq R3.ex hs, fun b nb => q b _ F3 H3 Sl3 (s2.trans s3) (fun z => nomatch z) R3 (cut_all (all_ints ns) lo hi) nb⟩
      · cases h6
    · cases h6
  · cases e
/-! lists of lists that a name alone holds: read and written by two places -/
def mIx2 (j : Nat) (ma mb : ME) : ME := fun env => match env[j]? with
  | some (some (.ow2 _)) => (bnd ma fun p e => match p, e[j]? with
    | .val (.int a), some (some (.ow2 rows)) => match atI rows a with
      | some row => bnd mb (fun q e2 => match q with
        | .val (.int b) => (atI row b).map fun d => (.val d, e2)
        | _ => none) e
      | none => none
    | _, _ => none) env
  | _ => none
theorem re_ix2 {K : PySem.W.Frag} {pu : Bool} {j : Nat} {ta tb : TE} {ma mb : ME} (ha : RE pu ta ma) (hb : RE true tb mb) : RE false (tOp (rIx K) (tOp (rIx K) (tVar j) ta) tb) (mIx2 j ma mb) := by
  intro F H σ env Sl R p env' e Q q
  unfold mIx2 at e
  split at e
  · rename_i rows0 h0
    obtain ⟨v, hv, _⟩ := R.at_ j _ h0
    obtain ⟨p1, e1, h1, h2⟩ := bnd_of e
    split at h2
    · rename_i a rows h3
      split at h2
      · rename_i row h4
        obtain ⟨p2, e2, h5, h6⟩ := bnd_of h2
        split at h6
        · rename_i b
          cases h7 : atI row b with
          | none => rw [h7] at h6; cases h6
          | some d =>
            rw [h7] at h6
            cases h6
            refine ⟨v, hv, ?_⟩
            refine ha F H σ env Sl R _ _ h1 _ fun x F1 H1 Sl1 s1 pu1 R1 r1 => ?_
            obtain ⟨v', hv', ad, rs, rfl, _, hA, _, _, rr⟩ := R1.at_ j _ h3
            rw [hv] at hv'
            cases hv'
            obtain ⟨r, hr, sr, ws, hw, rw⟩ := atI_all rr h4
            have hr' : atI (rs.map V.ref) a = some (.ref r) := by
              unfold atI at hr ⊢
              rw [List.length_map]
              cases z : ixN rs.length a with
              | none => rw [z] at hr; cases hr
              | some k =>
                rw [z] at hr
                show (rs.map V.ref)[k]? = _
                rw [List.getElem?_map, show rs[k]? = some r from hr]
                rfl
            refine .inl ⟨ad, _, a, .ref r, rfl, pint r1, SqL.of hA, hr', ?_⟩
            refine hb F1 H1 σ e1 Sl1 R1 _ _ h5 _ fun y F2 H2 Sl2 s2 pu2 R2 r2 => ?_
            obtain ⟨_, exh, _⟩ := pu2 rfl
            obtain ⟨v2, hv2, rv2⟩ := atI_all rw h7
            exact .inl ⟨r, ws, b, v2, rfl, pint r2, SqL.of (exh _ _ hw), hv2, q _ F2 H2 Sl2 (s1.trans s2) (fun z => nomatch z) R2 (Rp.mono s2.exF rv2)⟩
        · cases h6
      · cases h2
    · cases h2
  · cases e
end Tr
namespace Tr
open PySem PySem.Spec PyProof.Rows L2

abbrev gMul : En → P → P → Option P := gI (fun i j => decide (i.natAbs.log2 + j.natAbs.log2 < 1000000)) fun i j => .int (i * j)
abbrev gFdiv : En → P → P → Option P := gI (fun _ j => decide (j ≠ 0 ∧ j.natAbs < 1073741824)) fun i j => .int (i.fdiv j)
abbrev gMod : En → P → P → Option P := gI (fun _ j => decide (j ≠ 0)) fun i j => .int (i.fmod j)
abbrev gPow : En → P → P → Option P := gI (fun i j => decide (0 ≤ j ∧ (Builtin.Int.intBits i : Int) * j ≤ 2 ^ 27)) fun i j => .int (i ^ j.toNat)
/-! list(range(..)), list(xs) -/
theorem rgV_all {F : Hp} {a b : Int} : All2 (Rp F) (rgD a (b - a).toNat) (rgV a b) := by
  unfold rgD rgV
  generalize List.range (b - a).toNat = l
  induction l with
  | nil => exact .nil
  | cons x t ih => exact .cons rfl ih
def okRg (a b : Int) : Bool := decide (-(2 ^ 62) ≤ a ∧ a < 2 ^ 62 ∧ -(2 ^ 62) ≤ b ∧ b < 2 ^ 62 ∧ (b - a).toNat ≤ 2 ^ 24)
theorem okRg_of {a b : Int} (h : okRg a b = true) : RgOk a b := show -(2 ^ 62) ≤ a ∧ a < 2 ^ 62 ∧ -(2 ^ 62) ≤ b ∧ b < 2 ^ 62 ∧ (b - a).toNat ≤ 2 ^ 24 from of_decide_eq_true h
def mLRg1 (ma : ME) : ML := bnd ma fun p e => match p with
  | .val (.int n) => if okRg 0 n then some (rgD 0 n.toNat, e) else none
  | _ => none
theorem rl_rg1 {pu : Bool} {ta : TE} {ma : ME} (h : RE pu ta ma) : RL pu (tLstRg (tRg1 ta)) (mLRg1 ma) := by
  intro F H σ env Sl R ds env' e Q q
  obtain ⟨p, e1, h1, h2⟩ := bnd_of e
  split at h2
  · rename_i n
    split at h2
    · rename_i ok
      cases h2
      refine h F H σ env Sl R _ _ h1 _ fun r F1 H1 Sl1 s1 pu1 R1 r1 => ?_
      refine ⟨n, pint r1, okRg_of ok, fun b nb => q b _ F1 H1 Sl1 s1 pu1 R1 ?_ nb⟩
      have := rgV_all (F := F1) (a := 0) (b := n)
      rw [Int.sub_zero] at this
      exact this
    · cases h2
  · cases h2
def mLRg2 (ma mb : ME) : ML := bnd ma fun p e => bnd mb (fun q e2 => match p, q with
  | .val (.int i), .val (.int j) => if okRg i j then some (rgD i (j - i).toNat, e2) else none
  | _, _ => none) e
theorem rl_rg2 {pu pv : Bool} {ta tb : TE} {ma mb : ME} (h : RE pu ta ma) (h' : RE pv tb mb) : RL (pu && pv) (tLstRg (tRg2 ta tb)) (mLRg2 ma mb) := by
  intro F H σ env Sl R ds env' e Q q
  obtain ⟨p, e1, h1, h2⟩ := bnd_of e
  obtain ⟨p2, e2, h3, h4⟩ := bnd_of h2
  split at h4
  · rename_i i j
    split at h4
    · rename_i ok
      cases h4
      refine h F H σ env Sl R _ _ h1 _ fun r F1 H1 Sl1 s1 pu1 R1 r1 => ?_
      refine h' F1 H1 σ e1 Sl1 R1 _ _ h3 _ fun r' F2 H2 Sl2 s2 pu2 R2 r2 => ?_
      exact ⟨i, j, pint (r1.mono s2.exF), pint r2, okRg_of ok, fun b nb => q b _ F2 H2 Sl2 (s1.trans s2) (pu_step (F := F) (F1 := F1) (F2 := F2) pu1 pu2) R2 rgV_all nb⟩
    · cases h4
  · cases h4
/-- a built-in that makes a list -/
def mFnL (g : En → List P → Option (List PyData)) (ma : MA) : ML := bnd ma fun p e => (g e p).map fun r => (r, e)
def FnL (k : List V → Hp → VK → Prop) (g : En → List P → Option (List PyData)) : Prop := ∀ F H σ env Sl xs ps ds, REnv F H σ env Sl → relA F σ xs ps → g env ps = some ds → ∀ Q : VK,
  (∀ p vs, All2 (Rp F) ds vs → H p = none → Q (.ref p) (upd H p (.lst vs))) → k xs H Q
theorem rl_fn {pu : Bool} {k : List V → Hp → VK → Prop} {g : En → List P → Option (List PyData)} {ta : TA} {ma : MA} (ha : RA pu ta ma) (hk : FnL k g) : RL pu (tCB k ta) (mFnL g ma) := by
  intro F H σ env Sl R ds env' e Q q
  obtain ⟨ps, e1, h1, h2⟩ := bnd_of e
  cases h3 : g e1 ps with
  | none => rw [h3] at h2; cases h2
  | some ds' =>
    rw [h3] at h2
    cases h2
    refine ha F H σ env Sl R ps _ h1 _ fun r F1 H1 Sl1 s1 pu1 R1 r1 => ?_
    exact hk F1 H1 σ _ Sl1 r ps ds R1 r1 h3 Q fun p vs rr np => q p vs F1 H1 Sl1 s1 pu1 R1 rr np
def gListOf : En → List P → Option (List PyData) := fun env ps => match ps with
  | [p] => sqT env p
  | _ => none
theorem l_list {K : PySem.W.Frag} : FnL (fun xs H Q => ∃ p ys, xs = [.ref p] ∧ (SqL K H p ys ∨ SqT K H p ys) ∧ ∀ l, H l = none → Q (.ref l) (upd H l (.lst ys))) gListOf := by
  intro F H σ env Sl xs ps ds R h e Q q
  unfold gListOf at e
  split at e
  · rename_i p1
    cases h with
    | cons a t =>
      cases t
      unfold sqT at e
      split at e
      · cases e
        obtain ⟨b, vs, rfl, hH, r⟩ := rp_tuple.mp (pr_val a)
        exact ⟨b, vs, rfl, .inr (SqT.of (R.ex _ _ hH)), fun l nl => q l vs r nl⟩
      · obtain ⟨b, vs, rfl, hH, r⟩ := sq_of R a e
        exact ⟨b, vs, rfl, .inl (SqL.of hH), fun l nl => q l vs r nl⟩
  · cases e
end Tr
namespace Tr
open PySem PySem.Spec PyProof.Rows L2
/-! the rules that speak of the written part, by its name -/
section
variable {X : Cx} {K : PySem.W.Frag}
theorem ixK (h : X.K = K := by rfl) : IxR X (rIx K) := by subst h; exact ix_seq
theorem slK (h : X.K = K := by rfl) : SlR X (rSlL K) := by subst h; exact sl_list
theorem inK (h : X.K = K := by rfl) : OpR X (compareOp .In) (rIn K false) := by subst h; exact op_in_seq
theorem notInK (h : X.K = K := by rfl) : OpR X (compareOp .NotIn) (rIn K true) := by subst h; exact op_notIn_seq
theorem eqK (hu : X.A.units + 64 < cLine) (h : X.K = K := by rfl) : OpR X (compareOp .Eq) (rEqD K) := by subst h; exact op_eqD hu
theorem neK (hu : X.A.units + 64 < cLine) (h : X.K = K := by rfl) : OpR X (compareOp .NotEq) (rNeD K) := by subst h; exact op_neD hu
theorem lenK (h : X.K = K := by rfl) : CallR X (.builtin "len") (fun xs H Q => ∃ p ys, xs = [.ref p] ∧ (SqL K H p ys ∨ SqT K H p ys) ∧ Q (.int ys.length) H) := by subst h; exact call_len_seq
theorem listK (h : X.K = K := by rfl) : CallR X (.type "list") (fun xs H Q => ∃ p ys, xs = [.ref p] ∧ (SqL K H p ys ∨ SqT K H p ys) ∧ ∀ l, H l = none → Q (.ref l) (upd H l (.lst ys))) := by subst h; exact call_list_of
theorem isiK (h : X.K = K := by rfl) : CallR X (.builtin "isinstance") (rIsi K) := by subst h; exact call_isi
theorem allK (hc : X.calm = true) (h : X.K = K := by rfl) : CallR X (.builtin "all") (rAll K) := by subst h; exact cr_all hc
theorem minK (hc : X.calm = true) (h : X.K = K := by rfl) : CallR X (.builtin "min") (rMin K) := by subst h; exact cr_min hc
theorem maxK (hc : X.calm = true) (h : X.K = K := by rfl) : CallR X (.builtin "max") (rMax K) := by subst h; exact cr_max hc
theorem sumK (hc : X.calm = true) (h : X.K = K := by rfl) : CallR X (.builtin "sum") (rSum K) := by subst h; exact cr_sum hc
variable {tg l e : Expr} {tl : TE} {ta : TA} {p pos tpos : Pos} {elts : List Expr} {kk : Nat}
theorem pi_listK (hl : PE X l tl) (h : X.K = K := by rfl) : PI X tg l (iList K tl) := by subst h; exact pi_list hl
theorem pi_tupK (hl : PE X l tl) (h : X.K = K := by rfl) : PI X tg l (iTup K tl) := by subst h; exact pi_tup hl
theorem pi_enumK (hg : Gl X "enumerate") (hm : X.mg "enumerate" = none) (ha : PA X [e] ta) (hs : starEach [e] X.env = [(false, eval e X.env)] := by rfl) (h : X.K = K := by rfl) : PI X (.Tuple elts kk tpos) (.Call (.Name "enumerate" p) [e] [] pos) (iEnum K ta) := by
  subst h; exact pi_enum hg hm ha hs
variable {k n : Nat} {t : TGs} {es : List Expr}
theorem pg_tupK (hc : X.calm = true) (h : PGs X es t) (hn : (assignEach es X.env).length = n := by rfl) (hst : (assignEach es X.env).findIdx? (·.1) = none := by rfl) (hK : X.K = K := by rfl) : PG X (.Tuple es k pos) (gTup K n t) := by
  subst hK; exact pg_tup hc h hn hst
variable {o : Expr} {es : List Expr} {to : TE} {t : TA} {name : Str} {apos cpos : Pos} {T id : String} {r : V → List V → Hp → VK → Prop}
theorem bmK {e : Expr} (h : PE X e (tBM X.K T r to t)) (hK : X.K = K := by rfl) : PE X e (tBM K T r to t) := by subst hK; exact h
theorem bm0K {e : Expr} (h : PE X e (tBM0 X.K T r to)) (hK : X.K = K := by rfl) : PE X e (tBM0 K T r to) := by subst hK; exact h
end
end Tr
namespace Tr
open PySem PySem.Spec PyProof.Rows L2
/-! ### range objects kept in a name -/
section
variable {X : Cx}
theorem rg1_call : CallR X (.type "range") (fun vs H Q => ∃ j, vs = [V.int j] ∧ ∀ p, H p = none → Q (.ref p) (upd H p (.rng 0 j))) := by
  intro pins s σ H vs us Q I r h
  obtain ⟨j, rfl, q⟩ := h
  cases r with
  | cons a t =>
    cases t
    obtain ⟨t, rfl⟩ := a
    refine call_range_1 ⟨.ref s.heap.objs.size, _, I.laid (o := .rng 0 j) (t' := s.toks + 1 + 1) (fun b o e => Heap.get?_push_of_some _ e) (Nat.le_refl _) ?_, rfl, q _ (I.hok.fresh (Nat.le_refl _))⟩
    exact ⟨s.toks, t, s.toks + 1, Heap.get?_push_size _ rfl⟩
/-- a name that holds a range is walked -/
def iRgv (i : Nat) : TI := fun σ H R => ∃ a lo hi, σ[i]? = some (some (.ref a)) ∧ H a = some (.rng lo hi) ∧ (-(2 ^ 62) ≤ lo ∧ lo < 2 ^ 62 ∧ -(2 ^ 62) ≤ hi ∧ hi < 2 ^ 62) ∧ R (Itr lo (hi - lo).toNat) H
theorem pi_rgv {tg : Expr} (i : Nat) {x : Str} {pos : Pos} (hN : X.N[i]? = some x := by rfl) (hv : Vis X.env.scope x := by first | exact Or.inl rfl | exact Or.inr (Or.inl rfl) | exact Or.inr (Or.inr rfl)) (hd : (x == ("__debug__" : Str)) = false := by decide)
    (hcd : (x == ("__classdict__" : Str)) = false := by decide) : PI X tg (.Name x pos) (iRgv i) := by
  refine ⟨fun pins s σ H R I h => ?_⟩
  obtain ⟨a, lo, hi, hs, hH, hb, q⟩ := h
  refine thn ((pe_var hN hv hd hcd).run pins s σ H (fun v H' => v = .ref a ∧ H' = H) I ⟨_, hs, rfl, rfl⟩) fun v s1 ⟨x1, H1, I1, r1, e1, e2⟩ => ?_
  subst e2
  subst e1
  cases r1
  obtain ⟨t, u, w, ho⟩ := I1.hok a _ hH
  refine wpAny_pyIter_range ho (small_one hb.1 hb.2.1 hb.2.2.1 hb.2.2.2) ?_
  refine ⟨s1.heap.objs.size, [s1.heap.objs.size], _, _, H1, rfl, I1.kept (t' := s1.toks) fun b o e => Heap.get?_push_of_some _ e, turn_range _ lo (hi - lo).toNat, ?_, fun b hb => ?_, q⟩
  · have e1 : lo + ((0 : Nat) : Int) * 1 = lo := by simp
    have e2 : (((hi - lo).toNat : Nat) : Int) - ((0 : Nat) : Int) = Builtin.Range.rangeSize lo hi 1 := by rw [rangeSize_one]; split <;> omega
    show IsRangeIter _ _ (lo + ((0 : Nat) : Int) * 1) ((((hi - lo).toNat : Nat) : Int) - ((0 : Nat) : Int)) 1
    rw [e1, e2]
    exact Heap.get?_push_size _ rfl
  · have e : b = s1.heap.objs.size := by simpa using hb
    subst e
    exact I1.fpOk (Nat.le_refl _) (I1.hok.fresh (Nat.le_refl _))
end
def mRg1 (ma : MA) : MO := bnd ma fun ps e => match ps with
  | [.val (.int j)] => some (.rg 0 j, e)
  | _ => none
theorem ro_rg1 {pu : Bool} {ta : TA} {ma : MA} (h : RA pu ta ma) : RO (tCB (fun vs H Q => ∃ j, vs = [V.int j] ∧ ∀ p, H p = none → Q (.ref p) (upd H p (.rng 0 j))) ta) (mRg1 ma) := by
  intro F H σ env Sl R o env' e Q q
  obtain ⟨ps, e1, h1, h2⟩ := bnd_of e
  split at h2
  · rename_i j
    cases h2
    refine h F H σ env Sl R _ _ h1 _ fun r F1 H1 Sl1 s1 pu1 R1 r1 => ?_
    cases r1 with
    | cons x t =>
      cases t
      refine ⟨j, by rw [pint x], fun p np => ?_⟩
      have fp := R1.ex.none np
      have n : ∀ b u, upd F1 p (.rng 0 j) b = some u → F1 b = some u ∨ H1 b = none := fun b u z => by
        by_cases hb : b = p
        · subst hb; exact .inr np
        · rw [upd_ne hb] at z; exact .inl z
      have ex : Ex (upd F1 p (.rng 0 j)) (upd H1 p (.rng 0 j)) := fun b u z => by
        by_cases hb : b = p
        · subst hb; rw [upd_same] at z ⊢; exact z
        · rw [upd_ne hb] at z ⊢; exact R1.ex b u z
      exact q _ _ _ Sl1 (fun _ => False) (s1.trans (Step.grow (Ex.new fp) (Ex.new np) n)) (R1.grow (Ex.new fp) (Ex.new np) ex n) ⟨⟨p, rfl, upd_same⟩, fun _ _ z => z.elim, fun _ z => z.elim, fun _ z => z.elim⟩
  · cases h2
def mRgv (i : Nat) : ML := fun env => match env[i]? with
  | some (some (.rg lo hi)) => if -(2 ^ 62) ≤ lo ∧ lo < 2 ^ 62 ∧ -(2 ^ 62) ≤ hi ∧ hi < 2 ^ 62 then some (rgD lo (hi - lo).toNat, env) else none
  | _ => none
theorem ri_rgv {i : Nat} : RI (iRgv i) (mRgv i) := by
  intro F H σ env Sl R ds env' e Q q
  unfold mRgv at e
  split at e
  · rename_i lo hi h0
    split at e
    · rename_i hb
      cases e
      obtain ⟨v, hv, a, rfl, ha⟩ := R.at_ i _ h0
      exact ⟨a, lo, hi, hv, R.ex _ _ ha, hb, q _ F H Sl Step.refl R it_r⟩
    · cases e
  · cases e
end Tr
namespace Tr
open PySem PySem.Spec PyProof.Rows L2
/-! ### defs that are called where no repr is under way -/
structure FnG (P : Program) (w : World) (K : PySem.W.Frag) (mg : Str → Option Value) (base : Heap) (k : Nat) (f : Addr) (fd : FuncData) (ps : List Str) (sp : Sp) : Prop where
  len : ∀ vs H Q E, sp vs H Q E → vs.length = ps.length
  go : ∀ (A : Around) (ou : List Env) (s : Shared) (H : Hp) (ar : Args) (us : List Value) (vs : List V) (Q : VK) (E : XK), Room k A → A.guards = some [] → Env0 P w K mg base A ou s H → BindsTo s fd ar (ps.zip us) → Vals vs us → sp vs H Q E →
    codeAny (model P w) A (.call (.ref f) ar) (CR CX0 ou P w H s Q E) s
section
variable {P : Program} {w : World} {K : PySem.W.Frag} {mg : Str → Option Value} {base : Heap}
theorem FnG.mono {j k : Nat} {f : Addr} {fd : FuncData} {ps : List Str} {sp : Sp} (F : FnG P w K mg base j f fd ps sp) (h : j ≤ k) : FnG P w K mg base k f fd ps sp :=
  ⟨F.len, fun A ou s H ar us vs Q E r => F.go A ou s H ar us vs Q E (r.mono h)⟩
theorem FnG.of {k : Nat} {f : Addr} {fd : FuncData} {ps : List Str} {sp : Sp} (F : FnOk P w K mg base CX0 k f fd ps sp) : FnG P w K mg base k f fd ps sp :=
  ⟨F.len, fun A ou s H ar us vs Q E r _ => F.run A ou s H ar us vs Q E r⟩
/-- a def by its body -/
theorem okG {x qual : Str} {st : Stmt} {f : Addr} {fd : FuncData} {N ps : List Str} {k : Nat} {sp : Sp} (F : Fun K x qual st f fd) (S : FnScope N ps (defScope st)) (len : ∀ vs H Q E, sp vs H Q E → vs.length = ps.length)
    (body : ∀ (cdv : Value) (A : Around) (ou : List Env) (s : Shared) (H : Hp) (vs : List V) (Q : VK) (E : XK), Room k (A.deeper (envOfC qual (defScope st) s.heap.objs.size f cdv)) → A.guards = some [] → sp vs H Q E →
      ∃ t, PSs (cxOf CX0 P w K mg base N qual (defScope st) f cdv A ou s H E).nox (defBody st) t ∧ t { nx := fun _ H' => Q .non H', rt := Q } (L2.start N vs) H) : FnG P w K mg base (k + 1) f fd ps sp := by
  obtain ⟨oc, od, kV, doc, pm, an, cdv, ct, osl, rfl, lk, hcd⟩ := F.ex
  constructor
  · exact len
  intro A ou s H ar us vs Q E room gu e0 bi rv want
  have hl := len vs H Q E want
  have here : ∀ b o, base.get? b = some o → s.heap.get? b = some o := fun b o z => (e0.bs b o z).1
  have inK : K.In s.heap := e0.mod.kin.keeps here
  have nol : s.heap.NoLimit := e0.mod.nolimit.keeps here
  have kinds : ∀ y ∈ ps.zip us, (defScope st).names.lookup y.1 = some .local ∨ ((defScope st).names.lookup y.1 = some .cell ∧ ((cellsFrom (s.heap.objs.size + 1) (defScope st).names []).lookup y.1).isSome = true) := by
    rintro ⟨nm, u⟩ hy
    cases S.par nm (List.of_mem_zip hy).1 with
    | inl z => exact .inl z
    | inr z => exact .inr ⟨z, PySem.W.cellsFrom_some _ _ _ (.inl z)⟩
  apply codeAny_call_function room.depth (inK _ _ lk) rfl S.co S.gen rfl (PySem.W.codeRec_of inK hcd)
  refine bi _ _ _ _ (wpAny_newFunctionEnv_cells S.kind kinds ?_)
  intro env eenv s1 made
  subst eenv
  refine ⟨nol.keeps made.toInCall.keep, ?_⟩
  apply codeAny_func
  obtain ⟨t, pt, qt⟩ := body cdv A ou s H vs Q E (room.deeper _) gu want
  have inv0 : Inv (cxOf CX0 P w K mg base N qual (defScope st) f cdv A ou s H E) [] (L2.start N vs) H s1 := inv_start S room.hd e0 hl rv made
  have done : ∀ {σ1 : L2.St} {H1 : Hp} {v : V} {u : Value} {s2 : Shared}, Inv (cxOf CX0 P w K mg base N qual (defScope st) f cdv A ou s H E) [] σ1 H1 s2 → RelV v u → Q v H1 → CE ou P w H s Q u s2 := by
    intro σ1 H1 v u s2 J r q
    exact ⟨v, H1, J.os, J.bare, J.base, J.hok, r, q⟩
  refine wpAny_mono (PSs.run (PSs.nox pt) [] s1 (L2.start N vs) H _ inv0 qt) ?_ fun e s2 z => z
  intro fl s2 z
  match fl, z with
  | .ret u, ⟨v, σ1, H1, J, r, q⟩ => exact done J r q
  | .next, ⟨σ1, H1, J, q⟩ => exact done (v := V.non) (u := Value.none) J rfl q
  | .brk, ⟨_, _, _, q⟩ => exact False.elim q
  | .cont, ⟨_, _, _, q⟩ => exact False.elim q
end
section
variable {X : Cx} {k n : Nat} {f : Addr} {fd : FuncData} {ps ks : List Str} {sp : Sp} {x : Str} {p pos : Pos} {e : Expr} {es : List Expr} {t tk : TA} {ds : List Value} {dvs : List V} {kws : List Keyword} {g : List Value → List Value → List Value} {gV : List V → List V → List V}
/-- behind the call: nothing but a value comes back -/
theorem backG {pins : List (Addr × Obj)} {σ : L2.St} {H : Hp} {s : Shared} {Q : VK} {u : List Value} {v : List V} {ar : Args} (F : FnG X.prog X.w X.K X.mg X.base k f fd ps sp) (room : Room k X.A) (gu : X.A.guards = some []) (I : Inv X pins σ H s)
    (bi : BindsTo s fd ar (ps.zip u)) (rv : Vals v u) (want : sp v H Q E0) : codeAny (model X.prog X.w) X.A (.call (.ref f) ar) (fun r s' => match r with | .ok (.ret u) => EP X pins σ Q u s' | .ok _ => False | .error _ => False) s := by
  refine codeAny_mono (F.go X.A X.stack s H ar u v Q E0 room gu I.env0 bi rv want) ?_
  intro r s' z
  match r, z with
  | .ok (.ret _), z => exact I.after z
  | .ok .next, z => exact z
  | .ok .brk, z => exact z
  | .ok .cont, z => exact z
  | .error _, z => exact z
theorem pe_callG (F : FnG X.prog X.w X.K X.mg X.base k f fd ps sp) (room : Room k X.A) (gu : X.A.guards = some []) (hg : Gl X x) (hm : X.mg x = some (.ref f)) (hk : PySem.W.keepIn X.K (.ref f) = true) (hb : Binds X.K fd ps ds) (hd : Vals dvs ds)
    (ha : PA X (e :: es) t) (nd : (x == ("__debug__" : Str)) = false := by decide) (st : starEach (e :: es) X.env = (false, eval e X.env) :: starEach es X.env := by rfl) (pl : (backTo pos (starEach es X.env)).any (·.1) = false := by rfl) :
    PE X (.Call (.Name x p) (e :: es) [] pos) (tCall sp dvs E0 t) := by
  constructor
  intro pins s σ H Q I h
  apply wpAny_Call_Name_kw
  refine ld_glob I hg hm ?_ nd
  refine PySem.W.callWith_K (h₀ := X.base) I.ok.mod.kin hk (thn (ha.run pos pins s σ H _ I h) ?_) st pl
  rintro us s1 ⟨vs, H1, I1, rv, q⟩
  have rv2 := Vals.append rv hd
  have len2 : (us ++ ds).length = ps.length := rv2.length.symm.trans (F.len _ _ _ _ q)
  refine ⟨I1.kIn, wpAny_call (codeAny_mono (backG F room gu I1 (hb s1 us I1.kIn len2) rv2 q) ?_)⟩
  intro r s' z
  match r, z with
  | .ok (.ret _), z => exact z
  | .ok .next, z => exact z.elim
  | .ok .brk, z => exact z.elim
  | .ok .cont, z => exact z.elim
  | .error _, z => exact z.elim
/-- f(k = v, ..); f(e, .., k = v, ..) -/
theorem pe_callGK0 (F : FnG X.prog X.w X.K X.mg X.base k f fd ps sp) (room : Room k X.A) (gu : X.A.guards = some []) (hg : Gl X x) (hm : X.mg x = some (.ref f)) (hk : PySem.W.keepIn X.K (.ref f) = true) (hb : KBn X.K fd ps 0 ks g gV)
    (hkw : PK X kws tk) (al : (backToKw pos (keywordEach kws X.env)).all (·.1.isSome) = true := by rfl) (nm : (backToKw pos (keywordEach kws X.env)).filterMap (·.1) = ks := by rfl) (nd : (x == ("__debug__" : Str)) = false := by decide)
    (pl : ((backTo pos (starEach [] X.env)).any (·.1) || (backToKw pos (keywordEach kws X.env)).any (·.1.isNone)) = false := by rfl) : PE X (.Call (.Name x p) [] kws pos) (tCallN 0 ks.length sp gV E0 tNil tk) := by
  constructor
  intro pins s σ H Q I h
  apply wpAny_Call_Name_kw
  refine ld_glob I hg hm ?_ nd
  refine PySem.W.callWith_KW0 (h₀ := X.base) I.ok.mod.kin hk al ?_ pl
  refine thn (hkw.run pos pins s σ H _ I h) ?_
  rintro ws s1 ⟨zs, H1, I1, rz, l1, l2, q⟩
  rw [nm]
  refine ⟨I1.kIn, wpAny_call (codeAny_mono (backG F room gu I1 (hb.to s1 [] ws I1.kIn rfl (rz.length.symm.trans l2)) (hb.rel .nil rz) q) ?_)⟩
  intro r s' z
  match r, z with
  | .ok (.ret _), z => exact z
  | .ok .next, z => exact z.elim
  | .ok .brk, z => exact z.elim
  | .ok .cont, z => exact z.elim
  | .error _, z => exact z.elim
theorem pe_callGK (F : FnG X.prog X.w X.K X.mg X.base k f fd ps sp) (room : Room k X.A) (gu : X.A.guards = some []) (hg : Gl X x) (hm : X.mg x = some (.ref f)) (hk : PySem.W.keepIn X.K (.ref f) = true) (hb : KBn X.K fd ps n ks g gV)
    (ha : PA X (e :: es) t) (hkw : PK X kws tk) (al : (backToKw pos (keywordEach kws X.env)).all (·.1.isSome) = true := by rfl) (nm : (backToKw pos (keywordEach kws X.env)).filterMap (·.1) = ks := by rfl) (nd : (x == ("__debug__" : Str)) = false := by decide)
    (st : starEach (e :: es) X.env = (false, eval e X.env) :: starEach es X.env := by rfl) (pl : ((backTo pos (starEach (e :: es) X.env)).any (·.1) || (backToKw pos (keywordEach kws X.env)).any (·.1.isNone)) = false := by rfl) :
    PE X (.Call (.Name x p) (e :: es) kws pos) (tCallN n ks.length sp gV E0 t tk) := by
  constructor
  intro pins s σ H Q I h
  apply wpAny_Call_Name_kw
  refine ld_glob I hg hm ?_ nd
  refine PySem.W.callWith_KW (h₀ := X.base) I.ok.mod.kin hk al (thn (ha.run pos pins s σ H _ I h) ?_) pl st
  rintro us s1 ⟨vs, H1, I1, rv, q1⟩
  refine thn (hkw.run pos pins s1 σ H1 _ I1 q1) ?_
  rintro ws s2 ⟨zs, H2, I2, rz, l1, l2, q⟩
  rw [nm]
  refine ⟨I2.kIn, wpAny_call (codeAny_mono (backG F room gu I2 (hb.to s2 us ws I2.kIn (rv.length.symm.trans l1) (rz.length.symm.trans l2)) (hb.rel rv rz) q) ?_)⟩
  intro r s' z
  match r, z with
  | .ok (.ret _), z => exact z
  | .ok .next, z => exact z.elim
  | .ok .brk, z => exact z.elim
  | .ok .cont, z => exact z.elim
  | .error _, z => exact z.elim
/-- no defaults: the values by their places among those given by place, then by name -/
def permV {α : Type} (ix : List Nat) (d : α) (us ws : List α) : List α := ix.map fun i => (us ++ ws).getD i d
theorem perm_vals {ix : List Nat} {us ws : List Value} {vs zs : List V} (r : Vals vs us) (rz : Vals zs ws) : Vals (permV ix .non vs zs) (permV ix .none us ws) := by
  have h := Vals.append r rz
  unfold permV
  induction ix with
  | nil => exact .nil
  | cons i t ih =>
    refine .cons ?_ ih
    show L2.RelV ((vs ++ zs).getD i V.non) ((us ++ ws).getD i Value.none)
    rw [List.getD_eq_getElem?_getD, List.getD_eq_getElem?_getD]
    cases q : (vs ++ zs)[i]? with
    | none => rw [h.none_of q]; rfl
    | some v =>
      obtain ⟨u, e, rr⟩ := h.get q
      rw [e]
      exact rr
theorem kb_of {K : PySem.W.Frag} {x qual : Str} {st : Stmt} (F : Fun K x qual st f fd) (ix : List Nat)
    (h : ∀ (kV doc pm : Value) (an : Option Addr) (cdv ct : Value) (us ws : List Value), us.length = n → ws.length = ks.length → bindArgs (PySem.W.fnOf x qual (defArgs st) (defBody st) (defScope st) .none kV doc pm an cdv ct) ⟨us, ks.zip ws⟩ = pure (ps.zip (permV ix .none us ws))) : KBn K fd ps n ks (permV ix .none) (permV ix .non) := by
  obtain ⟨oc, od, kV, doc, pm, an, cdv, ct, osl, rfl, lk, hcd⟩ := F.ex
  exact ⟨fun s us ws _ l1 l2 => .of_eq (h kV doc pm an cdv ct us ws l1 l2), perm_vals⟩
end
/-! the same over trees -/
def permP (ix : List Nat) (us ws : List P) : List P := ix.map fun i => (us ++ ws).getD i (.val .none)
theorem perm_rel {F : Hp} {σ : L2.St} {ix : List Nat} {vs zs : List V} {ps qs : List P} (r : relA F σ vs ps) (rz : relA F σ zs qs) : relA F σ (permV ix .non vs zs) (permP ix ps qs) := by
  have h := All2.app r rz
  unfold permV permP
  induction ix with
  | nil => exact .nil
  | cons i t ih =>
    refine .cons ?_ ih
    show RP F σ ((vs ++ zs).getD i V.non) ((ps ++ qs).getD i (.val .none))
    rw [List.getD_eq_getElem?_getD, List.getD_eq_getElem?_getD]
    cases q : (ps ++ qs)[i]? with
    | none =>
      have : (vs ++ zs)[i]? = none := by
        rw [List.getElem?_eq_none_iff, ← h.len]
        exact List.getElem?_eq_none_iff.mp q
      rw [this]
      rfl
    | some p =>
      obtain ⟨v, e, rr⟩ := h.get q
      rw [e]
      exact rr
/-- f(e, .., k = v, ..) -/
def mCallN (pn ix : List Nat) (mf : MF) (ma mk : MA) : MO := bnd ma fun ps e => bnd mk (fun qs e1 => callP pn mf (permP ix ps qs) e1) e
theorem ro_callN {pu pv : Bool} {ta tk : TA} {ma mk : MA} {mf : MF} {pn ix : List Nat} {n m : Nat} {E : XK} (h : RA pu ta ma) (h' : RA pv tk mk) (l1 : LenA n ma) (l2 : LenA m mk) : RO (tCallN n m (spOf pn mf) (permV ix .non) E ta tk) (mCallN pn ix mf ma mk) := by
  intro F H σ env Sl R o env' e Q q
  obtain ⟨ps, e1, h1, h2⟩ := bnd_of e
  obtain ⟨qs, e2, h3, h4⟩ := bnd_of h2
  refine h F H σ env Sl R ps _ h1 _ fun vs F1 H1 Sl1 s1 pu1 R1 r1 => ?_
  refine h' F1 H1 σ e1 Sl1 R1 qs _ h3 _ fun zs F2 H2 Sl2 s2 pu2 R2 r2 => ?_
  have r1' := monoA _ _ _ _ _ s2.exF r1
  exact ⟨by rw [← r1.len, l1 _ _ _ h1], by rw [← r2.len, l2 _ _ _ h3], call_core R2 (perm_rel r1' r2) h4 Q fun v F' H' Sl' T s R' n => q v F' H' Sl' T (s1.trans (s2.trans s)) R' (n.mono0 fun _ z => s1.tkb (s2.tkb z))⟩
end Tr
namespace Tr
open PySem PySem.Spec PyProof.Rows L2
/-! ### repr of data -/
mutual
def reprD : PyData → Str
  | .none => "None"
  | .bool b => if b then "True" else "False"
  | .int i => toString i
  | .str s => reprText s
  | .list ds => listText (reprDs ds)
  | .tuple ds => tupleText (reprDs ds)
  | .dict _ => ""
def reprDs : List PyData → List Str
  | [] => []
  | d :: ds => reprD d :: reprDs ds
end
mutual
/-- what repr is asked of each part -/
def reprOk : PyData → Bool
  | .none => true
  | .bool _ => true
  | .int i => decide (i.natAbs.log2 < 1920)
  | .str s => decide ((reprText s).length ≤ sizeLine)
  | .list ds => reprOks ds
  | .tuple ds => reprOks ds
  | .dict _ => false
def reprOks : List PyData → Bool
  | [] => true
  | d :: ds => reprOk d && reprOks ds
end
mutual
/-- how deep -/
def deepD : PyData → Nat
  | .list ds => deepDs ds + 1
  | .tuple ds => deepDs ds + 1
  | _ => 0
def deepDs : List PyData → Nat
  | [] => 0
  | d :: ds => max (deepD d) (deepDs ds)
end
theorem reprDs_len : ∀ ds : List PyData, (reprDs ds).length = ds.length
  | [] => rfl
  | d :: ds => by show (reprDs ds).length + 1 = ds.length + 1; rw [reprDs_len ds]
theorem reprDs_get : ∀ (ds : List PyData) (i : Nat), (reprDs ds)[i]? = (ds[i]?).map reprD
  | [], i => by simp [reprDs]
  | d :: ds, 0 => rfl
  | d :: ds, i + 1 => by
    show (reprDs ds)[i]? = _
    rw [reprDs_get ds i, List.getElem?_cons_succ]
theorem reprOks_get : ∀ {ds : List PyData} {i : Nat} {d : PyData}, reprOks ds = true → ds[i]? = some d → reprOk d = true
  | [], _, _, _, h => by simp at h
  | x :: ds, 0, d, h, e => by
    cases e
    have h' : (reprOk x && reprOks ds) = true := h
    rw [Bool.and_eq_true] at h'
    exact h'.1
  | x :: ds, i + 1, d, h, e => by
    rw [List.getElem?_cons_succ] at e
    have h' : (reprOk x && reprOks ds) = true := h
    rw [Bool.and_eq_true] at h'
    exact reprOks_get h'.2 e
theorem deepDs_get : ∀ {ds : List PyData} {i : Nat} {d : PyData}, ds[i]? = some d → deepD d ≤ deepDs ds
  | [], _, _, h => by simp at h
  | x :: ds, 0, d, e => by
    cases e
    exact Nat.le_max_left _ _
  | x :: ds, i + 1, d, e => by
    rw [List.getElem?_cons_succ] at e
    exact Nat.le_trans (deepDs_get e) (Nat.le_max_right _ _)
/-! one value is one datum -/
mutual
theorem rp_inj {F : Hp} : ∀ {d d' : PyData} {v : V}, Rp F d v → Rp F d' v → d = d'
  | .none, d', v, h, h' => by
    have e : v = .non := h
    subst e
    cases d' with
    | none => rfl
    | bool _ => exact nomatch (show V.non = V.bl _ from h')
    | int _ => exact nomatch (show V.non = V.int _ from h')
    | str _ => exact nomatch (show V.non = V.str _ from h')
    | list _ => obtain ⟨_, _, z, _⟩ := h'; exact nomatch z
    | tuple _ => obtain ⟨_, _, z, _⟩ := h'; exact nomatch z
    | dict _ => obtain ⟨_, _, z, _⟩ := h'; exact nomatch z
  | .bool b, d', v, h, h' => by
    have e : v = .bl b := h
    subst e
    cases d' with
    | none => exact nomatch (show V.bl b = V.non from h')
    | bool _ => rw [V.bl.inj (show V.bl b = V.bl _ from h')]
    | int _ => exact nomatch (show V.bl b = V.int _ from h')
    | str _ => exact nomatch (show V.bl b = V.str _ from h')
    | list _ => obtain ⟨_, _, z, _⟩ := h'; exact nomatch z
    | tuple _ => obtain ⟨_, _, z, _⟩ := h'; exact nomatch z
    | dict _ => obtain ⟨_, _, z, _⟩ := h'; exact nomatch z
  | .int b, d', v, h, h' => by
    have e : v = .int b := h
    subst e
    cases d' with
    | none => exact nomatch (show V.int b = V.non from h')
    | bool _ => exact nomatch (show V.int b = V.bl _ from h')
    | int _ => rw [V.int.inj (show V.int b = V.int _ from h')]
    | str _ => exact nomatch (show V.int b = V.str _ from h')
    | list _ => obtain ⟨_, _, z, _⟩ := h'; exact nomatch z
    | tuple _ => obtain ⟨_, _, z, _⟩ := h'; exact nomatch z
    | dict _ => obtain ⟨_, _, z, _⟩ := h'; exact nomatch z
  | .str b, d', v, h, h' => by
    have e : v = .str b := h
    subst e
    cases d' with
    | none => exact nomatch (show V.str b = V.non from h')
    | bool _ => exact nomatch (show V.str b = V.bl _ from h')
    | int _ => exact nomatch (show V.str b = V.int _ from h')
    | str _ => rw [V.str.inj (show V.str b = V.str _ from h')]
    | list _ => obtain ⟨_, _, z, _⟩ := h'; exact nomatch z
    | tuple _ => obtain ⟨_, _, z, _⟩ := h'; exact nomatch z
    | dict _ => obtain ⟨_, _, z, _⟩ := h'; exact nomatch z
  | .list ds, d', v, h, h' => by
    obtain ⟨a, vs, rfl, hF, hr⟩ := h
    cases d' with
    | none => exact nomatch (show V.ref a = V.non from h')
    | bool _ => exact nomatch (show V.ref a = V.bl _ from h')
    | int _ => exact nomatch (show V.ref a = V.int _ from h')
    | str _ => exact nomatch (show V.ref a = V.str _ from h')
    | list ds' =>
      obtain ⟨a', vs', e, hF', hr'⟩ := h'
      cases e
      rw [hF] at hF'
      cases hF'
      rw [rps_inj hr hr']
    | tuple _ =>
      obtain ⟨a', vs', e, hF', hr'⟩ := h'
      cases e
      rw [hF] at hF'
      cases hF'
    | dict _ =>
      obtain ⟨_, a', e, hF'⟩ := h'
      cases e
      rw [hF] at hF'
      cases hF'
  | .tuple ds, d', v, h, h' => by
    obtain ⟨a, vs, rfl, hF, hr⟩ := h
    cases d' with
    | none => exact nomatch (show V.ref a = V.non from h')
    | bool _ => exact nomatch (show V.ref a = V.bl _ from h')
    | int _ => exact nomatch (show V.ref a = V.int _ from h')
    | str _ => exact nomatch (show V.ref a = V.str _ from h')
    | tuple ds' =>
      obtain ⟨a', vs', e, hF', hr'⟩ := h'
      cases e
      rw [hF] at hF'
      cases hF'
      rw [rps_inj hr hr']
    | list _ =>
      obtain ⟨a', vs', e, hF', hr'⟩ := h'
      cases e
      rw [hF] at hF'
      cases hF'
    | dict _ =>
      obtain ⟨_, a', e, hF'⟩ := h'
      cases e
      rw [hF] at hF'
      cases hF'
  | .dict ks, d', v, h, h' => by
    obtain ⟨rfl, a, rfl, hF⟩ := h
    cases d' with
    | none => exact nomatch (show V.ref a = V.non from h')
    | bool _ => exact nomatch (show V.ref a = V.bl _ from h')
    | int _ => exact nomatch (show V.ref a = V.int _ from h')
    | str _ => exact nomatch (show V.ref a = V.str _ from h')
    | list _ =>
      obtain ⟨a', vs', e, hF', hr'⟩ := h'
      cases e
      rw [hF] at hF'
      cases hF'
    | tuple _ =>
      obtain ⟨a', vs', e, hF', hr'⟩ := h'
      cases e
      rw [hF] at hF'
      cases hF'
    | dict _ =>
      obtain ⟨rfl, _⟩ := h'
      rfl
theorem rps_inj {F : Hp} : ∀ {ds ds' : List PyData} {vs : List V}, Rps F ds vs → Rps F ds' vs → ds = ds'
  | [], ds', vs, h, h' => by
    have e : vs = [] := h
    subst e
    cases ds' with
    | nil => rfl
    | cons _ _ => obtain ⟨_, _, z, _⟩ := h'; exact nomatch z
  | d :: ds, ds', vs, h, h' => by
    obtain ⟨v, r, rfl, h1, h2⟩ := h
    cases ds' with
    | nil => exact nomatch (show v :: r = [] from h')
    | cons d' ds' =>
      obtain ⟨v', r', e, h1', h2'⟩ := h'
      cases e
      rw [rp_inj h1 h1', rps_inj h2 h2']
end
/-! what repr says of data that stand in the heap -/
mutual
theorem repr_ok {prog : Program} {w : World} {H : Hp} {h₀ : Heap} (ok : HOk prog w H h₀) : ∀ (d : PyData) (v : V) (u : Value), Rp H d v → L2.RelV v u → reprOk d = true →
    ∃ as : List Addr, (∀ b ∈ as, ∃ d', Rp H d' (.ref b) ∧ sizeOf d' ≤ sizeOf d) ∧ ReprK prog w as h₀ (deepD d) u (reprD d)
  | .none, v, u, h, r, k => by
    have e : v = .non := h
    subst e
    cases (show u = Value.none from r)
    exact ⟨[], fun _ z => by simp at z, ReprK.of_is ReprIs.none _ _ _⟩
  | .bool b, v, u, h, r, k => by
    have e : v = .bl b := h
    subst e
    cases (show u = Value.bool b from r)
    refine ⟨[], fun _ z => by simp at z, ?_⟩
    have := ReprK.of_is (prog := prog) (w := w) (ReprIs.bool b) [] h₀ 0
    cases b <;> exact this
  | .int i, v, u, h, r, k => by
    have e : v = .int i := h
    subst e
    obtain ⟨t, rfl⟩ := (show ∃ t, u = Value.int i t from r)
    exact ⟨[], fun _ z => by simp at z, ReprK.of_is (ReprIs.int t (of_decide_eq_true k)) _ _ _⟩
  | .str x, v, u, h, r, k => by
    have e : v = .str x := h
    subst e
    obtain ⟨t, rfl⟩ := (show ∃ t, u = Value.str x t from r)
    exact ⟨[], fun _ z => by simp at z, ReprK.of_is (ReprIs.str x t (of_decide_eq_true k)) _ _ _⟩
  | .list ds, v, u, h, r, k => by
    have h0 := h
    obtain ⟨a, vs, rfl, hF, hr⟩ := h
    cases (show u = Value.ref a from r)
    obtain ⟨z, its, n, rv, hg⟩ := ok a _ hF
    cases its with
    | nil =>
      have e1 : vs = [] := by cases rv; rfl
      subst e1
      have e2 : ds = [] := by
        cases ds with
        | nil => rfl
        | cons _ _ => obtain ⟨_, _, y, _⟩ := hr; exact nomatch y
      subst e2
      have : reprD (.list []) = ("[]" : Str) := by kernel_rfl
      rw [this]
      exact ⟨[], fun _ z => by simp at z, ReprK.listEmpty hg rfl rfl⟩
    | cons x l =>
      obtain ⟨as, has, hT⟩ := repr_oks ok ds vs (x :: l) hr rv k
      have hlen : (reprDs ds).length = (x :: l).toArray.size := by
        rw [reprDs_len, ← (rps_iff.mp hr).len.symm, rv.length]
        simp
      have na : a ∉ as := fun y => by
        obtain ⟨d', r', hs⟩ := has a y
        have := rp_inj r' h0
        rw [this] at hs
        simp at hs
        omega
      refine ⟨a :: as, fun b hb => ?_, ReprK.list hg rfl rfl na hlen fun i y hy => hT i y (by simpa using hy)⟩
      rcases List.mem_cons.mp hb with rfl | hb
      · exact ⟨_, h0, Nat.le_refl _⟩
      · obtain ⟨d', r', hs⟩ := has b hb
        exact ⟨d', r', by simp; omega⟩
  | .tuple ds, v, u, h, r, k => by
    have h0 := h
    obtain ⟨a, vs, rfl, hF, hr⟩ := h
    cases (show u = Value.ref a from r)
    obtain ⟨z, its, rv, o, hg, hc, n, hd⟩ := ok a _ hF
    obtain ⟨as, has, hT⟩ := repr_oks ok ds vs its hr rv k
    have na : a ∉ as := fun y => by
      obtain ⟨d', r', hs⟩ := has a y
      have := rp_inj r' h0
      rw [this] at hs
      simp at hs
      omega
    have hlen : (reprDs ds).length = its.length := by rw [reprDs_len, (rps_iff.mp hr).len, rv.length]
    refine ⟨a :: as, fun b hb => ?_, ReprK.tuple hg hc hd na ?_⟩
    · rcases List.mem_cons.mp hb with rfl | hb
      · exact ⟨_, h0, Nat.le_refl _⟩
      · obtain ⟨d', r', hs⟩ := has b hb
        exact ⟨d', r', by simp; omega⟩
    · show ReprAllK prog w as h₀ (deepDs ds) its.toArray.toList (reprDs ds)
      have all : ∀ (us : List Value) (ts : List Str), ts.length = us.length → (∀ (i : Nat) (y : Value), us[i]? = some y → ∃ t, ts[i]? = some t ∧ ReprK prog w as h₀ (deepDs ds) y t) → ReprAllK prog w as h₀ (deepDs ds) us ts := by
        intro us
        induction us with
        | nil => intro ts hl _; cases ts with
          | nil => exact .nil
          | cons _ _ => simp at hl
        | cons y us ih =>
          intro ts hl hx
          cases ts with
          | nil => simp at hl
          | cons t ts =>
            obtain ⟨t', e, k1⟩ := hx 0 y rfl
            cases e
            exact .cons k1 (ih ts (by simpa using hl) fun i y hy => by
              obtain ⟨t', e, k2⟩ := hx (i + 1) y (by rw [List.getElem?_cons_succ]; exact hy)
              rw [List.getElem?_cons_succ] at e
              exact ⟨t', e, k2⟩)
      exact all _ _ (by simpa using hlen) fun i y hy => hT i y (by simpa using hy)
  | .dict _, _, _, _, _, ok => nomatch ok
theorem repr_oks {prog : Program} {w : World} {H : Hp} {h₀ : Heap} (ok : HOk prog w H h₀) : ∀ (ds : List PyData) (vs : List V) (us : List Value), Rps H ds vs → L2.Vals vs us → reprOks ds = true →
    ∃ as : List Addr, (∀ b ∈ as, ∃ d', Rp H d' (.ref b) ∧ sizeOf d' < sizeOf ds) ∧ ∀ (i : Nat) (y : Value), us[i]? = some y → ∃ t, (reprDs ds)[i]? = some t ∧ ReprK prog w as h₀ (deepDs ds) y t
  | [], vs, us, h, r, k => by
    have e : vs = [] := h
    subst e
    cases r
    exact ⟨[], fun _ z => by simp at z, fun i y z => by simp at z⟩
  | d :: ds, vs, us, h, r, k => by
    obtain ⟨v, rest, rfl, h1, h2⟩ := h
    cases r with
    | cons a b =>
      have k' : (reprOk d && reprOks ds) = true := k
      rw [Bool.and_eq_true] at k'
      obtain ⟨as, x1, x2⟩ := repr_ok ok d v _ h1 a k'.1
      obtain ⟨bs, y1, y2⟩ := repr_oks ok ds rest _ h2 b k'.2
      refine ⟨as ++ bs, fun c hc => ?_, fun i y hy => ?_⟩
      · rcases List.mem_append.mp hc with hc | hc
        · obtain ⟨d', r', hs⟩ := x1 c hc
          exact ⟨d', r', by simp; omega⟩
        · obtain ⟨d', r', hs⟩ := y1 c hc
          exact ⟨d', r', by simp; omega⟩
      · cases i with
        | zero =>
          cases hy
          exact ⟨_, rfl, (x2.more fun c hc => List.mem_append.mpr (.inl hc)).level_le (Nat.le_max_left _ _)⟩
        | succ i =>
          rw [List.getElem?_cons_succ] at hy
          obtain ⟨t, e, z⟩ := y2 i y hy
          exact ⟨t, e, (z.more fun c hc => List.mem_append.mpr (.inr hc)).level_le (Nat.le_max_right _ _)⟩
end
end Tr
namespace Tr
open PySem PySem.Spec PyProof.Rows L2
section
variable {X : Cx}
def isTup : PyData → Bool
  | .tuple _ => true
  | _ => false
/-- repr(x) of data that is no tuple itself, where no repr is under way -/
def rRepr : List V → Hp → VK → Prop := fun xs H Q => ∃ x d, xs = [x] ∧ Rp H d x ∧ isTup d = false ∧ reprOk d = true ∧ deepD d ≤ 60 ∧ (reprD d).length ≤ sizeLine ∧ Q (.str (reprD d)) H
/-- the built-in over a class's own __repr__ -/
theorem repr_by {T id : String} {v : Value} {Q : Value → Shared → Prop} {E : Value → Shared → Prop} {s : Shared} {A : Around} {prog : Program} {w : World} (hu : A.units + 1 < cLine) (ty : s.TypeIs v T) (sl : Slot T "__repr__" id)
    (core : wpAny (model prog w) A.in1 (call (.builtin id) [v]) (fun u s' => ∃ x t, u = .str x t ∧ Q u s') E s) : wpAny (model prog w) A (call (.builtin "repr") [v]) Q E s := by
  apply Calls.call_function_entry F.kind_repr F.plain_repr F.entry_repr (F.args_repr1 v)
  unfold Builtin.«repr»; apply wpAny_bind (m := oneArg "repr" _); apply wpAny_pure
  apply wpAny_bind; apply wpAny_cRoomFor (show A.in1.units < cLine from hu)
  apply wpAny_bind; apply wpAny_specialOf (name := Str.ofString "__repr__") ty sl.lookup
  apply wpAny_bind (m := callSpecialIfBound? v (Str.ofString "__repr__")); apply wpAny_callSpecialIfBound?_slot (name := Str.ofString "__repr__") ty sl
  refine wpAny_mono core ?_ fun _ _ z => z
  rintro u s' ⟨x, t, rfl, q⟩
  apply wpAny_bind; apply wpAny_isInstance (T := "str") (b := true) (typeIs_str _ _ _) isSubtype_str_str
  exact wpAny_pure ⟨_, rfl, q⟩
theorem call_repr (gu : X.A.guards = some []) (hu : X.A.units + 64 < cLine) : CallR X (.builtin "repr") rRepr := by
  intro pins s σ H xs us Q I r h
  obtain ⟨x, d, rfl, hd, nt, ok, dp, sz, q⟩ := h
  obtain ⟨u, rfl, ru⟩ := vals1 r
  have fin : ∀ (h' : Heap) (tk : Nat) (t : Tok), (∀ b o, s.heap.get? b = some o → h'.get? b = some o) → EP X pins σ Q (.str (reprD d) t) { s with heap := h', toks := tk } :=
    fun h' tk t k => ⟨.str (reprD d), H, I.kept k, ⟨t, rfl⟩, q⟩
  cases d with
  | none =>
    have e : x = .non := hd
    subst e
    cases (show u = Value.none from ru)
    exact PySem.P.repr_of_none (fin s.heap _ _ fun _ _ z => z)
  | bool b =>
    have e : x = .bl b := hd
    subst e
    cases (show u = Value.bool b from ru)
    refine PySem.P.repr_of_bool ?_
    have := fin s.heap (s.toks + 1) s.toks fun _ _ z => z
    cases b <;> exact this
  | int i =>
    have e : x = .int i := hd
    subst e
    obtain ⟨t, rfl⟩ := (show ∃ t, u = Value.int i t from ru)
    exact PySem.P.repr_of_int (of_decide_eq_true ok) (fin s.heap _ _ fun _ _ z => z)
  | str y =>
    have e : x = .str y := hd
    subst e
    obtain ⟨t, rfl⟩ := (show ∃ t, u = Value.str y t from ru)
    exact PySem.P.repr_of_str (fin s.heap _ _ fun _ _ z => z) (of_decide_eq_true ok)
  | list ds =>
    have hd0 := hd
    obtain ⟨a, vs, rfl, hF, hr⟩ := hd
    cases (show u = Value.ref a from ru)
    obtain ⟨z, its, n, rv, hg⟩ := I.hok a _ hF
    refine repr_by (by omega) ⟨_, hg, rfl⟩ F.slot_list_repr ?_
    cases its with
    | nil =>
      have e1 : vs = [] := by cases rv; rfl
      subst e1
      have e2 : ds = [] := by
        cases ds with
        | nil => rfl
        | cons _ _ => obtain ⟨_, _, y, _⟩ := hr; exact nomatch y
      subst e2
      have e3 : reprD (.list []) = ("[]" : Str) := by kernel_rfl
      refine call_list_repr_empty ⟨_, hg, rfl⟩ hg rfl ?_
      rw [← e3]
      exact ⟨_, _, rfl, fin s.heap _ _ fun _ _ z => z⟩
    | cons y l =>
      obtain ⟨as, has, hT⟩ := repr_oks I.hok ds vs (y :: l) hr rv ok
      have hlen : (reprDs ds).length = (y :: l).toArray.size := by
        rw [reprDs_len, ← (rps_iff.mp hr).len.symm, rv.length]
        simp
      have na : a ∉ as := fun y => by
        obtain ⟨d', r', hs⟩ := has a y
        have := rp_inj r' hd0
        rw [this] at hs
        simp at hs
        omega
      have dp' : deepDs ds + 1 ≤ 60 := dp
      refine call_list_reprK hg rfl rfl na hlen (fun i y hy => hT i y (by simpa using hy)) (A := X.A.in1) gu (fun b _ => Clear.nil b) ?_ (fun _ _ z => z) (fun h' t tk k => ⟨_, _, rfl, fin h' tk t k⟩) sz
      show X.A.units + 1 + (deepDs ds + 1) < cLine
      omega
  | tuple ds => exact nomatch nt
  | dict _ => exact nomatch ok
end
def gRepr : En → List P → Option P := fun env ps => match ps with
  | [p] => match vw env p with
    | some d => if isTup d = false ∧ reprOk d = true ∧ deepD d ≤ 60 ∧ (reprD d).length ≤ sizeLine then some (.val (.str (reprD d))) else none
    | none => none
  | _ => none
theorem f_repr : FnK rRepr gRepr := by
  intro F H σ env Sl xs ps p R h e Q q
  unfold gRepr at e
  split at e
  · rename_i p1
    cases h with
    | cons a t =>
      cases t
      split at e
      · rename_i d h1
        split at e
        · rename_i hd
          cases e
          exact ⟨_, d, rfl, vw_rp R a h1, hd.1, hd.2.1, hd.2.2.1, hd.2.2.2, q _ F H (Ex.refl F) (Ex.refl H) R.ex (fun _ _ z => .inl z) rfl⟩
        · cases e
      · cases e
  · cases e
end Tr
namespace Tr
open PySem PySem.Spec PyProof.Rows L2
/-! ### the law's call behind the top -/
section
variable {P : Program} {w : World} {K : PySem.W.Frag} {mg mb : Str → Option Value} {k : Nat} {fa a : Addr} {fd : FuncData} {x : Str} {sp : Sp} {s1 : Shared} {vs : List Value} {ns : List Int}
/-- from an abstract heap that tracks the script at most -/
theorem from_heap {H : Hp} (KX : K.In s1.heap) (hns : s1.heap.Ns mainGlobals mg) (hb : s1.heap.Ns builtinsNs mb) (hbb : ∀ x : Str, x ≠ "__name__" → mb x = bootBuiltins x) (hlim : s1.heap.NoLimit) (hg : s1.gens = #[])
    (ha : s1.heap.get? a = some { cls := .type "list", data := .seq vs.toArray }) (room : Room k callerA) (F : ∀ base : Heap, K.In base → base.Ns mainGlobals mg → FnG P w K mg base k fa fd [x] sp)
    (bi : ∀ (s : Shared) (u : Value), BindsTo s fd ⟨[u], []⟩ [(x, u)]) (only : Only H) (want : sp [.ref a] H (fun v _ => v = .bl true) fun _ _ _ => False) (hok : HOk P w H s1.heap) (hA : ∀ b, H b ≠ none → b = a) (hK : H a ≠ none → K.lookup a = none) :
    codeAny (model P w) callerA (.call (.ref fa) ⟨[.ref a], []⟩) (fun r s' => r = .ok (.ret (.bool true)) ∧ OldK s1.heap s'.heap ∧ s'.os = s1.os ∧ AllBare s'.gens) s1 := by
  -- the base: what is not tracked
  have low : ∀ {b : Addr} {o : Obj}, s1.heap.get? b = some o → H b = none → (hidT s1.heap H).get? b = some o := fun e n => hidT_get e n
  have nsLow : ∀ {b : Addr} {m : Str → Option Value}, s1.heap.Ns b m → (hidT s1.heap H).Ns b m := by
    rintro b m ⟨o, es, ep, e, d, r⟩
    refine ⟨o, es, ep, low e ?_, d, r⟩
    cases q : H b with
    | none => rfl
    | some u =>
      have eb : b = a := hA b (by simp [q])
      rw [eb, ha] at e
      cases e
      cases (show Data.seq vs.toArray _ = Data.dict es ep from d)
  have KL : K.In (hidT s1.heap H) := by
    intro b o e
    refine low (KX b o e) ?_
    cases q : H b with
    | none => rfl
    | some u =>
      have eb : b = a := hA b (by simp [q])
      subst eb
      have := hK (by simp [q])
      rw [this] at e
      cases e
  have md : Mod K mg (hidT s1.heap H) := by
    obtain ⟨mc, h1, h2⟩ := hlim
    exact ⟨KL, nsLow hns, ⟨mb, nsLow hb, hbb⟩, ⟨mc, nsLow h1, h2⟩⟩
  have en : Env0 P w K mg (hidT s1.heap H) callerA [] s1 H := by
    refine ⟨rfl, md, fun b o e => of_hidT e, Nat.le_of_eq (hidT_size _ _), trivial, ?_, hok, .of_eq hg⟩
    intro b hb
    exact absurd (show b ∈ ([] : List Addr) from hb) (by simp)
  refine codeAny_mono ((F _ KL (nsLow hns)).go callerA [] s1 H ⟨[.ref a], []⟩ [.ref a] [.ref a] _ _ room rfl en (bi s1 (.ref a)) (.cons rfl .nil) want) ?_
  intro r s' z
  match r, z with
  | .error _, z => exact False.elim z
  | .ok .next, z => exact False.elim z
  | .ok .brk, z => exact False.elim z
  | .ok .cont, z => exact False.elim z
  | .ok (.ret u), z =>
    obtain ⟨v, H2, os, bare, un, hok2, rel, q⟩ := z
    cases (show v = .bl true from q)
    cases (show u = Value.bool true from rel)
    refine ⟨rfl, OldK.of_keep ?_, os, bare⟩
    intro b o e
    cases q : H b with
    | none => exact un.keep b o e q (fun z => absurd (show b ∈ ([] : List Addr) from z) (by simp)) (by simp)
    | some u =>
      cases only b with
      | inl z => rw [q] at z; cases z
      | inr z =>
        obtain ⟨ob, xs, z⟩ := z
        have y1 := (hok b _ z).1
        have y2 := (hok2 b _ (un.frzs b ob _ z)).1
        rw [e] at y1
        cases y1
        exact y2
/-- the law's def, called with the script -/
theorem law_go (KX : K.In s1.heap) (hns : s1.heap.Ns mainGlobals mg) (hb : s1.heap.Ns builtinsNs mb) (hbb : ∀ x : Str, x ≠ "__name__" → mb x = bootBuiltins x) (hlim : s1.heap.NoLimit) (hg : s1.gens = #[])
    (ha : s1.heap.get? a = some { cls := .type "list", data := .seq vs.toArray }) (hi : IntsAre vs ns) (hl : ns.length ≤ sizeLine) (room : Room k callerA) (F : ∀ base : Heap, K.In base → base.Ns mainGlobals mg → FnG P w K mg base k fa fd [x] sp)
    (bi : ∀ (s : Shared) (u : Value), BindsTo s fd ⟨[u], []⟩ [(x, u)]) (want : ∀ H : Hp, Only H → SqL K H a (ns.map V.int) → sp [.ref a] H (fun v _ => v = .bl true) fun _ _ _ => False) :
    codeAny (model P w) callerA (.call (.ref fa) ⟨[.ref a], []⟩) (fun r s' => r = .ok (.ret (.bool true)) ∧ OldK s1.heap s'.heap ∧ s'.os = s1.os ∧ AllBare s'.gens) s1 := by
  have rv : Vals (ns.map V.int) vs := vals_ints hi
  have lv : vs.length = ns.length := hi.length
  by_cases hk : K.lookup a = none
  · have at_ : ∀ {b : Addr} {u : HO}, (if b = a then some (HO.frz { cls := .type "list", data := .seq vs.toArray } (.lst (ns.map V.int))) else none) = some u → b = a ∧ u = HO.frz { cls := .type "list", data := .seq vs.toArray } (.lst (ns.map V.int)) := by
      intro b u z
      split at z
      · rename_i e; exact ⟨e, (Option.some.inj z).symm⟩
      · cases z
    refine from_heap (H := fun b => if b = a then some (.frz { cls := .type "list", data := .seq vs.toArray } (.lst (ns.map V.int))) else none) KX hns hb hbb hlim hg ha room F bi ?_ (want _ ?_ (.inl (.inr ⟨_, if_pos rfl⟩))) ?_ ?_ fun _ => hk
    · intro b
      by_cases e : b = a
      · exact .inr ⟨_, _, if_pos e⟩
      · exact .inl (if_neg e)
    · intro b
      by_cases e : b = a
      · exact .inr ⟨_, _, if_pos e⟩
      · exact .inl (if_neg e)
    · intro b u z
      obtain ⟨e1, e2⟩ := at_ z
      rw [e1, e2]
      exact ⟨ha, by rw [List.length_map]; exact hl, vs, _, rv, ha⟩
    · intro b z
      by_cases e : b = a
      · exact e
      · exact absurd (if_neg e) z
  · obtain ⟨o, ho⟩ := Option.ne_none_iff_exists'.mp hk
    have ho2 := KX a o ho
    rw [ha] at ho2
    cases ho2
    have no : ∀ b, ((fun _ => none : Hp) b) = none := fun _ => rfl
    refine from_heap (H := fun _ => none) KX hns hb hbb hlim hg ha room F bi (fun b => .inl rfl) (want _ (fun b => .inl rfl) (.inr ⟨_, vs.toArray, _, ho, rfl, rfl, rfl, by rw [List.size_toArray, lv]; exact hl, by simpa using rv⟩)) ?_ (fun b z => absurd rfl z) fun z => absurd rfl z
    intro b u z
    cases (show (none : Option HO) = some u from z)
end
/-- what k_head leaves, from the law's def as a plain function -/
theorem walkG {l : PySem.W.OpenLaw} {n k : Nat} {q : Program} {loose : List Str} {XP : (Str → Option Value) → Heap → Prop} {YP : World → Heap → Prop} {d : DefRec} {K : Params → PySem.W.Frag} {x : Str} {mf : PySem.W.Frag → MF}
    (hn : l.most = some n) (hn2 : n ≤ sizeLine) (hdf : d.params.defaults = []) (room : Room k callerA) (hY : ∀ (w : World) (h : Heap), YP w h → (K w.params).In h)
    (F : ∀ (w : World) (mg : Str → Option Value) (fa : Addr) (h : Heap), (K w.params).In h → h.Ns mainGlobals mg → mg d.name = some (.ref fa) →
      ∃ fd : FuncData, (∀ (s : Shared) (u : Value), BindsTo s fd ⟨[u], []⟩ [(x, u)]) ∧ ∀ base : Heap, (K w.params).In base → base.Ns mainGlobals mg → FnG l.prog w (K w.params) mg base k fa fd [x] (spOf [] (mf (K w.params))))
    (true_ : ∀ (K : PySem.W.Frag) (ns : List Int), ns.length ≤ n → ∃ os, mf K [.sc K ns] = some (.fz (.bool true), os)) : PySem.W.WalkO q loose XP YP l.row.toRowW d [] (fun f vs => PySem.call f vs) := by
  refine Att.attach_call hn hdf ?_
  intro w s₀ s1 mg mb fa o pm cd doc a vs ns G Y ho hd hcd hmg hobj hints hlen hg
  have KX := hY w _ Y
  obtain ⟨fd, bi, hF⟩ := F w mg fa _ KX G.T.g hmg
  refine law_go KX G.T.g G.T.b G.T.builtins G.T.nolimit hg hobj hints (Nat.le_trans hlen hn2) room hF bi ?_
  intro H only hS
  obtain ⟨os, e⟩ := true_ (K w.params) ns hlen
  refine ⟨H, [.sc (K w.params) ns], fun _ _ => False, _, os, ⟨Ex.refl H, rfl, fun i u z => ?_, fun _ _ _ z => z.elim, fun _ _ z => z.elim⟩, fun _ _ z => z.elim, fun j u z _ => ?_, e, ?_⟩
  · cases i with
    | zero => cases z; exact ⟨_, rfl, a, rfl, hS⟩
    | succ i => simp at z
  · cases j with
    | zero => cases z; rfl
    | succ j => simp at z
  · intro v F' H' Sl' T s R' hs' new
    exact new.own
end Tr
namespace Tr
open PySem PySem.Spec L2
/-! ### loops as plain functions: invariants by the turn -/
theorem forGo_inv {mg : PyData → En → Option En} {mb : MS} : ∀ {ds : List PyData} (J : Nat → En → Prop), (∀ i d, ds[i]? = some d → ∀ env, J i env → ∃ e1, mg d env = some e1 ∧ ∃ e2, mb e1 = some (.nx, e2) ∧ J (i + 1) e2) → ∀ env, J 0 env →
    ∃ e', mForGo mg mb ds env = some (.nx, e') ∧ J ds.length e'
  | [], J, h, env, h0 => ⟨env, rfl, h0⟩
  | d :: ds, J, h, env, h0 => by
    obtain ⟨e1, h1, e2, h2, h3⟩ := h 0 d rfl env h0
    obtain ⟨e', h4, h5⟩ := forGo_inv (ds := ds) (fun i => J (i + 1)) (fun i x hx => h (i + 1) x (by rw [List.getElem?_cons_succ]; exact hx)) e2 h3
    refine ⟨e', ?_, h5⟩
    unfold mForGo
    simp only [h1, h2]
    exact h4
/-- a search: the first item that hits ends it -/
theorem forGo_find {mg : PyData → En → Option En} {mb : MS} {I : En → Prop} {hit : PyData → Option O} : ∀ {ds : List PyData}, (∀ d ∈ ds, ∀ env, I env → ∃ e1, mg d env = some e1 ∧ match hit d with | none => ∃ e2, mb e1 = some (.nx, e2) ∧ I e2 | some o => ∃ e2, mb e1 = some (.rt o, e2)) → ∀ env, I env →
    match ds.findSome? hit with | none => ∃ e2, mForGo mg mb ds env = some (.nx, e2) ∧ I e2 | some o => ∃ e2, mForGo mg mb ds env = some (.rt o, e2)
  | [], h, env, h0 => ⟨env, rfl, h0⟩
  | d :: ds, h, env, h0 => by
    obtain ⟨e1, h1, h2⟩ := h d (by simp) env h0
    rw [List.findSome?_cons]
    cases hd : hit d with
    | some o =>
      rw [hd] at h2
      obtain ⟨e2, h3⟩ := h2
      refine ⟨e2, ?_⟩
      unfold mForGo
      simp only [h1, h3]
    | none =>
      rw [hd] at h2
      obtain ⟨e2, h3, h4⟩ := h2
      have ih := forGo_find (ds := ds) (fun x hx => h x (by simp [hx])) e2 h4
      have e : mForGo mg mb (d :: ds) env = mForGo mg mb ds e2 := by
        conv => lhs; unfold mForGo
        simp only [h1, h3]
      simp only [e]
      exact ih
theorem lcGo_inv {mg : PyData → En → Option En} {mt : MT} {me : ME} {vs : List Nat} : ∀ {ds : List PyData} (J : Nat → List PyData → En → Prop), (∀ i d, ds[i]? = some d → ∀ acc env, J i acc env → ∃ e1, mg d env = some e1 ∧ ∃ e2, mt e1 = some (true, e2) ∧ ∃ p e3, me e2 = some (p, e3) ∧ ∃ y e4, fzP e3 p = some (y, e4) ∧ J (i + 1) (acc ++ [y]) (wipeE e4 vs)) →
    ∀ acc env, J 0 acc env → acc.length + ds.length ≤ sizeLine → ∃ acc' e', mLcGo mg mt me vs ds acc env = some (acc', e') ∧ J ds.length acc' e'
  | [], J, h, acc, env, h0, _ => ⟨acc, env, rfl, h0⟩
  | d :: ds, J, h, acc, env, h0, hz => by
    rw [List.length_cons] at hz
    obtain ⟨e1, h1, e2, h2, p, e3, h3, y, e4, h4, h5⟩ := h 0 d rfl acc env h0
    obtain ⟨acc', e', h6, h7⟩ := lcGo_inv (ds := ds) (fun i => J (i + 1)) (fun i x hx => h (i + 1) x (by rw [List.getElem?_cons_succ]; exact hx)) (acc ++ [y]) _ h5 (by rw [List.length_append, List.length_singleton]; omega)
    refine ⟨acc', e', ?_, h7⟩
    unfold mLcGo
    simp only [h1, h2, h3, h4]
    rw [if_pos (by omega)]
    exact h6
/-- every item gives its own, and nothing changes -/
theorem lcGo_map {i : Nat} {me : ME} {ds : List PyData} {E : En} (y : PyData → PyData) (h : ∀ d ∈ ds, ∃ p e3, me (E.set i (some (.fz d))) = some (p, e3) ∧ ∃ e4, fzP e3 p = some (y d, e4) ∧ wipeE e4 [i] = E) (hz : ds.length ≤ sizeLine) :
    mLcGo (mgN i) mYes me [i] ds [] E = some (ds.map y, E) := by
  obtain ⟨acc', e', h1, h2, h3⟩ := lcGo_inv (ds := ds) (mg := mgN i) (mt := mYes) (me := me) (vs := [i]) (fun k acc env => acc = (ds.take k).map y ∧ env = E) (fun k d hd acc env hj => by
    obtain ⟨rfl, rfl⟩ := hj
    obtain ⟨p, e3, h1, e4, h2, h3⟩ := h d (List.mem_of_getElem? hd)
    refine ⟨_, rfl, _, rfl, p, e3, h1, y d, e4, h2, ?_, h3⟩
    rw [List.take_add_one, hd, List.map_append]
    rfl) [] E ⟨rfl, rfl⟩ (by simpa using hz)
  subst h3
  rw [h1, h2, List.take_length]
theorem while_inv {mc : MT} {mb : MS} {R : En → Prop} (J : Nat → En → Prop) (h0 : ∀ env, J 0 env → ∃ e1, mc env = some (false, e1) ∧ R e1) (h : ∀ k env, J (k + 1) env → ∃ e1, mc env = some (true, e1) ∧ ∃ e2, mb e1 = some (.nx, e2) ∧ J k e2) :
    ∀ (k n : Nat) env, k < n → J k env → ∃ e', mWhile mc mb n env = some (.nx, e') ∧ R e'
  | _, 0, _, hn, _ => absurd hn (by omega)
  | 0, n + 1, env, _, hj => by
    obtain ⟨e1, h1, h2⟩ := h0 env hj
    exact ⟨e1, by unfold mWhile; simp only [h1], h2⟩
  | k + 1, n + 1, env, hn, hj => by
    obtain ⟨e1, h1, e2, h2, h3⟩ := h k env hj
    obtain ⟨e', h4, h5⟩ := while_inv J h0 h k n e2 (by omega) h3
    refine ⟨e', ?_, h5⟩
    unfold mWhile
    simp only [h1, h2]
    exact h4
end Tr
namespace Tr
open PySem PySem.Spec PyProof.Rows L2
/-! ### sum, max and min of a list of whole numbers -/
def gSum : En → List P → Option P := fun env ps => match ps with
  | [p] => ((sq env p).bind allI).map fun ns => .val (.int ns.sum)
  | _ => none
theorem f_sum {K : PySem.W.Frag} : FnK (rSum K) gSum := by
  intro F H σ env Sl xs ps p R h e Q q
  unfold gSum at e
  split at e
  · rename_i p1
    cases h with
    | cons a t =>
      cases t
      cases h1 : sq env p1 with
      | none => rw [h1] at e; cases e
      | some ds =>
        cases h2 : allI ds with
        | none => simp only [h1, Option.bind_some, h2] at e; cases e
        | some ns =>
          simp only [h1, Option.bind_some, h2, Option.map_some] at e
          cases e
          obtain ⟨l, vs, rfl, hl, r⟩ := sq_of R a h1
          have e2 := allI_ok r h2
          exact ⟨l, ns, rfl, SqL.of (by rw [← e2]; exact hl), q _ F H (Ex.refl F) (Ex.refl H) R.ex (fun _ _ z => .inl z) rfl⟩
  · cases e
/-- the one with nothing above it -/
def topI : List Int → Option Int
  | [] => none
  | n :: ns => some (ns.foldl (fun a b => if a < b then b else a) n)
def lowI : List Int → Option Int
  | [] => none
  | n :: ns => some (ns.foldl (fun a b => if b < a then b else a) n)
theorem top_fold : ∀ (ns : List Int) (n : Int), (∀ m ∈ ns, m ≤ ns.foldl (fun a b => if a < b then b else a) n) ∧ n ≤ ns.foldl (fun a b => if a < b then b else a) n ∧ (ns.foldl (fun a b => if a < b then b else a) n = n ∨ ns.foldl (fun a b => if a < b then b else a) n ∈ ns)
  | [], n => ⟨fun _ h => (List.not_mem_nil h).elim, Int.le_refl _, Or.inl rfl⟩
  | m :: ns, n => by
    obtain ⟨h1, h2, h3⟩ := top_fold ns (if n < m then m else n)
    rw [List.foldl_cons]
    refine ⟨fun x hx => ?_, ?_, ?_⟩
    · rcases List.mem_cons.mp hx with rfl | hx
      · refine Int.le_trans ?_ h2
        split <;> omega
      · exact h1 x hx
    · refine Int.le_trans ?_ h2
      split <;> omega
    · rcases h3 with h3 | h3
      · rw [h3]
        split
        · exact .inr (by simp)
        · exact .inl rfl
      · exact .inr (by simp [h3])
theorem low_fold : ∀ (ns : List Int) (n : Int), (∀ m ∈ ns, ns.foldl (fun a b => if b < a then b else a) n ≤ m) ∧ ns.foldl (fun a b => if b < a then b else a) n ≤ n ∧ (ns.foldl (fun a b => if b < a then b else a) n = n ∨ ns.foldl (fun a b => if b < a then b else a) n ∈ ns)
  | [], n => ⟨fun _ h => (List.not_mem_nil h).elim, Int.le_refl _, Or.inl rfl⟩
  | m :: ns, n => by
    obtain ⟨h1, h2, h3⟩ := low_fold ns (if m < n then m else n)
    rw [List.foldl_cons]
    refine ⟨fun x hx => ?_, ?_, ?_⟩
    · rcases List.mem_cons.mp hx with rfl | hx
      · refine Int.le_trans h2 ?_
        split <;> omega
      · exact h1 x hx
    · refine Int.le_trans h2 ?_
      split <;> omega
    · rcases h3 with h3 | h3
      · rw [h3]
        split
        · exact .inr (by simp)
        · exact .inl rfl
      · exact .inr (by simp [h3])
theorem top_is {ns : List Int} {m : Int} (h : topI ns = some m) : 0 < ns.length ∧ m ∈ ns ∧ ∀ y, y ∈ ns → y ≤ m := by
  cases ns with
  | nil => cases h
  | cons n ns =>
    cases h
    obtain ⟨h1, h2, h3⟩ := top_fold ns n
    refine ⟨by simp, ?_, fun y hy => ?_⟩
    · rcases h3 with h3 | h3
      · rw [h3]; simp
      · simp [h3]
    · rcases List.mem_cons.mp hy with rfl | hy
      · exact h2
      · exact h1 y hy
theorem low_is {ns : List Int} {m : Int} (h : lowI ns = some m) : 0 < ns.length ∧ m ∈ ns ∧ ∀ y, y ∈ ns → m ≤ y := by
  cases ns with
  | nil => cases h
  | cons n ns =>
    cases h
    obtain ⟨h1, h2, h3⟩ := low_fold ns n
    refine ⟨by simp, ?_, fun y hy => ?_⟩
    · rcases h3 with h3 | h3
      · rw [h3]; simp
      · simp [h3]
    · rcases List.mem_cons.mp hy with rfl | hy
      · exact h2
      · exact h1 y hy
def gTop (pick : List Int → Option Int) : En → List P → Option P := fun env ps => match ps with
  | [p] => ((sq env p).bind allI).bind fun ns => (pick ns).map fun m => .val (.int m)
  | _ => none
theorem top_ok {F H : Hp} {σ : L2.St} {env : En} {Sl : Nat → Addr → Prop} {xs : List V} {ps : List P} {p : P} {pick : List Int → Option Int} (R : REnv F H σ env Sl) (h : relA F σ xs ps) (e : gTop pick env ps = some p) :
    ∃ (l : Addr) (ns : List Int) (m : Int), xs = [V.ref l] ∧ H l = some (.lst (ns.map V.int)) ∧ pick ns = some m ∧ p = .val (.int m) := by
  unfold gTop at e
  split at e
  · rename_i p1
    cases h with
    | cons a t =>
      cases t
      cases h1 : sq env p1 with
      | none => rw [h1] at e; cases e
      | some ds =>
        cases h2 : allI ds with
        | none => simp only [h1, Option.bind_some, h2] at e; cases e
        | some ns =>
          simp only [h1, Option.bind_some, h2] at e
          cases h3 : pick ns with
          | none => rw [h3] at e; cases e
          | some m =>
            rw [h3] at e
            cases e
            obtain ⟨l, vs, rfl, hl, r⟩ := sq_of R a h1
            have e2 := allI_ok r h2
            exact ⟨l, ns, m, rfl, by rw [← e2]; exact hl, h3, rfl⟩
  · cases e
theorem f_max {K : PySem.W.Frag} : FnK (rMax K) (gTop topI) := by
  intro F H σ env Sl xs ps p R h e Q q
  obtain ⟨l, ns, m, rfl, hl, h3, rfl⟩ := top_ok R h e
  obtain ⟨a, b, c⟩ := top_is h3
  refine ⟨l, ns, rfl, SqL.of hl, a, fun m' hm' hy => ?_⟩
  have e1 : m' = m := Int.le_antisymm (c m' hm') (hy m b)
  subst e1
  exact q _ F H (Ex.refl F) (Ex.refl H) R.ex (fun _ _ z => .inl z) rfl
theorem f_min {K : PySem.W.Frag} : FnK (rMin K) (gTop lowI) := by
  intro F H σ env Sl xs ps p R h e Q q
  obtain ⟨l, ns, m, rfl, hl, h3, rfl⟩ := top_ok R h e
  obtain ⟨a, b, c⟩ := low_is h3
  refine ⟨l, ns, rfl, SqL.of hl, a, fun m' hm' hy => ?_⟩
  have e1 : m' = m := Int.le_antisymm (hy m b) (c m' hm')
  subst e1
  exact q _ F H (Ex.refl F) (Ex.refl H) R.ex (fun _ _ z => .inl z) rfl
/-! ### sorted, whole numbers -/
def srtI (ns : List Int) : List Int := ns.mergeSort fun a b => decide (a ≤ b)
theorem srtI_perm (ns : List Int) : (srtI ns).Perm ns := List.mergeSort_perm _ _
theorem srtI_up (ns : List Int) : (srtI ns).Pairwise (· ≤ ·) := by
  have := List.pairwise_mergeSort (le := fun a b : Int => decide (a ≤ b)) (fun a b c h1 h2 => by
    have := of_decide_eq_true h1
    have := of_decide_eq_true h2
    exact decide_eq_true (by omega)) (fun a b => by
    by_cases h : a ≤ b
    · simp [h]
    · simp [h]; omega) ns
  exact this.imp fun h => of_decide_eq_true h
theorem srtI_uniq {ns ns' : List Int} (h1 : ns'.Perm ns) (h2 : ns'.Pairwise (· ≤ ·)) : ns' = srtI ns :=
  List.Perm.eq_of_pairwise (fun a b _ _ x y => Int.le_antisymm x y) h2 (srtI_up ns) (h1.trans (srtI_perm ns).symm)
def gSortI : En → List P → Option (List PyData) := fun env ps => match ps with
  | [p] => ((sq env p).bind allI).map fun ns => (srtI ns).map .int
  | _ => none
theorem l_sortI {K : PySem.W.Frag} : FnL (rSortedI K) gSortI := by
  intro F H σ env Sl xs ps ds R h e Q q
  unfold gSortI at e
  split at e
  · rename_i p1
    cases h with
    | cons a t =>
      cases t
      cases h1 : sq env p1 with
      | none => rw [h1] at e; cases e
      | some ds0 =>
        cases h2 : allI ds0 with
        | none => simp only [h1, Option.bind_some, h2] at e; cases e
        | some ns =>
          simp only [h1, Option.bind_some, h2, Option.map_some] at e
          cases e
          obtain ⟨l, vs, rfl, hl, r⟩ := sq_of R a h1
          have e2 := allI_ok r h2
          refine ⟨l, ns, rfl, SqL.of (by rw [← e2]; exact hl), fun ns' p pm up np => ?_⟩
          rw [srtI_uniq pm up]
          exact q p _ (all_ints _) np
  · cases e
theorem sortedIK {X : Cx} {K : PySem.W.Frag} (h : X.K = K := by rfl) : CallR X (.builtin "sorted") (rSortedI K) := by subst h; exact cr_sortedI
end Tr
namespace Tr
open PySem PySem.Spec PyProof.Rows L2
/-! ### xs[i][j] = e, where xs holds lists of its own -/
theorem all_at {α β : Type} {R R' : α → β → Prop} : ∀ {l1 : List α} {l2 : List β}, All2 R l1 l2 → (∀ (i : Nat) a b, l2[i]? = some b → R a b → R' a b) → All2 R' l1 l2
  | _, _, .nil, _ => .nil
  | _, _, .cons r t, h => .cons (h 0 _ _ rfl r) (all_at t fun i a b e x => h (i + 1) a b (by rw [List.getElem?_cons_succ]; exact e) x)
theorem all_put {α β : Type} {R R' : α → β → Prop} : ∀ {l1 : List α} {l2 : List β}, All2 R l1 l2 → ∀ (n : Nat) (x : α) (y : β), l2[n]? = some y → R' x y → (∀ (i : Nat) a b, i ≠ n → l2[i]? = some b → R a b → R' a b) → All2 R' (l1.set n x) l2
  | _, _, .nil, _, _, _, h, _, _ => by simp at h
  | _, _, .cons _ t, 0, _, _, h, h2, h3 => by
    cases h
    exact .cons h2 (all_at t fun i a b e r => h3 (i + 1) a b (by omega) (by rw [List.getElem?_cons_succ]; exact e) r)
  | _, _, .cons r t, n + 1, x, y, h, h2, h3 => .cons (h3 0 _ _ (by omega) rfl r) (all_put t n x y (by rw [List.getElem?_cons_succ] at h; exact h) h2 fun i a b ne e r => h3 (i + 1) a b (by omega) (by rw [List.getElem?_cons_succ]; exact e) r)
theorem refs_inj : ∀ {xs ys : List Addr}, xs.map V.ref = ys.map V.ref → xs = ys
  | [], [], _ => rfl
  | [], _ :: _, h => by cases h
  | _ :: _, [], h => by cases h
  | x :: xs, y :: ys, h => by
    rw [List.map_cons, List.map_cons] at h
    have h1 := List.cons.inj h
    rw [V.ref.inj h1.1, refs_inj h1.2]
theorem REnv.held2 {F H : Hp} {σ : L2.St} {env : En} {Sl : Nat → Addr → Prop} {j : Nat} {rows : List (List PyData)} (R : REnv F H σ env Sl) (hj : env[j]? = some (some (.ow2 rows))) :
    ∃ a rs, σ[j]? = some (some (.ref a)) ∧ H a = some (.lst (rs.map V.ref)) ∧ a ∉ rs ∧ rs.Nodup ∧ Sl j a ∧ All2 (fun row r => Sl j r ∧ ∃ vs, H r = some (.lst vs) ∧ All2 (Rp F) row vs) rows rs := by
  obtain ⟨v, e1, a, rs, e2, sa, hH, n, nd, r⟩ := R.at_ j _ hj
  subst e2
  exact ⟨a, rs, e1, hH, n, nd, sa, r⟩
theorem REnv.write2 {F H : Hp} {σ : L2.St} {env : En} {Sl : Nat → Addr → Prop} {j n : Nat} {a r : Addr} {rows : List (List PyData)} {row' : List PyData} {rs : List Addr} {vs' : List V} (R : REnv F H σ env Sl) (hj : env[j]? = some (some (.ow2 rows)))
    (hv : σ[j]? = some (some (.ref a))) (hH : H a = some (.lst (rs.map V.ref))) (na : a ∉ rs) (nd : rs.Nodup) (sa : Sl j a) (all : All2 (fun row r => Sl j r ∧ ∃ vs, H r = some (.lst vs) ∧ All2 (Rp F) row vs) rows rs) (hn : rs[n]? = some r) (w : All2 (Rp F) row' vs') :
    Step F H Sl F (upd H r (.lst vs')) Sl ∧ REnv F (upd H r (.lst vs')) σ (env.set j (some (.ow2 (rows.set n row')))) Sl := by
  obtain ⟨row0, _, sr, vs0, hr0, _⟩ := all.getR hn
  have ar : a ≠ r := fun z => na (by rw [z]; exact List.mem_of_getElem? hn)
  have ns : ∀ i, i ≠ j → ¬ Sl i r := fun i n z => n (R.dj i j r z sr)
  have fr := (R.tr j r sr).1
  refine ⟨⟨Ex.refl F, fun b o h n => ?_, fun b o h => ?_, fun _ _ z => .inl z, fun _ _ z => .inl z⟩, ⟨fun b o h => ?_, by rw [List.length_set]; exact R.len, fun i o h => ?_, R.dj, fun i b z => ?_⟩⟩
  · rw [upd_ne (fun z => n j (by rw [z]; exact sr))]; exact h
  · by_cases z : b = r
    · subst z; exact ⟨_, upd_same⟩
    · exact ⟨o, by rw [upd_ne z]; exact h⟩
  · rw [upd_ne (fun z => by rw [z, fr] at h; cases h)]; exact R.ex b o h
  · rcases set_at h with ⟨rfl, e2, _⟩ | ⟨ne, h'⟩
    · cases e2
      refine ⟨_, hv, a, rs, rfl, sa, by rw [upd_ne ar]; exact hH, na, nd, all_put all n row' r hn ⟨sr, vs', upd_same, w⟩ fun k x y kn hy hx => ?_⟩
      obtain ⟨s1, vs, h1, h2⟩ := hx
      have yr : y ≠ r := fun z => kn ((List.getElem?_inj (List.getElem?_eq_some_iff.mp hy).1 nd).mp (by rw [hy, hn, z]))
      exact ⟨s1, vs, by rw [upd_ne yr]; exact h1, h2⟩
    · obtain ⟨v2, e2, w2⟩ := R.at_ i o h'
      exact ⟨v2, e2, w2.ext (Ex.refl F) fun b u s q => by rw [upd_ne (fun z => ns i ne (by rw [← z]; exact s))]; exact q⟩
  · obtain ⟨y1, u, y2⟩ := R.tr i b z
    refine ⟨y1, ?_⟩
    by_cases e : b = r
    · subst e; exact ⟨_, upd_same⟩
    · exact ⟨u, by rw [upd_ne e]; exact y2⟩
/-- xs[i][k] = e -/
def mSet2 (j : Nat) (mi mk me : ME) : MS := bnd me fun p e1 => match fzP e1 p with
  | some (d, e2) => match e2[j]? with
    | some (some (.ow2 rows)) => match mi e2 with
      | some (.val (.int x), _) => match ixN rows.length x with
        | some n => match mk e2 with
          | some (.val (.int y), _) => match rows[n]? with
            | some row => match ixN row.length y with
              | some m => some (.nx, e2.set j (some (.ow2 (rows.set n (row.set m d)))))
              | none => none
            | none => none
          | _ => none
        | none => none
      | _ => none
    | _ => none
  | none => none
theorem rs_set2 {K : PySem.W.Frag} {pn : List Nat} {pu : Bool} {te ti tk : TE} {me mi mk : ME} {j : Nat} (h : RE pu te me) (hi : RE true ti mi) (hk : RE true tk mk) : RS pn (tAsg te (gSub (tOp (rIx K) (tVar j) ti) tk rSetL)) (mSet2 j mi mk me) := by
  intro F H σ env Sl R c env' e D q
  obtain ⟨p, e1, h1, h2⟩ := bnd_of e
  split at h2
  · rename_i d e2 h3
    split at h2
    · rename_i rows h0
      split at h2
      · rename_i x e3 h4
        split at h2
        · rename_i n h5
          split at h2
          · rename_i y e4 h6
            split at h2
            · rename_i row h7
              split at h2
              · rename_i m h8
                cases h2
                refine h F H σ env Sl R p _ h1 _ fun r F1 H1 Sl1 s1 pu1 R1 r1 => ?_
                obtain ⟨F2, Sl2, s2, R2, r2⟩ := fz_ok R1 r1 h3
                obtain ⟨a, rs, ha, hH, na, nd, sa, all⟩ := R2.held2 h0
                refine ⟨_, ha, ?_⟩
                refine hi F2 H1 σ e2 Sl2 R2 _ _ h4 _ fun r' F3 H3 Sl3 s3 pu3 R3 r3 => ?_
                obtain ⟨rfl, x3, rfl⟩ := pu3 rfl
                have hl : rows.length = rs.length := all.len
                obtain ⟨r0, hr0, sr0, vs, hv0, rr0⟩ := all.get h7
                have at0 : atI (rs.map V.ref) x = some (.ref r0) := by
                  unfold atI
                  rw [List.length_map, ← hl, h5]
                  show (rs.map V.ref)[n]? = _
                  rw [List.getElem?_map, hr0]
                  rfl
                refine .inl ⟨a, rs.map V.ref, x, .ref r0, rfl, pint r3, SqL.of (x3 _ _ hH), at0, ?_⟩
                refine hk F3 H3 σ e3 Sl3 R3 _ _ h6 _ fun r' F4 H4 Sl4 s4 pu4 R4 r4 => ?_
                obtain ⟨rfl, x4, rfl⟩ := pu4 rfl
                obtain ⟨a', rs', ha', hH', na', nd', sa', all'⟩ := R4.held2 h0
                rw [ha] at ha'
                cases ha'
                have hH4 := x4 _ _ (x3 _ _ hH)
                rw [hH4] at hH'
                have ers : rs = rs' := refs_inj (HO.lst.inj (Option.some.inj hH'))
                subst ers
                obtain ⟨r1', hr1, sr1, vs1, hv1, rr1⟩ := all'.get h7
                rw [hr0] at hr1
                cases hr1
                have w := rr1.set m (Rp.mono (s3.exF.trans s4.exF) r2)
                obtain ⟨s5, R5⟩ := R4.write2 h0 ha hH4 na nd sa' all' hr0 w
                refine ⟨r0, vs1, y, m, rfl, pint r4, hv1, by rw [← rr1.len]; exact h8, ?_⟩
                exact q _ _ σ _ (s1.trans (s2.trans (s3.trans (s4.trans s5)))) R5 fun _ _ => rfl
              · cases h2
            · cases h2
          · cases h2
        · cases h2
      · cases h2
    · cases h2
  · cases h2
/-! ### y = xs[i]; y.append(e), where xs holds lists of its own and y is not read again -/
theorem REnv.other {F H : Hp} {σ : L2.St} {env : En} {Sl : Nat → Addr → Prop} {i : Nat} (v : Option V) (R : REnv F H σ env Sl) : REnv F H (σ.set i v) (env.set i none) (lose Sl i) := by
  refine ⟨R.ex, by rw [List.length_set, List.length_set]; exact R.len, fun j u h => ?_, fun j k a x y => R.dj j k a x.2 y.2, fun j a x => R.tr j a x.2⟩
  rcases set_at h with ⟨rfl, e2, _⟩ | ⟨ne, h'⟩
  · cases e2
  · obtain ⟨v2, e2, w2⟩ := R.at_ j u h'
    refine ⟨v2, ?_, w2.sub fun a s => ⟨ne, s⟩⟩
    rw [List.getElem?_set_ne (Ne.symm ne)]
    exact e2
def mAlias (j l : Nat) (mi : ME) (ma : MA) (m : MS) : MS := fun env => match env[j]? with
  | some (some (.ow2 rows)) => match mi env with
    | some (.val (.int x), _) => match ixN rows.length x with
      | some n => match rows[n]? with
        | some row => match ma (env.set l none) with
          | some ([.val d], _) => if l < env.length ∧ row.length < sizeLine then m ((env.set l none).set j (some (.ow2 (rows.set n (row ++ [d]))))) else none
          | _ => none
        | none => none
      | none => none
    | _ => none
  | _ => none
theorem rs_alias {K : PySem.W.Frag} {pn : List Nat} {ti : TE} {ta : TA} {mi : ME} {ma : MA} {t : TS} {m : MS} {j l : Nat} (hi : RE true ti mi) (ha : RA true ta ma) (h : RS pn t m) (hl : l ≠ j := by decide) (hp : l ∉ pn := by decide) :
    RS pn (tSeq (tAsg (tOp (rIx K) (tVar j) ti) (gName l)) (tSeq (tDrop (tBM K "list" rAppend (tVar l) ta)) t)) (mAlias j l mi ma m) := by
  intro F H σ env Sl R c env' e D q
  unfold mAlias at e
  split at e
  · rename_i rows h0
    split at e
    · rename_i x e3 h4
      split at e
      · rename_i n h5
        split at e
        · rename_i row h7
          split at e
          · rename_i d e4 h6
            split at e
            · rename_i hs
              obtain ⟨a, rs, ea, hH, na, nd, sa, all⟩ := R.held2 h0
              refine ⟨_, ea, ?_⟩
              refine hi F H σ env Sl R _ _ h4 _ fun r' F3 H3 Sl3 s3 pu3 R3 r3 => ?_
              obtain ⟨rfl, x3, rfl⟩ := pu3 rfl
              have hl2 : rows.length = rs.length := all.len
              obtain ⟨r0, hr0, sr0, vs, hv0, rr0⟩ := all.get h7
              have at0 : atI (rs.map V.ref) x = some (.ref r0) := by
                unfold atI
                rw [List.length_map, ← hl2, h5]
                show (rs.map V.ref)[n]? = _
                rw [List.getElem?_map, hr0]
                rfl
              refine .inl ⟨a, rs.map V.ref, x, .ref r0, rfl, pint r3, SqL.of (x3 _ _ hH), at0, ?_⟩
              have R4 := R3.other (i := l) (some (V.ref r0))
              have ll : l < σ.length := by rw [R.len]; exact hs.1
              have s4 : Step F3 H3 Sl3 F3 H3 (lose Sl3 l) := ⟨Ex.refl _, fun _ _ h _ => h, fun _ _ h => ⟨_, h⟩, fun _ _ z => .inl z.2, fun _ _ h => .inl h⟩
              refine ⟨_, List.getElem?_set_self ll, ?_, ?_⟩
              · exact Or.inl ⟨rfl, vs, SqL.of (x3 _ _ hv0)⟩
              refine ha F3 H3 _ _ _ R4 _ _ h6 _ fun r5 F5 H5 Sl5 s5 pu5 R5 r5' => ?_
              obtain ⟨rfl, x5, rfl⟩ := pu5 rfl
              cases r5' with
              | cons y ty =>
                cases ty
                rename_i v
                have h0' := show (e3.set l none)[j]? = some (some (.ow2 rows)) from by rw [List.getElem?_set_ne hl]; exact h0
                obtain ⟨a', rs', ea', hH', na', nd', sa', all'⟩ := R5.held2 h0'
                rw [List.getElem?_set_ne hl, ea] at ea'
                cases ea'
                have hH5 := x5 _ _ (x3 _ _ hH)
                rw [hH5] at hH'
                have ers : rs = rs' := refs_inj (HO.lst.inj (Option.some.inj hH'))
                subst ers
                obtain ⟨r1', hr1, sr1, vs1, hv1, rr1⟩ := all'.get h7
                rw [hr0] at hr1
                cases hr1
                obtain ⟨s6, R6⟩ := R5.write2 h0' (by rw [List.getElem?_set_ne hl]; exact ea) hH5 na nd sa' all' hr0 (rr1.snoc (pr_val y))
                refine ⟨r0, vs1, v, rfl, rfl, hv1, by rw [← rr1.len]; exact hs.2, ?_⟩
                exact h _ _ _ _ _ R6 c env' e D (q.step (s3.trans (s4.trans (s5.trans s6))) fun i z => List.getElem?_set_ne (fun w => hp (by rw [w]; exact z)))
            · cases e
          · cases e
        · cases e
      · cases e
    · cases e
  · cases e
end Tr
/-! Defs that may raise an own exception with one field. -/
namespace Tr
open PySem PySem.Spec PyProof.Rows L2

/-! ### what a def gives: a thing, or an exception of the n-th class with the field d -/
inductive Xr where | ok (o : O) | ex (n : Nat) (d : PyData)
abbrev XF := List O → Option Xr
inductive Xc where | c (c : Ctl) | ex (n : Nat) (d : PyData)
abbrev MX := En → Option (Xc × En)
/-- classes: where they stand, and their field -/
abbrev Cl := Nat → Addr × Str
def XEnds (cl : Cl) (D : Ends) (W : WX) (F0 H0 : Hp) (Sl0 : Nat → Addr → Prop) (σ0 : L2.St) (c : Xc) (env' : En) : Prop := match c with
  | .c c => EndsAt [] D F0 H0 Sl0 σ0 c env'
  | .ex n d => ∀ F' H' σ' Sl' dx v, Step F0 H0 Sl0 F' H' Sl' → Ex F' H' → Rp F' d v → F' dx = none → H0 dx = none → H' dx = some (.xd [((cl n).2, v)]) → W (.ref (cl n).1) (some dx) σ' H'
def RX (cl : Cl) (W : WX) (t : TS) (m : MX) : Prop := ∀ F H σ env Sl, REnv F H σ env Sl → ∀ c env', m env = some (c, env') → ∀ D : Ends, XEnds cl D W F H Sl σ c env' → t D σ H
section
variable {cl : Cl} {W : WX}
theorem XEnds.step {D : Ends} {F H F1 H1 : Hp} {Sl Sl1 : Nat → Addr → Prop} {σ σ1 : L2.St} {c : Xc} {env' : En} (h : XEnds cl D W F H Sl σ c env') (s : Step F H Sl F1 H1 Sl1) : XEnds cl D W F1 H1 Sl1 σ1 c env' := by
  cases c with
  | c c => exact EndsAt.step (pn := []) h s fun _ z => by simp at z
  | ex n d => exact fun F' H' σ' Sl' dx v s' e r f n0 hd => h F' H' σ' Sl' dx v (s.trans s') e r f (s.tkb n0) hd
def xLift (m : MS) : MX := fun env => (m env).map fun r => (.c r.1, r.2)
theorem rx_lift {t : TS} {m : MS} (h : RS [] t m) : RX cl W t (xLift m) := by
  intro F H σ env Sl R c env' e D q
  unfold xLift at e
  cases h1 : m env with
  | none => rw [h1] at e; cases e
  | some r =>
    rw [h1] at e
    cases e
    exact h F H σ env Sl R r.1 r.2 h1 D q
def xSeq (m n : MX) : MX := fun env => match m env with
  | some (.c .nx, e) => n e
  | r => r
theorem rx_seq {t u : TS} {m n : MX} (h : RX cl W t m) (h' : RX cl W u n) : RX cl W (tSeq t u) (xSeq m n) := by
  intro F H σ env Sl R c env' e D q
  unfold xSeq at e
  split at e
  · rename_i e1 h1
    refine h F H σ env Sl R (.c .nx) e1 h1 _ fun F' H' σ' Sl' s R' p => ?_
    exact h' F' H' σ' e1 Sl' R' c env' e D (q.step s)
  · rename_i hn
    refine h F H σ env Sl R c env' e _ ?_
    cases c with
    | ex n d => exact q
    | c c =>
      cases c with
      | nx => exact absurd e (hn env')
      | bk => exact q
      | ct => exact q
      | rt o => exact q
theorem rx_if {pu : Bool} {tc : TT} {t u : TS} {mc : MT} {m n : MX} (h : RT pu tc mc) (h1 : RX cl W t m) (h2 : RX cl W u n) : RX cl W (tIfS tc t u) (mIf mc m n) := by
  intro F H σ env Sl R c env' e D q
  obtain ⟨b1, e1, x1, x2⟩ := bnd_of e
  refine h F H σ env Sl R b1 _ x1 _ fun r F1 H1 Sl1 s1 pu1 R1 r1 => ?_
  cases r1
  cases b1 with
  | true =>
    rw [if_pos rfl]
    exact h1 F1 H1 σ e1 Sl1 R1 c _ x2 D (q.step s1)
  | false =>
    rw [if_neg Bool.false_ne_true]
    exact h2 F1 H1 σ e1 Sl1 R1 c _ x2 D (q.step s1)
def xForGo (mg : PyData → En → Option En) (mb : MX) : List PyData → MX
  | [], env => some (.c .nx, env)
  | d :: ds, env => match mg d env with
    | some e1 => match mb e1 with
      | some (.c .nx, e2) => xForGo mg mb ds e2
      | some (.c .ct, e2) => xForGo mg mb ds e2
      | some (.c .bk, e2) => some (.c .nx, e2)
      | some (.c (.rt o), e2) => some (.c (.rt o), e2)
      | some (.ex n d, e2) => some (.ex n d, e2)
      | none => none
    | none => none
def xFor (mi : ML) (mg : PyData → En → Option En) (mb : MX) : MX := bnd mi fun ds e => xForGo mg mb ds e
theorem rx_for {wi : TI} {g : TG} {tb : TS} {is : List Nat} {mi : ML} {mg : PyData → En → Option En} {mb : MX} (hi : RI wi mi) (hg : RT' is g mg) (hb : RX cl W tb mb) : RX cl W (tFor wi g tb) (xFor mi mg mb) := by
  intro F H σ env Sl R c env' e D q
  obtain ⟨xs, e0, h1, h2⟩ := bnd_of e
  refine hi F H σ env Sl R xs _ h1 _ fun J F1 H1 Sl1 s1 R1 hJ => ?_
  have q1 := q.step (σ1 := σ) s1
  refine ⟨fun i m σi Hi => ∃ Fi Sli envi, i ≤ xs.length ∧ m = xs.length - i ∧ Ex F1 Fi ∧ REnv Fi Hi σi envi Sli ∧ XEnds cl D W Fi Hi Sli σi c env' ∧ xForGo mg mb (xs.drop i) envi = some (c, env'), ⟨xs.length, F1, Sl1, e0, Nat.zero_le _, by omega, Ex.refl F1, R1, q1, h2⟩, ?_⟩
  rintro i m σi Hi ⟨Fi, Sli, envi, hil, hm, exi, Ri, qi, go⟩
  cases hx : xs[i]? with
  | none =>
    have hge : xs.length ≤ i := List.getElem?_eq_none_iff.mp hx
    rw [List.drop_eq_nil_of_le hge] at go
    have go' : some (Xc.c Ctl.nx, envi) = some (c, env') := go
    cases go'
    exact .inl ⟨(hJ Fi Hi exi Ri.ex i).2 hx, qi Fi Hi σi Sli Step.refl Ri fun _ _ => rfl⟩
  | some d =>
    have hlt : i < xs.length := (List.getElem?_eq_some_iff.mp hx).1
    have hd : xs.drop i = d :: xs.drop (i + 1) := by
      rw [List.drop_eq_getElem_cons hlt]
      have := (List.getElem?_eq_some_iff.mp hx).2
      rw [this]
    rw [hd] at go
    unfold xForGo at go
    obtain ⟨jg, jy⟩ := (hJ Fi Hi exi Ri.ex i).1 d hx
    refine .inr ⟨jg, fun σ' H' => ∃ Fj Slj envj, i + 1 ≤ xs.length ∧ Ex F1 Fj ∧ REnv Fj H' σ' envj Slj ∧ XEnds cl D W Fj H' Slj σ' c env' ∧ xForGo mg mb (xs.drop (i + 1)) envj = some (c, env'), fun σ' H' ⟨Fj, Slj, envj, z1, z2, z3, z4, z5⟩ => ⟨xs.length - (i + 1), by omega, Fj, Slj, envj, z1, rfl, z2, z3, z4, z5⟩, fun x H' hy => ?_⟩
    obtain ⟨Fj, f1, f2, f3, f4, f5⟩ := jy x H' hy
    have Rj : REnv Fj H' σi envi Sli := Ri.grow f1 f2 f3 f4
    have qj := qi.step (σ1 := σi) (Step.grow (Sl := Sli) f1 f2 f4)
    cases hg1 : mg d envi with
    | none => rw [hg1] at go; cases go
    | some e1 =>
      rw [hg1] at go
      refine hg Fj H' σi envi Sli x d Rj f5 e1 hg1 _ fun σ2 Sl4 R4 k4 p4 l4 => ?_
      have q4 := qj.step (σ1 := σ2) (Step.fewer k4)
      cases hb1 : mb e1 with
      | none => simp only [hb1] at go; cases go
      | some ce =>
        obtain ⟨c1, e2⟩ := ce
        simp only [hb1] at go
        refine hb Fj H' σ2 e1 Sl4 R4 c1 e2 hb1 _ ?_
        cases c1 with
        | ex n d => cases go; exact q4
        | c c1 =>
          cases c1 with
          | nx => exact fun F' H'' σ' Sl' s' R' p' => ⟨F', Sl', e2, hlt, exi.trans (f1.trans s'.exF), R', q4.step s', go⟩
          | ct => exact fun F' H'' σ' Sl' s' R' p' => ⟨F', Sl', e2, hlt, exi.trans (f1.trans s'.exF), R', q4.step s', go⟩
          | bk => cases go; exact q4
          | rt o => cases go; exact q4

/-! ### raise X(e) -/
/-- X's own __init__: self.f = e -/
def spI (f : Str) (C : Addr) : Sp := fun vs H Q _ => ∃ a v, vs = [.ref a, v] ∧ H a = some (exo a C none) ∧ ∀ d, H d = none → Q .non (upd (upd H d (exd d [(f, v)])) a (exo a C (some d)))
def xRaise (n : Nat) (ma : MA) : MX := bnd ma fun ps e => match fzPs e ps with
  | some ([d], e2) => some (.ex n d, e2)
  | _ => none
theorem made_heap {H : Hp} {a d : Addr} {C : Addr} {f : Str} {v : V} {o : HO} (na : H a = none) (nd : d ≠ a) :
    upd (del (upd (upd (upd H a o) d (exd d [(f, v)])) a (exo a C (some d))) a) d (.xd [(f, v)]) = upd H d (.xd [(f, v)]) := by
  funext b
  by_cases hd : b = d
  · rw [hd, upd_same, upd_same]
  · rw [upd_ne hd, upd_ne hd]
    by_cases ha : b = a
    · rw [ha, del_same, na]
    · rw [del_ne ha, upd_ne ha, upd_ne hd, upd_ne ha]
theorem rx_raise {pu : Bool} {ta : TA} {ma : MA} {C : Addr} {f : Str} {n : Nat} (hcl : cl n = (C, f)) (h : RA pu ta ma) : RX cl W (fun _ σ H => tMkO C (spI f C) [] ta σ H fun cls d H' => W cls d σ H') (xRaise n ma) := by
  intro F H σ env Sl R c env' e D q
  obtain ⟨ps, e1, h1, h2⟩ := bnd_of e
  split at h2
  · rename_i d e2 h3
    cases h2
    refine h F H σ env Sl R ps _ h1 _ fun vs F1 H1 Sl1 s1 pu1 R1 r1 => ?_
    obtain ⟨F2, Sl2, s2, R2, r2⟩ := fzPs_ok R1 r1 h3
    cases r2 with
    | cons rv rn =>
      cases rn
      rename_i v
      refine ⟨by simp, fun a na => ⟨a, v, rfl, upd_same, fun dx hdx => ⟨rfl, dx, [(f, v)], upd_same, ?_, ?_, ?_⟩⟩⟩
      · have nd : dx ≠ a := fun z => by rw [z, upd_same] at hdx; cases hdx
        rw [upd_ne nd, upd_same]
      · have nd : dx ≠ a := fun z => by rw [z, upd_same] at hdx; cases hdx
        rw [upd_ne nd] at hdx
        exact hdx
      · have nd : dx ≠ a := fun z => by rw [z, upd_same] at hdx; cases hdx
        rw [upd_ne nd] at hdx
        rw [made_heap na nd]
        have fd : F2 dx = none := R2.ex.none hdx
        have s3 : Step F2 H1 Sl2 F2 (upd H1 dx (.xd [(f, v)])) Sl2 := Step.grow (Ex.refl F2) (fun b o z => by rw [upd_ne (ne_of_none z hdx)]; exact z) fun b o z => .inl z
        have q' := q F2 (upd H1 dx (.xd [(f, v)])) σ Sl2 dx v (s1.trans (s2.trans s3)) (R2.ex.trans (Ex.new hdx)) rv fd (s1.tkb hdx) (by rw [hcl]; exact upd_same)
        rw [hcl] at q'
        exact q'
  · cases h2
end
end Tr
namespace Tr
open PySem PySem.Spec PyProof.Rows L2
/-! ### defs that may raise -/
structure FnX (P : Program) (w : World) (K : PySem.W.Frag) (mg : Str → Option Value) (base : Heap) (k : Nat) (f : Addr) (fd : FuncData) (ps : List Str) (sp : Sp) : Prop where
  len : ∀ vs H Q E, sp vs H Q E → vs.length = ps.length
  go : ∀ (A : Around) (ou : List Env) (s : Shared) (H : Hp) (ar : Args) (us : List Value) (vs : List V) (Q : VK) (E : XK), Room k A → A.guards = some [] → Env0 P w K mg base A ou s H → BindsTo s fd ar (ps.zip us) → Vals vs us → sp vs H Q E →
    codeAny (model P w) A (.call (.ref f) ar) (CR (L2.CX P w) ou P w H s Q E) s
section
variable {P : Program} {w : World} {K : PySem.W.Frag} {mg : Str → Option Value} {base : Heap}
theorem FnX.mono {j k : Nat} {f : Addr} {fd : FuncData} {ps : List Str} {sp : Sp} (F : FnX P w K mg base j f fd ps sp) (h : j ≤ k) : FnX P w K mg base k f fd ps sp :=
  ⟨F.len, fun A ou s H ar us vs Q E r => F.go A ou s H ar us vs Q E (r.mono h)⟩
theorem okX {x qual : Str} {st : Stmt} {f : Addr} {fd : FuncData} {N ps : List Str} {k : Nat} {sp : Sp} (F : Fun K x qual st f fd) (S : FnScope N ps (defScope st)) (len : ∀ vs H Q E, sp vs H Q E → vs.length = ps.length)
    (body : ∀ (cdv : Value) (A : Around) (ou : List Env) (s : Shared) (H : Hp) (vs : List V) (Q : VK) (E : XK), Room k (A.deeper (envOfC qual (defScope st) s.heap.objs.size f cdv)) → A.guards = some [] → sp vs H Q E →
      ∃ t, PSs (cxOf (L2.CX P w) P w K mg base N qual (defScope st) f cdv A ou s H E) (defBody st) t ∧ t { nx := fun _ H' => Q .non H', rt := Q } (L2.start N vs) H) : FnX P w K mg base (k + 1) f fd ps sp := by
  obtain ⟨oc, od, kV, doc, pm, an, cdv, ct, osl, rfl, lk, hcd⟩ := F.ex
  constructor
  · exact len
  intro A ou s H ar us vs Q E room gu e0 bi rv want
  have hl := len vs H Q E want
  have here : ∀ b o, base.get? b = some o → s.heap.get? b = some o := fun b o z => (e0.bs b o z).1
  have inK : K.In s.heap := e0.mod.kin.keeps here
  have nol : s.heap.NoLimit := e0.mod.nolimit.keeps here
  have kinds : ∀ y ∈ ps.zip us, (defScope st).names.lookup y.1 = some .local ∨ ((defScope st).names.lookup y.1 = some .cell ∧ ((cellsFrom (s.heap.objs.size + 1) (defScope st).names []).lookup y.1).isSome = true) := by
    rintro ⟨nm, u⟩ hy
    cases S.par nm (List.of_mem_zip hy).1 with
    | inl z => exact .inl z
    | inr z => exact .inr ⟨z, PySem.W.cellsFrom_some _ _ _ (.inl z)⟩
  apply codeAny_call_function room.depth (inK _ _ lk) rfl S.co S.gen rfl (PySem.W.codeRec_of inK hcd)
  refine bi _ _ _ _ (wpAny_newFunctionEnv_cells S.kind kinds ?_)
  intro env eenv s1 made
  subst eenv
  refine ⟨nol.keeps made.toInCall.keep, ?_⟩
  apply codeAny_func
  obtain ⟨t, pt, qt⟩ := body cdv A ou s H vs Q E (room.deeper _) gu want
  have inv0 : Inv (cxOf (L2.CX P w) P w K mg base N qual (defScope st) f cdv A ou s H E) [] (L2.start N vs) H s1 := inv_start S room.hd e0 hl rv made
  have done : ∀ {σ1 : L2.St} {H1 : Hp} {v : V} {u : Value} {s2 : Shared}, Inv (cxOf (L2.CX P w) P w K mg base N qual (defScope st) f cdv A ou s H E) [] σ1 H1 s2 → RelV v u → Q v H1 → CE ou P w H s Q u s2 := by
    intro σ1 H1 v u s2 J r q
    exact ⟨v, H1, J.os, J.bare, J.base, J.hok, r, q⟩
  refine wpAny_mono (PSs.run pt [] s1 (L2.start N vs) H _ inv0 qt) ?_ fun e s2 z => z
  intro fl s2 z
  match fl, z with
  | .ret u, ⟨v, σ1, H1, J, r, q⟩ => exact done J r q
  | .next, ⟨σ1, H1, J, q⟩ => exact done (v := V.non) (u := Value.none) J rfl q
  | .brk, ⟨_, _, _, q⟩ => exact False.elim q
  | .cont, ⟨_, _, _, q⟩ => exact False.elim q
end
section
variable {X : Cx} {k : Nat} {f : Addr} {fd : FuncData} {ps : List Str} {sp : Sp} {x : Str} {p pos : Pos} {e : Expr} {es : List Expr} {t : TA} {E : L2.St → XK}
theorem pe_callX (F : FnX X.prog X.w X.K X.mg X.base k f fd ps sp) (room : Room k X.A) (gu : X.A.guards = some []) (hg : Gl X x) (hm : X.mg x = some (.ref f)) (hk : PySem.W.keepIn X.K (.ref f) = true) (hb : Binds X.K fd ps [])
    (hx : ∀ σ, PassesAt (L2.CX X.prog X.w) X σ (E σ))
    (ha : PA X (e :: es) t) (nd : (x == ("__debug__" : Str)) = false := by decide) (st : starEach (e :: es) X.env = (false, eval e X.env) :: starEach es X.env := by rfl) (pl : (backTo pos (starEach es X.env)).any (·.1) = false := by rfl) :
    PE X (.Call (.Name x p) (e :: es) [] pos) (tCallS sp E t) := by
  constructor
  intro pins s σ H Q I h
  apply wpAny_Call_Name_kw
  refine ld_glob I hg hm ?_ nd
  refine PySem.W.callWith_K (h₀ := X.base) I.ok.mod.kin hk (thn (ha.run pos pins s σ H _ I h) ?_) st pl
  rintro us s1 ⟨vs, H1, I1, rv, q⟩
  have hl : us.length = ps.length := by rw [← rv.length]; exact F.len _ _ _ _ q
  have b := hb s1 us I1.kIn (by rw [List.append_nil]; exact hl)
  rw [List.append_nil] at b
  refine ⟨I1.kIn, wpAny_call (codeAny_mono (F.go X.A X.stack s1 H1 _ us vs Q (E σ) room gu I1.env0 b rv q) ?_)⟩
  intro r s' z
  match r, z with
  | .ok (.ret _), z => exact I1.after z
  | .ok .next, z => exact z.elim
  | .ok .brk, z => exact z.elim
  | .ok .cont, z => exact z.elim
  | .error e, z => exact hx σ pins H1 s1 e s' I1 z
end

def spX (cl : Cl) (xf : XF) : Sp := fun vs H Q E => ∃ (F : Hp) (os : List O) (Sl : Nat → Addr → Prop) (r : Xr), REnv F H (vs.map some) (os.map some) Sl ∧ (∀ (k : Nat) (b : Addr), ¬ Sl k b) ∧ (∀ (k : Nat) (o : O), os[k]? = some o → plainO o = true) ∧ xf os = some r ∧
  match r with
  | .ok o => ∀ v F' H' Sl' T, Step F H Sl F' H' Sl' → REnv F' H' (vs.map some) (os.map some) Sl' → (∀ k b, ¬ Sl' k b) → New F' H H' Sl' o v T → Q v H'
  | .ex n d => ∀ F' H' dx v, Step F H Sl F' H' (fun _ _ => False) → Ex F' H' → Rp F' d v → F' dx = none → H dx = none → H' dx = some (.xd [((cl n).2, v)]) → E (.ref (cl n).1) (some dx) H'
def xDef (n np : Nat) (m : MX) : XF := fun os => if os.length = np then match m (os.map some ++ List.replicate (n - os.length) none) with
  | some (.c (.rt r), _) => some (.ok r)
  | some (.c .nx, _) => some (.ok (.fz .none))
  | some (.ex n d, _) => some (.ex n d)
  | _ => none else none
theorem byX_len {cl : Cl} {n np : Nat} {m : MX} {vs : List V} {H : Hp} {Q : VK} {E : XK} (h : spX cl (xDef n np m) vs H Q E) : vs.length = np := by
  obtain ⟨F, os, Sl, r, R, _, _, hm, _⟩ := h
  have hl := R.len
  rw [List.length_map, List.length_map] at hl
  unfold xDef at hm
  split at hm
  · rename_i hn
    rw [hl, hn]
  · cases hm
theorem def_okX {cl : Cl} {t : TS} {m : MX} {N : List Str} {vs : List V} {H : Hp} {Q : VK} {E : XK} (h : RX cl (fun cls d _ H => E cls d H) t m) {np : Nat} (hsp : spX cl (xDef N.length np m) vs H Q E) : t { nx := fun _ H' => Q .non H', rt := Q } (L2.start N vs) H := by
  obtain ⟨F, os, Sl, r, R, hs, pl, hm, q⟩ := hsp
  have hs' : ∀ k b, Sl k b → k ∈ ([] : List Nat) := fun k b z => (hs k b z).elim
  have pl' : ∀ k o, os[k]? = some o → k ∉ ([] : List Nat) → plainO o = true := fun k o z _ => pl k o z
  unfold xDef at hm
  split at hm
  case isFalse => cases hm
  split at hm
  · rename_i o env' h1
    cases hm
    refine h F H _ _ Sl R.enter (.c (.rt o)) env' h1 _ fun v F' H' σ' Sl' T s R' p w dj tr nw => ?_
    obtain ⟨_, Sl'', s'', R'', hs'', k⟩ := leave (N := N) (pn := []) (r' := o) (r := o) R pl' hs' s R' (fun i z => by simp at z) rfl
    refine q v F' H' Sl'' T s'' R'' (fun k b z => nomatch hs'' k b z) ⟨w, fun i a x y => dj i a x (k i a y), tr, fun a z => ?_⟩
    rcases nw a z with y | ⟨i, hi, y⟩
    · exact y
    · exact (hs i a y).elim
  · rename_i env' h1
    cases hm
    refine h F H _ _ Sl R.enter (.c .nx) env' h1 _ fun F' H' σ' Sl' s R' p => ?_
    obtain ⟨_, Sl'', s'', R'', hs'', k⟩ := leave (N := N) (pn := []) (r' := O.fz .none) (r := O.fz .none) R pl' hs' s R' (fun i z => by simp at z) rfl
    exact q .non F' H' Sl'' (fun _ => False) s'' R'' (fun k b z => nomatch hs'' k b z) ⟨rfl, fun _ _ z => z.elim, fun _ z => z.elim, fun _ z => z.elim⟩
  · rename_i n d env' h1
    cases hm
    refine h F H _ _ Sl R.enter (.ex n d) env' h1 _ fun F' H' σ' Sl' dx v s e rv fd hd0 hd => ?_
    exact q F' H' dx v (s.trans (Step.fewer fun _ _ z => z.elim)) e rv fd hd0 hd
  · cases hm
/-- f(..) as a statement -/
def xCall (xf : XF) (ma : MA) : MX := bnd ma fun ps e => match prepX ps e with
  | some (os, e2) => match xf os with
    | some (.ok _) => some (.c .nx, e2)
    | some (.ex n d) => some (.ex n d, e2)
    | none => none
  | none => none
/-- what a call of such a def leaves for its caller -/
theorem callX_any {cl : Cl} {pu : Bool} {ta : TA} {ma : MA} {xf : XF} {F H : Hp} {σ : L2.St} {env : En} {Sl : Nat → Addr → Prop} {ps : List P} {e1 e2 : En} {os : List O} {r : Xr} (h : RA pu ta ma) (R : REnv F H σ env Sl) (h1 : ma env = some (ps, e1)) (h3 : prepX ps e1 = some (os, e2)) (h4 : xf os = some r)
    {Q : VK} {E : L2.St → XK}
    (ok : ∀ o, r = .ok o → ∀ v F' H' Sl' T, Step F H Sl F' H' Sl' → REnv F' H' σ e2 Sl' → New F' H H' Sl' o v T → Q v H')
    (ex : ∀ n d, r = .ex n d → ∀ F' H' Sl' dx v, Step F H Sl F' H' Sl' → REnv F' H' σ e2 Sl' → Rp F' d v → F' dx = none → H dx = none → H' dx = some (.xd [((cl n).2, v)]) → E σ (.ref (cl n).1) (some dx) H') : tCallS (spX cl xf) E ta σ H Q := by
  refine h F H σ env Sl R ps _ h1 _ fun vs F1 H1 Sl1 s1 pu1 R1 r1 => ?_
  obtain ⟨F2, Sl2, s2, R2, l2, r2⟩ := prepX_ok R1 r1 h3
  refine ⟨F2, os, fun _ _ => False, r, ⟨R2.ex, by rw [List.length_map, List.length_map, l2], fun i u hu => ?_, fun _ _ _ z => z.elim, fun _ _ z => z.elim⟩, fun _ _ z => z, fun k u hu => ?_, h4, ?_⟩
  · have hi := args_at hu
    have hv : i < vs.length := by rw [← l2]; exact (List.getElem?_eq_some_iff.mp hi).1
    obtain ⟨rp, rr⟩ := r2 i u vs[i] hi (List.getElem?_eq_getElem hv)
    exact ⟨vs[i], by rw [List.getElem?_map, List.getElem?_eq_getElem hv]; rfl, rr _ _⟩
  · have hv : k < vs.length := by rw [← l2]; exact (List.getElem?_eq_some_iff.mp hu).1
    obtain ⟨rp, rr⟩ := r2 k u vs[k] hu (List.getElem?_eq_getElem hv)
    exact rp
  · cases r with
    | ok o =>
      intro v F3 H3 Sl3 T s3 R3 hs3 n3
      have s4 : Step F2 H1 Sl2 F3 H3 Sl2 := Step.grow s3.exF (fun b u z => s3.fr b u z fun _ y => y) fun b u z => (s3.fz b u z).elim .inl fun y => y.elim .inr fun ⟨_, w⟩ => w.elim
      have R4 : REnv F3 H3 σ e2 Sl2 := R2.grow s3.exF (fun b u z => s3.fr b u z fun _ y => y) R3.ex fun b u z => (s3.fz b u z).elim .inl fun y => y.elim .inr fun ⟨_, w⟩ => w.elim
      refine ok o rfl v F3 H3 Sl2 T (s1.trans (s2.trans s4)) R4 ⟨n3.own, fun i a x y => ?_, n3.tr, fun a x => s1.tkb (s2.tkb (n3.nw a x))⟩
      obtain ⟨_, u, z⟩ := R2.tr i a y
      rw [n3.nw a x] at z
      cases z
    | ex n d =>
      intro F3 H3 dx v s3 e3 rv fd hd0 hd
      have s4 : Step F2 H1 Sl2 F3 H3 Sl2 := Step.grow s3.exF (fun b u z => s3.fr b u z fun _ y => y) fun b u z => (s3.fz b u z).elim .inl fun y => y.elim .inr fun ⟨_, w⟩ => w.elim
      have R4 : REnv F3 H3 σ e2 Sl2 := R2.grow s3.exF (fun b u z => s3.fr b u z fun _ y => y) e3 fun b u z => (s3.fz b u z).elim .inl fun y => y.elim .inr fun ⟨_, w⟩ => w.elim
      exact ex n d rfl F3 H3 Sl2 dx v (s1.trans (s2.trans s4)) R4 rv fd (s1.tkb (s2.tkb hd0)) hd
theorem rx_call {cl : Cl} {W : WX} {pu : Bool} {ta : TA} {ma : MA} {xf : XF} (h : RA pu ta ma) : RX cl W (tDrop (tCallS (spX cl xf) (WE W) ta)) (xCall xf ma) := by
  intro F H σ env Sl R c env' e D q
  obtain ⟨ps, e1, h1, h2⟩ := bnd_of e
  split at h2
  · rename_i os e2 h3
    split at h2
    · rename_i o h4
      cases h2
      exact callX_any h R h1 h3 h4 (fun o' eo v F' H' Sl' T s R' n => q F' H' σ Sl' s R' fun _ _ => rfl) fun n d z => nomatch z
    · rename_i n d h4
      cases h2
      refine callX_any h R h1 h3 h4 (fun o z => nomatch z) fun n' d' z F' H' Sl' dx v s R' rv fd hd0 hd => ?_
      cases z
      exact q F' H' σ Sl' dx v s R'.ex rv fd hd0 hd
    · cases h2
  · cases h2
end Tr
namespace Tr
open PySem PySem.Spec PyProof.Rows L2
/-! ### an exception that is kept behind its except suite -/
def ExK (a : Addr) (cls : Value) (d : Option Addr) : HO := .ext fun h => ∃ (oe : Obj) (vs : Array Value), h.get? a = some oe ∧ Zc cls d oe ∧ oe.data = .fields vs
theorem exK_ok {P : Program} {w : World} {H : Hp} {h : Heap} {a : Addr} {cls : Value} {d : Option Addr} {oe : Obj} {vs : Array Value} (e : h.get? a = some oe) (z : Zc cls d oe) (q : oe.data = .fields vs) : ObjOk P w H h a (ExK a cls d) :=
  ⟨⟨oe, vs, e, z, q⟩, ⟨oe, e⟩, fun _ _ ⟨o, v, x, r⟩ k => ⟨o, v, k o x, r⟩⟩
section
variable {X : Cx} {pins : List (Addr × Obj)} {σ : L2.St} {H : Hp} {s : Shared}
theorem Inv.track {a : Addr} {oe : Obj} {vs : Array Value} {cls : Value} {d : Option Addr} (I : Inv X pins σ H s) (ha : s.heap.get? a = some oe) (hz : Zc cls d oe) (hd : oe.data = .fields vs) (na : H a = none) (n0 : X.s_0.heap.get? a = none) (nL : a ≠ X.env.locals)
    (nc : ∀ x c, X.env.cells.lookup x = some c → c ≠ a) (np : ∀ p ∈ X.pn ++ pins, p.1 ≠ a) : Inv X pins σ (upd H a (ExK a cls d)) s := by
  have old : ∀ b o, X.s_0.heap.get? b = some o → b ≠ a := fun b o e z => by rw [z, n0] at e; cases e
  have neT : ∀ {b : Addr} {o : HO}, H b = some o → b ≠ a := fun {b o} e z => by rw [z, na] at e; cases e
  refine ⟨I.ok, I.os, I.bare, ⟨I.base.keep, I.base.slot, fun b o e n hx => ?_, I.base.there, fun b xs e => ?_, fun b o u e => ?_, fun b ps e => ?_⟩, I.loc, I.cell, ?_, fun x c e => ?_, fun p hp => ?_, fun b u e => ?_, I.len⟩
  · rw [upd_ne (old b o e)]; exact I.base.free b o e n hx
  · have q := I.base.tups b xs e
    rw [upd_ne (neT q)]; exact q
  · have q := I.base.frzs b o u e
    rw [upd_ne (neT q)]; exact q
  · obtain ⟨m, q⟩ := I.base.tbls b ps e
    exact ⟨m, by rw [upd_ne (neT q)]; exact q⟩
  · rw [upd_ne (Ne.symm nL)]; exact I.free
  · rw [upd_ne (nc x c e)]; exact I.freeC x c e
  · obtain ⟨e, n, r⟩ := I.pin p hp
    exact ⟨e, by rw [upd_ne (np p hp)]; exact n, r⟩
  · by_cases hb : b = a
    · subst hb
      rw [upd_same] at e
      cases e
      exact exK_ok ha hz hd
    · rw [upd_ne hb] at e
      exact (I.hok b u e).stay (fun c v _ q => q) (fun c q => by rw [upd_ne (neT q)]; exact q) fun c xs q => by rw [upd_ne (neT q)]; exact q
end
/-- what the clause wishes; behind it the exception may be spoken of -/
def wKp (K : PySem.W.Frag) (c : Value) (i : Nat) (ts : Addr → Value → Option Addr → TS) (Wout : WX) (D : Ends) : WX := fun cls d σ H =>
  ∃ b, PySem.W.exmOne K cls c = some b ∧ (b = true → ∀ a, H a = none → ts a cls d { nx := fun σ' H' => H' a = none → D.nx (σ'.set i none) (upd H' a (ExK a cls d)), rt := fun _ _ => False, bk := fun _ _ => False, ct := fun _ _ => False } (σ.set i (some (.ref a))) H) ∧
    (b = false → Wout cls d σ H)
section
variable {X : Cx} {x n : Str} {c : Value} {i : Nat} {body suite : List Stmt} {b₀ : Stmt} {np pos pos' : Pos} {tb : WX → TS} {ts : Addr → Value → Option Addr → TS} {Wout : WX}
theorem ps_try_keep (hs : X.stack = X.env :: X.outer) (hf : X.env.frame = some X.env.locals) (hex : X.ex = []) (hN : X.N.Nodup) (hi : X.N[i]? = some n) (hln : X.env.kindOf n = some .local) (hc : Names X x c) (tk : Takes X Wout)
    (hb : ∀ (W : WX) (pn : List (Addr × Obj)) (xe : Value → Shared → Prop), Takes (X.tr pn xe) W → PassesOwn (model X.prog X.w) X.A X.env xe → PSs (X.tr pn xe) body (tb W))
    (hsu : ∀ (a : Addr) (oe : Obj) (cls : Value) (d : Option Addr) (pn : List (Addr × Obj)), Zc cls d oe → (∃ vs, oe.data = .fields vs) → PSs (X.suite a ((a, oe) :: pn)) (b₀ :: suite) (ts a cls d)) :
    PS X (.Try body [.ExceptHandler (some (.Name x np)) (some n) (b₀ :: suite) pos'] [] [] pos) (fun D σ H => tb (wKp X.K c i ts Wout D) D σ H) := by
  refine ⟨fun pins s σ H D I h => ?_⟩
  have ok := I.ok
  have hfr : X.A.frames = some (X.env :: X.outer) := by rw [ok.frames, hs]
  have hloc : Loc X.env.scope n := .inl hln
  refine wpAny_Try_except ?_
  refine wpAny_mono ((hb (wKp X.K c i ts Wout D) (X.pn ++ pins) (fun e s₁ => wpAny (model X.prog X.w) X.A (noteFrame e X.env) (fun _ s₂ => wpAny (model X.prog X.w) X.A (setFlight e none) (fun _ s₃ =>
    wpAny (model X.prog X.w) X.A (handleBy e X.env [.ExceptHandler (some (.Name x np)) (some n) (b₀ :: suite) pos']) (SP X pins D) X.xe s₃) X.xe s₂) X.xe s₁) (fun u s' xx => ?_) PassesOwn.looking).run [] s σ H D (I.toTry _) h) (fun f s1 hsp => ?_) (fun e s1 he => he)
  · -- the catch
    obtain ⟨a, B, sI, pins', σ', H', cls, d, rfl, J', nb, up, sky, na, os, ag, b, hb1, hyes, hno⟩ := xx
    have J : Inv X pins σ' H' sI := J'.ofTry ok
    have sky' : Sky B (X.env :: X.outer) a (Zc cls d) X.env.locals s'.heap := by rw [← hs]; exact sky
    show wpAny (model X.prog X.w) X.A (noteFrame (.ref a) X.env) _ _ _
    refine Sky.land Zc.steady hfr hf sky' fun h3 fl3 up3 => ?_
    have J3 : Inv X pins σ' H' { s' with heap := h3 } := J.landed nb fl3.1 (up.trans up3) os ag
    obtain ⟨oe3, vs3, he3, hz3, hd3⟩ := fl3.there
    have notFr : ∀ {h : Heap} {o : Obj} {vs : Array Value}, h.FunFrames B (X.env :: X.outer) → h.get? a = some o → o.data = .fields vs → a ∉ frs (X.env :: X.outer) := fun {h o vs} ff e dd hm => by
      obtain ⟨_, o', e', hnf⟩ := ff.mem hm
      rw [e] at e'; cases e'
      exact hnf _ dd
    have nfr := notFr fl3.2.2.1 he3 hd3
    have nL : a ≠ X.env.locals := fun z => nfr (List.mem_filterMap.mpr ⟨X.env, List.mem_cons_self, by rw [hf, z]⟩)
    have nF : a ∉ X.fs := fun hm => by
      obtain ⟨e, he, q⟩ := List.mem_filterMap.mp hm
      exact nfr (List.mem_filterMap.mpr ⟨e, List.mem_cons_of_mem _ he, q⟩)
    have nB : B.get? a = none := fl3.2.1
    have nI : sI.heap.get? a = none := by
      cases e : sI.heap.get? a with
      | none => rfl
      | some o =>
        have z := nb a o e (by rw [hs]; exact nfr)
        rw [nB] at z
        cases z
    have n0 : X.s_0.heap.get? a = none := by
      cases e : X.s_0.heap.get? a with
      | none => rfl
      | some o =>
        obtain ⟨o', z⟩ := J.base.there a o e (by rw [hex]; exact fun z => nomatch z)
        rw [nI] at z
        cases z
    have nc : ∀ y c, X.env.cells.lookup y = some c → c ≠ a := fun y c e z => by
      obtain ⟨v, o, q, _⟩ := J.cell y c e
      rw [z, nI] at q
      cases q
    have npn : ∀ p ∈ X.pn ++ pins, p.1 ≠ a := fun p hp z => by
      have q := (J.pin p hp).1
      rw [z, nI] at q
      cases q
    have S3 := J3.suite he3 hd3 na nL nF
    refine wpAny_handleBy_cons (codeAny_handlers_test ?_) (by intro q; cases q)
    have LT : PySem.W.Looks (model X.prog X.w) h3 (typeOf (.ref a)) cls := fun A Q E s k q => wpAny_typeOf_ref (k _ _ he3) (by rw [hz3.1]; exact q)
    have LM := PySem.W.exm_one (M := model X.prog X.w) (J3.kIn) LT hb1
    have test : ∀ {Q : Value → Shared → Prop} {E : Value → Shared → Prop}, Q c { s' with heap := h3 } → wpAny (model X.prog X.w) (X.A.mark (some (.ref a))) (eval (.Name x np) X.env) Q E { s' with heap := h3 } := fun {Q E} q => by
      obtain ⟨hg, hdbg, hm | ⟨hm, hv, hnn⟩⟩ := hc
      · exact ld_glob (X := X.suite a ((a, oe3) :: (X.pn ++ pins))) S3 hg hm q hdbg
      · exact ld_blt (X := X.suite a ((a, oe3) :: (X.pn ++ pins))) S3 hg hm hv q hnn hdbg
    refine test (LM.here ?_)
    cases b with
    | true =>
      refine codeAny_handlers_suite_as ?_
      refine HandSPX.lands_againZ fl3 fun h4 fl4 up4 => ?_
      have J4 : Inv X pins σ' H' { s' with heap := h4 } := J.landed nb fl4.1 ((up.trans up3).trans up4) os ag
      obtain ⟨oe4, vs4, he4, hz4, hd4⟩ := fl4.there
      have S4 := J4.suite he4 hd4 na nL nF
      refine store_ok (X := X.suite a ((a, oe4) :: (X.pn ++ pins))) (v := .ref a) S4 hN hi hloc rfl (fun s5 S5 => ?_) (.inr hln)
      refine wpAny_mono ((hsu a oe4 cls d (X.pn ++ pins) hz4 ⟨_, hd4⟩).run [] s5 _ H' _ S5 (hyes rfl a na)) (fun f s6 hsp => ?_) (fun _ _ z => False.elim z)
      cases f with
      | next =>
        obtain ⟨σ6, H6, S6, q6⟩ := hsp
        obtain ⟨ha6, na6, _⟩ := S6.pin (a, oe4) (List.mem_append_left _ List.mem_cons_self)
        exact gone_ok (Inv.track (S6.unsuite ok) ha6 hz4 hd4 na6 n0 nL nc npn) hN hi hln fun s7 J7 => ⟨_, _, J7, q6 na6⟩
      | brk =>
        obtain ⟨σ6, H6, S6, q6⟩ := hsp
        exact q6.elim
      | cont =>
        obtain ⟨σ6, H6, S6, q6⟩ := hsp
        exact q6.elim
      | ret u =>
        obtain ⟨v6, σ6, H6, S6, r6, q6⟩ := hsp
        exact q6.elim
    | false =>
      show wpAny _ X.A (handleBy (.ref a) X.env []) _ _ _
      refine wpAny_handleBy_nil ?_
      obtain ⟨k1, k2, k3, oe, vs, T, oT, ts', he, hz, hd, h1, hr⟩ := id fl3
      unfold PySem.passOn
      refine wpAny_bind (wpAny_field he hd h1 ?_)
      rw [if_neg (show ¬ ((Value.ref T == Value.none) = true) from by simp)]
      have fin : wpAny (model X.prog X.w) X.A (setFlight (.ref a) X.env.frame) (fun _ s4 => wpAny (model X.prog X.w) X.A (throw (.ref a) : Sem Flow) (SP X pins D) X.xe s4) X.xe { s' with heap := h3 } := by
        rw [hf]
        refine HandSPX.setFlight_upZ fl3 fun h4 hh4 up4 => wpAny_throw (tk _ _ ?_)
        exact ⟨a, B, sI, pins, σ', H', cls, d, rfl, J, nb, (up.trans up3).trans up4, .inr (.inr (by rw [hs]; exact hh4)), na, os, ag, hno rfl⟩
      first
        | exact wpAny_bind (wpAny_pure (wpAny_bind fin))
        | exact wpAny_bind fin
  · cases f with
    | next =>
      obtain ⟨σ', H', J', q⟩ := hsp
      exact wpAny_execs_nil ⟨σ', H', J'.ofTry ok, q⟩
    | brk =>
      obtain ⟨σ', H', J', q⟩ := hsp
      exact ⟨σ', H', J'.ofTry ok, q⟩
    | cont =>
      obtain ⟨σ', H', J', q⟩ := hsp
      exact ⟨σ', H', J'.ofTry ok, q⟩
    | ret u =>
      obtain ⟨v, σ', H', J', r, q⟩ := hsp
      exact ⟨v, σ', H', J'.ofTry ok, r, q⟩
end
/-! ### kept.f; isinstance(kept, T) -/
/-- what the written part says of the class -/
structure KcC (K : PySem.W.Frag) (C : Addr) (f : Str) : Prop where
  ga : PySem.W.findIn K (.ref C) "__getattribute__" = some (some (.builtin "BaseException.__getattribute__"))
  gg : PySem.W.findIn K (.ref C) "__getattr__" = some none
  exC : PySem.W.subIn K (.ref C) (.type "BaseException") = some true
  hdC : PySem.W.hasDictIn K C = true
  noF : PySem.W.findIn K (.ref C) f = some none
  clC : (PySem.W.clsIn K C).isSome = true
  ca : PySem.W.findIn K (.ref C) "__class__" = some (some (.builtin "object.__class__"))
  cn : PySem.W.specialIn K (.builtin "object.__class__") "__get__" = some (some (.builtin "getset_descriptor.__get__"))
  ct : PySem.W.takesIn K (.builtin "object.__class__") = some true
  cm : PySem.W.mroIn K C (.type "object") = some true
def tKf (K : PySem.W.Frag) (f : Str) (te : TE) : TE := fun σ H Q => te σ H fun x H1 => ∃ a C d v, x = .ref a ∧ H1 a = some (ExK a (.ref C) (some d)) ∧ H1 d = some (.xd [(f, v)]) ∧ KcC K C f ∧ Q v H1
theorem kept_at {P : Program} {w : World} {H : Hp} {h : Heap} {a C d : Addr} {f : Str} {v : V} (hok : HOk P w H h) (ea : H a = some (ExK a (.ref C) (some d))) (ed : H d = some (.xd [(f, v)])) : ∃ (oe : Obj) (od : Obj) (u : Value), PySem.W.InstAt h a oe C (some od) ∧ RelV v u ∧ PySem.W.lookIn f od = some (some u) := by
  obtain ⟨⟨oe, vs, e, z, q⟩, _⟩ := hok a _ ea
  obtain ⟨mA, hns, hr⟩ := hok d _ ed
  obtain ⟨od, ho, hl⟩ := lookIn_ns hns
  have l : List.lookup f [(f, v)] = some v := by simp [List.lookup]
  obtain ⟨u, hu, ru⟩ := RelO.some_of (v := v) (o := mA f) (by rw [← l]; exact hr f)
  exact ⟨oe, od, u, ⟨e, z.1, by unfold PySem.W.notCls; rw [q] <;> rfl, by rw [z.2]; exact ho⟩, ru, by rw [hl, hu]⟩
theorem pe_kf {X : Cx} {e : Expr} {te : TE} {pos : Pos} {f : Str} (he : PE X e te) (hb : attributeBase e f X.env (eval e X.env) = eval e X.env := by rfl) : PE X (.Attribute e f pos) (tKf X.K f te) := by
  refine ⟨fun pins s σ H Q I h => ?_⟩
  refine attr_of hb (thn (he.run pins s σ H _ I h) fun u s1 hh => ?_)
  obtain ⟨x, H1, I1, rx, a, C, d, v, ex, ea, ed, T, q⟩ := hh
  subst ex
  obtain rfl : u = Value.ref a := rx
  obtain ⟨oe, od, u, J, ru, hl⟩ := kept_at I1.hok ea ed
  exact HandSPX.exc_get I1.kIn J T.ga T.gg T.exC (PySem.W.findObj_own T.hdC T.noF rfl hl) (handed_of ru) ⟨v, H1, I1.tok _, ru, q⟩
/-- isinstance(kept, T) -/
def rIsK (K : PySem.W.Frag) : List V → Hp → VK → Prop := fun xs H Q => ∃ (a C d : Addr) (f : Str) (v c : V) (cv : Value) (b : Bool), xs = [.ref a, c] ∧ H a = some (ExK a (.ref C) (some d)) ∧ H d = some (.xd [(f, v)]) ∧ KcC K C f ∧ ClsV c cv ∧ PySem.W.kitOne K (.ref C) cv = some b ∧ Q (.bl b) H
theorem call_isK {X : Cx} : CallR X (.builtin "isinstance") (rIsK X.K) := by
  intro pins s σ H xs us Q I r h
  obtain ⟨a, C, d, f, v, c, cv, b, rfl, ea, ed, T, k, e, q⟩ := h
  obtain ⟨u1, u2, rfl, r1, r2⟩ := vals2 r
  have e2 := k.eq r2
  subst e2
  cases (show u1 = Value.ref a from r1)
  obtain ⟨oe, od, u, J, ru, hl⟩ := kept_at I.hok ea ed
  exact PySem.W.kia_one (PySem.W.kitx_exc (gt := none) T.clC T.ga T.gg T.exC T.ca T.cn T.ct T.cm) I.kIn J e (fun z => nomatch z) fun tk => ⟨.bl b, H, I.tok tk, rfl, q⟩
end Tr
namespace Tr
open PySem PySem.Spec PyProof.Rows L2
/-- try: f(..) except X as error: kept = error; return told if kept is None or not isinstance(kept, T) else repr(kept.f): i error's place, j kept's -/
def mTryRet (i j n : Nat) (told : Str) (xf : XF) (ma : MA) : MS := bnd ma fun ps e => match prepX ps e with
  | some (os, e2) => match e2[j]? with
    | some (some (.fz .none)) => match xf os with
      | some (.ok _) => some (.rt (.fz (.str told)), e2)
      | some (.ex m d) => if m = n ∧ i ≠ j ∧ i < e2.length ∧ isTup d = false ∧ reprOk d = true ∧ deepD d ≤ 60 ∧ (reprD d).length ≤ sizeLine then some (.rt (.fz (.str (reprD d))), (e2.set i none).set j none) else none
      | none => none
    | _ => none
  | none => none
def tKeep (K : PySem.W.Frag) (cl : Cl) (c : Value) (i j : Nat) (xf : XF) (ta : TA) : TS := fun D σ H => tDrop (tCallS (spX cl xf) (WE (wKp K c i (fun _ _ _ => tAsg (tVar i) (gName j)) (fun _ _ _ _ => False) D)) ta) D σ H
def tTold (K : PySem.W.Frag) (j : Nat) (f told : Str) (T : String) : TS := tRet (tIf (tOr (tTest (tOp (fun x y H Q => y = .non ∧ Q (.bl (decide (x = .non))) H) (tVar j) (tC .non))) (tNot (tB (tCB (rIsK K) (tCons (tVar j) (tCons (tC (.ty T)) tNil)))))) (tC (.str told)) (tCB rRepr (tCons (tKf K f (tVar j)) tNil)))
theorem rs_tryRet {K : PySem.W.Frag} {cl : Cl} {C : Addr} {f told : Str} {T : String} {i j n : Nat} {pu : Bool} {ta : TA} {ma : MA} {xf : XF} (h : RA pu ta ma) (hcl : cl n = (C, f)) (kc : KcC K C f) (ex : PySem.W.exmOne K (.ref C) (.ref C) = some true) (hk : PySem.W.kitOne K (.ref C) (.type T) = some true) :
    RS [] (tSeq (tKeep K cl (.ref C) i j xf ta) (tTold K j f told T)) (mTryRet i j n told xf ma) := by
  intro F H σ env Sl R c env' e D q
  obtain ⟨ps, e1, h1, h2⟩ := bnd_of e
  split at h2
  · rename_i os e2 h3
    split at h2
    · rename_i h5
      split at h2
      · rename_i o h4
        cases h2
        refine callX_any h R h1 h3 h4 (fun o' eo v F' H' Sl' T s R' nn => ?_) fun n d z => nomatch z
        obtain ⟨w, hw, rw'⟩ := R'.at_ j _ h5
        cases (show w = .non from rw')
        refine ⟨.non, hw, rfl, true, rfl, ?_⟩
        exact q (.str told) F' H' σ Sl' (fun _ => False) s R' (fun _ _ => rfl) rfl (fun _ _ z => z.elim) (fun _ z => z.elim) fun _ z => z.elim
      · rename_i m d h4
        split at h2
        · rename_i hh
          obtain ⟨rfl, hij, hil, nt, ok, dp, sz⟩ := hh
          cases h2
          refine callX_any h R h1 h3 h4 (fun o z => nomatch z) fun n' d' z F' H' Sl' dx v s R' rv fd hd0 hd => ?_
          cases z
          rw [hcl] at hd ⊢
          refine ⟨true, ex, fun _ a na => ?_, fun z => nomatch z⟩
          have hjl : j < e2.length := (List.getElem?_eq_some_iff.mp h5).1
          have hl : σ.length = e2.length := R'.len
          refine ⟨.ref a, List.getElem?_set_self (by rw [hl]; exact hil), fun na2 => ?_⟩
          have hdxa : dx ≠ a := fun z => by rw [z, na] at hd; cases hd
          have hj : (((σ.set i (some (.ref a))).set j (some (.ref a))).set i none)[j]? = some (some (.ref a)) := by
            rw [List.getElem?_set_ne hij, List.getElem?_set_self (by rw [List.length_set, hl]; exact hjl)]
          have hd3 : (upd H' a (ExK a (.ref C) (some dx))) dx = some (.xd [(f, v)]) := by rw [upd_ne hdxa]; exact hd
          refine ⟨.ref a, hj, rfl, false, rfl, ?_⟩
          refine ⟨.ref a, hj, a, C, dx, f, v, .ty T, .type T, true, rfl, upd_same, hd3, kc, .ty T, hk, ?_⟩
          refine ⟨true, rfl, ?_⟩
          refine ⟨.ref a, hj, a, C, dx, v, rfl, upd_same, hd3, kc, ?_⟩
          have exn : Ex H' (upd H' a (ExK a (.ref C) (some dx))) := Ex.new na
          refine ⟨v, d, rfl, Rp.mono (R'.ex.trans exn) rv, nt, ok, dp, sz, ?_⟩
          have s2 : Step F' H' Sl' F' (upd H' a (ExK a (.ref C) (some dx))) Sl' := Step.grow (Ex.refl F') (fun b o z => exn b o z) fun b o z => .inl z
          refine q (.str (reprD d)) F' _ (((σ.set i (some (.ref a))).set j (some (.ref a))).set i none) Sl' (fun _ => False) (s.trans s2) ⟨R'.ex.trans exn, by simp [hl], fun k o hk => ?_, R'.dj, fun k b z => ?_⟩ (fun _ z => nomatch z) rfl (fun _ _ z => z.elim) (fun _ z => z.elim) fun _ z => z.elim
          · rcases set_at' hk with ⟨nk, hk2⟩
            rcases set_at' hk2 with ⟨nk2, hk3⟩
            obtain ⟨v2, e2', w2⟩ := R'.at_ k o hk3
            refine ⟨v2, ?_, w2.ext (Ex.refl F') fun b u _ y => exn b u y⟩
            rw [List.getElem?_set_ne (Ne.symm nk2), List.getElem?_set_ne (Ne.symm nk), List.getElem?_set_ne (Ne.symm nk2)]
            exact e2'
          · obtain ⟨y1, u, y2⟩ := R'.tr k b z
            exact ⟨y1, u, exn b u y2⟩
        · cases h2
      · cases h2
    · cases h2
  · cases h2
where
  set_at' {env : En} {j k : Nat} {o : O} (h : (env.set j none)[k]? = some (some o)) : k ≠ j ∧ env[k]? = some (some o) := by
    by_cases e : k = j
    · subst e
      by_cases hl : k < env.length
      · rw [List.getElem?_set_self hl] at h; cases h
      · rw [List.getElem?_eq_none (by simpa using hl)] at h; cases h
    · exact ⟨e, by rw [List.getElem?_set_ne (Ne.symm e)] at h; exact h⟩
end Tr
namespace Tr
open PySem PySem.Spec PyProof.Rows L2
/-! ### {} -/
def mDict : ME := fun env => some (.val (.dict []), env)
theorem re_dict : RE false tDNewK mDict := by
  intro F H σ env Sl R p env' e Q q
  cases e
  intro a na
  have fa := R.ex.none na
  have x : Ex F (upd F a (.dK [])) := Ex.new fa
  have y : Ex H (upd H a (.dK [])) := Ex.new na
  have z : Ex (upd F a (.dK [])) (upd H a (.dK [])) := fun b o h => by
    by_cases e : b = a
    · subst e; rw [upd_same] at h ⊢; exact h
    · rw [upd_ne e] at h ⊢; exact R.ex _ _ h
  have w : ∀ b o, upd F a (.dK []) b = some o → F b = some o ∨ H b = none := fun b o h => by
    by_cases e : b = a
    · subst e; exact .inr na
    · rw [upd_ne e] at h; exact .inl h
  exact q _ _ _ Sl (Step.grow x y w) (fun z => nomatch z) (R.grow x y z w) ⟨rfl, a, rfl, upd_same⟩
/-! ### tuple(xs), str(n) -/
theorem tupleK {X : Cx} {K : PySem.W.Frag} (h : X.K = K := by rfl) : CallR X (.type "tuple") (fun xs H Q => ∃ p ys, xs = [.ref p] ∧ ((SqL K H p ys ∧ ∀ l, H l = none → Q (.ref l) (upd H l (.tup ys))) ∨ (SqT K H p ys ∧ Q (.ref p) H))) := by subst h; exact call_tuple_of
def gTupleOf : En → List P → Option P := fun env ps => match ps with
  | [p] => (sq env p).map fun ds => .val (.tuple ds)
  | _ => none
theorem f_tuple {K : PySem.W.Frag} : FnK (fun xs H Q => ∃ p ys, xs = [.ref p] ∧ ((SqL K H p ys ∧ ∀ l, H l = none → Q (.ref l) (upd H l (.tup ys))) ∨ (SqT K H p ys ∧ Q (.ref p) H))) gTupleOf := by
  intro F H σ env Sl xs ps p R h e Q q
  unfold gTupleOf at e
  split at e
  · rename_i p1
    cases h with
    | cons a t =>
      cases t
      cases h1 : sq env p1 with
      | none => rw [h1] at e; cases e
      | some ds =>
        rw [h1] at e
        cases e
        obtain ⟨b, vs, rfl, hl, r⟩ := sq_of R a h1
        refine ⟨b, vs, rfl, .inl ⟨SqL.of hl, fun l nl => ?_⟩⟩
        obtain ⟨x, y, z, w, rr⟩ := new_tup R.ex nl r
        exact q _ _ _ x y z w rr
  · cases e
def gStrI : En → List P → Option P := fun env ps => match ps with
  | [.val (.int i)] => if i.natAbs.log2 < 1920 then some (.val (.str (toString i))) else none
  | _ => none
theorem f_strI : FnK (fun xs H Q => ∃ i : Int, xs = [.int i] ∧ i.natAbs.log2 < 1920 ∧ Q (.str (toString i)) H) gStrI := by
  intro F H σ env Sl xs ps p R h e Q q
  unfold gStrI at e
  split at e
  · rename_i i
    split at e
    · rename_i hb
      cases e
      cases h with
      | cons a t =>
        cases t
        exact ⟨i, by rw [show _ = V.int i from a], hb, q _ F H (Ex.refl F) (Ex.refl H) R.ex (fun _ _ z => .inl z) rfl⟩
    · cases e
  · cases e
/-! ### [a, b] == [c, d] of names, none of which is fixed by it -/
def vws (env : En) : List Nat → Option (List PyData)
  | [] => some []
  | i :: is => match vw env (.var i), vws env is with
    | some d, some ds => some (d :: ds)
    | _, _ => none
def tVars : List Nat → TA
  | [] => tNil
  | i :: is => tCons (tVar i) (tVars is)
theorem vws_ok {F H : Hp} {σ : L2.St} {env : En} {Sl : Nat → Addr → Prop} (R : REnv F H σ env Sl) : ∀ {is : List Nat} {ds : List PyData} {Q : List V → Hp → Prop}, vws env is = some ds → (∀ vs, All2 (Rp H) ds vs → Q vs H) → tVars is σ H Q
  | [], ds, Q, e, q => by
    cases e
    exact q [] .nil
  | i :: is, ds, Q, e, q => by
    unfold vws at e
    split at e
    · rename_i d ds' h1 h2
      cases e
      have hv : ∃ v, σ[i]? = some (some v) := by
        simp only [vw] at h1
        split at h1
        · rename_i o he; obtain ⟨v, a, _⟩ := R.at_ i _ he; exact ⟨v, a⟩
        · rename_i o he; obtain ⟨v, a, _⟩ := R.at_ i _ he; exact ⟨v, a⟩
        · rename_i o he; obtain ⟨v, a, _⟩ := R.at_ i _ he; exact ⟨v, a⟩
        · cases h1
      obtain ⟨v, hv⟩ := hv
      refine ⟨v, hv, vws_ok R h2 fun vs r => q (v :: vs) (.cons (vw_rp (p := .var i) R hv h1) r)⟩
    · cases e
def mCmpV (neg : Bool) (is js : List Nat) : ME := fun env => match vws env is, vws env js with
  | some ds, some es => if SeqAt.shaped (.list ds) && SeqAt.shaped (.list es) && decide (is.length ≤ 1000) && decide (js.length ≤ 1000) then some (.val (.bool (neg ^^ PyData.eqv (.list ds) (.list es))), env) else none
  | _, _ => none
theorem tVars_len {is : List Nat} {σ : L2.St} {H : Hp} {Q : List V → Hp → Prop} (h : tVars is σ H Q) : tVars is σ H fun vs H' => vs.length = is.length ∧ Q vs H' := by
  induction is generalizing Q with
  | nil => exact ⟨rfl, h⟩
  | cons i is ih =>
    obtain ⟨v, hv, h⟩ := h
    refine ⟨v, hv, ?_⟩
    have := ih h
    exact tVars_mono this fun vs H' ⟨l, q⟩ => ⟨by simp [l], q⟩
where
  tVars_mono : ∀ {is : List Nat} {σ : L2.St} {H : Hp} {Q Q' : List V → Hp → Prop}, tVars is σ H Q → (∀ vs H', Q vs H' → Q' vs H') → tVars is σ H Q'
    | [], _, _, _, _, h, k => k _ _ h
    | i :: is, σ, H, Q, Q', ⟨v, hv, h⟩, k => ⟨v, hv, tVars_mono (is := is) h fun vs H' q => k _ _ q⟩
theorem cmpV_ok {K : PySem.W.Frag} {neg : Bool} {r : R2} (hr : ∀ x y H Q, (∃ d e, Dp K H x d ∧ Dp K H y e ∧ SeqAt.shaped d = true ∧ SeqAt.shaped e = true ∧ Q (.bl (neg ^^ PyData.eqv d e)) H) → r x y H Q) {is js : List Nat} :
    RE false (tOp r (tLst (tVars is)) (tLst (tVars js))) (mCmpV neg is js) := by
  intro F H σ env Sl R p env' e Q q
  unfold mCmpV at e
  split at e
  · rename_i ds es h1 h2
    split at e
    · rename_i hh
      simp only [Bool.and_eq_true, decide_eq_true_eq] at hh
      obtain ⟨⟨⟨s1, s2⟩, l1⟩, l2⟩ := hh
      cases e
      refine tVars_len.tVars_mono (tVars_len (vws_ok R h1 (Q := fun vs H' => All2 (Rp H) ds vs ∧ H' = H) fun vs r => ⟨r, rfl⟩)) ?_
      rintro vs H1 ⟨hl1, r1, rfl⟩
      refine ⟨by rw [hl1, sizeLine_eq]; omega, fun a na => ?_⟩
      have ya : Ex H1 (upd H1 a (.lst vs)) := Ex.new na
      have R1 : REnv F (upd H1 a (.lst vs)) σ env Sl := R.grow (Ex.refl F) ya (R.ex.trans ya) fun b o z => .inl z
      refine tVars_len.tVars_mono (tVars_len (vws_ok R1 h2 (Q := fun vs' H' => All2 (Rp (upd H1 a (.lst vs))) es vs' ∧ H' = upd H1 a (.lst vs)) fun vs r => ⟨r, rfl⟩)) ?_
      rintro ws H2 ⟨hl2, r2, rfl⟩
      refine ⟨by rw [hl2, sizeLine_eq]; omega, fun b nb => ?_⟩
      have yb : Ex (upd H1 a (.lst vs)) (upd (upd H1 a (.lst vs)) b (.lst ws)) := Ex.new nb
      have c1 := SeqAt.canLay_of_shaped s1
      have c2 := SeqAt.canLay_of_shaped s2
      refine hr _ _ _ _ ⟨.list ds, .list es, ?_, ?_, s1, s2, ?_⟩
      · exact Rp.dp (Ex.refl _) (rp_list.mpr ⟨a, vs, rfl, yb _ _ upd_same, all_mono (ya.trans yb) r1⟩) c1
      · exact Rp.dp (Ex.refl _) (rp_list.mpr ⟨b, ws, rfl, upd_same, all_mono yb r2⟩) c2
      · exact q _ F _ Sl (Step.grow (Ex.refl F) (ya.trans yb) fun b o z => .inl z) (fun z => nomatch z) (R.grow (Ex.refl F) (ya.trans yb) (R.ex.trans (ya.trans yb)) fun b o z => .inl z) rfl
    · cases e
  · cases e
theorem re_eqV {K : PySem.W.Frag} (is js : List Nat) : RE false (tOp (rEqD K) (tLst (tVars is)) (tLst (tVars js))) (mCmpV false is js) :=
  cmpV_ok fun x y H Q ⟨d, e, h1, h2, h3, h4, h5⟩ => ⟨d, e, h1, h2, h3, h4, by rw [Bool.false_xor] at h5; exact h5⟩
theorem re_neV {K : PySem.W.Frag} (is js : List Nat) : RE false (tOp (rNeD K) (tLst (tVars is)) (tLst (tVars js))) (mCmpV true is js) :=
  cmpV_ok fun x y H Q ⟨d, e, h1, h2, h3, h4, h5⟩ => ⟨d, e, h1, h2, h3, h4, by rw [Bool.true_xor] at h5; exact h5⟩
/-! ### a, b = e, e' where both hold what is new -/
def mAsg2 (i j : Nat) (m n : MO) : MS := bnd m fun o e => bnd n (fun o' e2 => if i ≠ j then some (.nx, (e2.set i (some o)).set j (some o')) else none) e
theorem rs_asg2 {pn : List Nat} {te te' : TE} {m n : MO} {i j : Nat} (h : RO te m) (h' : RO te' n) (hp : i ∉ pn := by decide) (hp' : j ∉ pn := by decide) :
    RS pn (tPar i j (tCons te (tCons te' tNil))) (mAsg2 i j m n) := by
  intro F H σ env Sl R c env' e D q
  obtain ⟨o, e1, h1, h2⟩ := bnd_of e
  obtain ⟨o', e2, h3, h4⟩ := bnd_of h2
  split at h4
  · rename_i hij
    cases h4
    refine h F H σ env Sl R o _ h1 _ fun v F1 H1 Sl1 T s1 R1 n1 => ?_
    refine h' F1 H1 σ e1 Sl1 R1 o' _ h3 _ fun v' F2 H2 Sl2 T' s2 R2 n2 => ?_
    have y : Ex H2 H2 := Ex.refl H2
    -- what v holds stands as it did
    have keep : ∀ a u, T a → H1 a = some u → H2 a = some u := fun a u t z => s2.fr a u z fun k => n1.dj k a t
    have w1 : Own F2 H2 o v T := n1.own.ext s2.exF keep
    have t1 : ∀ a, T a → F2 a = none ∧ ∃ u, H2 a = some u := fun a t => by
      obtain ⟨x, u, z⟩ := n1.tr a t
      refine ⟨?_, u, keep a u t z⟩
      cases w : F2 a with
      | none => rfl
      | some u' =>
        rcases s2.fz a u' w with q | q | ⟨k, q⟩
        · rw [x] at q; cases q
        · rw [z] at q; cases q
        · exact (n1.dj k a t q).elim
    have d1 : ∀ k a, T a → ¬ Sl2 k a := fun k a t z => by
      rcases s2.own k a z with q | q
      · exact n1.dj k a t q
      · obtain ⟨_, u, w⟩ := n1.tr a t
        rw [q] at w; cases w
    have d2 : ∀ a, T a → ¬ T' a := fun a t z => by
      have q := n2.nw a z
      obtain ⟨_, u, w⟩ := n1.tr a t
      rw [q] at w; cases w
    have R3 : REnv F2 H2 σ e2 Sl2 := R2.grow (Ex.refl F2) y (R2.ex.trans y) fun b o z => .inl z
    have R4 := R3.put (i := i) (w1.ext (Ex.refl F2) fun a u _ z => y a u z) (fun k a x z => (d1 k a x z).elim) fun a t => ⟨(t1 a t).1, let ⟨u, z⟩ := (t1 a t).2; ⟨u, y a u z⟩⟩
    have R5 := R4.put (i := j) (n2.own.ext (Ex.refl F2) fun a u _ z => y a u z) (fun k a x z => by
      rcases z with ⟨_, z⟩ | ⟨_, z⟩
      · exact (n2.dj k a x z).elim
      · exact (d2 a z x).elim) fun a t => ⟨(n2.tr a t).1, let ⟨u, z⟩ := (n2.tr a t).2; ⟨u, y a u z⟩⟩
    refine ⟨v, v', rfl, ?_⟩
    refine q _ _ _ _ ?_ R5 fun k z => pin_set k ?_ |>.trans (pin_set k ?_)
    · have s3 : Step F2 H2 Sl2 F2 H2 Sl2 := Step.grow (Ex.refl F2) y fun b o z => .inl z
      have s := s1.trans (s2.trans s3)
      exact ⟨s.exF, s.fr, s.tk, fun k b z => by
        rcases z with ⟨_, z⟩ | ⟨_, z⟩
        · rcases z with ⟨_, z⟩ | ⟨_, z⟩
          · exact s.own k b z
          · exact .inr (n1.nw b z)
        · exact .inr (s1.tkb (n2.nw b z)), s.fz⟩
    · simp; intro y; exact hp' (y ▸ z)
    · simp; intro y; exact hp (y ▸ z)
  · cases h4
end Tr
namespace Tr
open PySem PySem.Spec PyProof.Rows L2
theorem isKK {X : Cx} {K : PySem.W.Frag} (h : X.K = K := by rfl) : CallR X (.builtin "isinstance") (rIsK K) := by subst h; exact call_isK
theorem kfK {X : Cx} {K : PySem.W.Frag} {e : Expr} {te : TE} {pos : Pos} {f : Str} (he : PE X e te) (h : X.K = K := by rfl) (hb : attributeBase e f X.env (eval e X.env) = eval e X.env := by rfl) : PE X (.Attribute e f pos) (tKf K f te) := by subst h; exact pe_kf he hb
theorem kit_ve {K : PySem.W.Frag} {C : Addr} (h : PySem.W.subIn K (.ref C) (.type "ValueError") = some true) : PySem.W.kitOne K (.ref C) (.type "ValueError") = some true := by
  have e : PySem.W.kitMeta "ValueError" = true := by decide +kernel
  have e2 : (Value.ref C == Value.type "ValueError") = false := by
    rw [beq_eq_false_iff_ne]
    intro z
    cases z
  show (if (Value.ref C == Value.type "ValueError") = true then some true else (if PySem.W.kitMeta "ValueError" = true then PySem.W.subIn K (.ref C) (.type "ValueError") else none)) = some true
  rw [e2, if_neg Bool.false_ne_true, if_pos e]
  exact h
/-- what the body of an own __init__ asks -/
theorem init_read {K : PySem.W.Frag} {C : Addr} {f m : Str} {N : List Str} {vs : List V} {H : Hp} {Q : VK} {E : XK} (hN : N.length = 2) (T : OexC K C) (hno : PySem.W.findIn K (.ref C) f = some none) (h : spI f C vs H Q E) :
    tSeq (tDrop (tVeI K (tCons (tVar 0) (tCons (tC (.str m)) tNil)))) (tOst K f (tVar 0) (tVar 1)) { nx := fun _ H' => Q .non H', rt := Q } (L2.start N vs) H := by
  obtain ⟨a, v, rfl, ha, q⟩ := h
  have s0 : (L2.start N [V.ref a, v])[0]? = some (some (.ref a)) := start_of rfl
  have s1 : (L2.start N [V.ref a, v])[1]? = some (some v) := start_of rfl
  refine ⟨.ref a, s0, a, C, [.str m], rfl, by simp, T, ha, ?_⟩
  refine ⟨v, s1, .ref a, s0, a, C, rfl, T, hno, .inl ⟨ha, fun dx hdx hne => ?_⟩⟩
  exact q dx hdx
end Tr
namespace Tr
open PySem PySem.Spec PyProof.Rows L2
/-! ### a comprehension over two -/
/-- the list at p is being made -/
structure Acc (p : Addr) (F1 H1 : Hp) (Sl1 : Nat → Addr → Prop) (F H : Hp) (Sl : Nat → Addr → Prop) (σ : L2.St) (env : En) (acc : List PyData) (ys : List V) : Prop where
  R : REnv F H σ env Sl
  st : Step F1 H1 Sl1 F H Sl
  ra : All2 (Rp F) acc ys
  fp : F p = none
  nsp : ∀ i, ¬ Sl i p
  hp : H p = some (.lst ys)
theorem Acc.more {p : Addr} {F1 H1 F H F' H' : Hp} {Sl1 Sl Sl' : Nat → Addr → Prop} {σ σ' : L2.St} {env env' : En} {acc : List PyData} {ys : List V} (A : Acc p F1 H1 Sl1 F H Sl σ env acc ys) (s : Step F H Sl F' H' Sl') (R' : REnv F' H' σ' env' Sl') : Acc p F1 H1 Sl1 F' H' Sl' σ' env' acc ys := by
  refine ⟨R', A.st.trans s, all_mono s.exF A.ra, ?_, fun i z => ?_, s.fr _ _ A.hp A.nsp⟩
  · cases z : F' p with
    | none => rfl
    | some o =>
      rcases s.fz p o z with y | y | ⟨j, y⟩
      · rw [A.fp] at y; cases y
      · rw [A.hp] at y; cases y
      · exact absurd y (A.nsp j)
  · rcases s.own i p z with y | y
    · exact A.nsp i y
    · rw [A.hp] at y; cases y
theorem lc_inner {g : TG} {tt : TT} {te : TE} {vs is : List Nat} {mg : PyData → En → Option En} {mt : MT} {me : ME} {pt pe : Bool} (hg : RT' is g mg) (ht : RT pt tt mt) (he : RE pe te me) (hs : ∀ i ∈ is, i ∈ vs)
    {J : It} {xs : List PyData} {p : Addr} {F1 H1 F4 H4 : Hp} {Sl1 Sl4 : Nat → Addr → Prop} {σ : L2.St} {env4 env' : En} {acc4 ds : List PyData} {ys4 : List V} (np : H1 p = none) (hJ : ItOk J F4 xs) (A4 : Acc p F1 H1 Sl1 F4 H4 Sl4 (wipe σ vs) env4 acc4 ys4) (go4 : mLcGo mg mt me vs xs acc4 env4 = some (ds, env'))
    {Nx : Hp → Prop} (fin : ∀ F H Sl ys, Acc p F1 H1 Sl1 F H Sl (wipe σ vs) env' ds ys → Nx H) :
    ∃ W : Nat → Nat → Hp → Prop, (∃ m, W 0 m H4) ∧ ∀ j k H, W j k H → (J.stop j H ∧ Nx H) ∨ (J.go j H ∧ ∃ Nx1 : Hp → Prop, (∀ H', Nx1 H' → ∃ k', k' < k ∧ W (j + 1) k' H') ∧ ∀ x H', J.yld j H x H' → g x (wipe σ vs) H' fun σ3 H5 => wipe σ3 vs = wipe σ vs ∧ tt σ3 H5 fun b H6 =>
      if b = true then te σ3 H6 fun y H7 => ∃ acc, H7 p = some (.lst acc) ∧ acc.length < sizeLine ∧ Nx1 (upd H7 p (.lst (acc ++ [y]))) else Nx1 H6) := by
  refine ⟨fun i m Hi => ∃ Fi Sli envi acc ys, i ≤ xs.length ∧ m = xs.length - i ∧ Ex F4 Fi ∧ Acc p F1 H1 Sl1 Fi Hi Sli (wipe σ vs) envi acc ys ∧ mLcGo mg mt me vs (xs.drop i) acc envi = some (ds, env'), ⟨xs.length, F4, Sl4, env4, acc4, ys4, Nat.zero_le _, by omega, Ex.refl F4, A4, go4⟩, ?_⟩
  rintro i m Hi ⟨Fi, Sli, envi, acc, ys, hil, hm, exi, Ai, go⟩
  cases hx : xs[i]? with
  | none =>
    have hge : xs.length ≤ i := List.getElem?_eq_none_iff.mp hx
    rw [List.drop_eq_nil_of_le hge] at go
    have go' : some (acc, envi) = some (ds, env') := go
    cases go'
    exact .inl ⟨(hJ Fi Hi exi Ai.R.ex i).2 hx, fin Fi Hi Sli ys Ai⟩
  | some d =>
    have hlt : i < xs.length := (List.getElem?_eq_some_iff.mp hx).1
    have hd : xs.drop i = d :: xs.drop (i + 1) := by
      rw [List.drop_eq_getElem_cons hlt]
      have := (List.getElem?_eq_some_iff.mp hx).2
      rw [this]
    rw [hd] at go
    unfold mLcGo at go
    obtain ⟨jg, jy⟩ := (hJ Fi Hi exi Ai.R.ex i).1 d hx
    refine .inr ⟨jg, fun H' => ∃ Fi Sli envi acc ys, i + 1 ≤ xs.length ∧ Ex F4 Fi ∧ Acc p F1 H1 Sl1 Fi H' Sli (wipe σ vs) envi acc ys ∧ mLcGo mg mt me vs (xs.drop (i + 1)) acc envi = some (ds, env'), fun H' ⟨Fj, Slj, envj, accj, ysj, z1, z2, z3, z4⟩ => ⟨xs.length - (i + 1), by omega, Fj, Slj, envj, accj, ysj, z1, rfl, z2, z3, z4⟩, fun x H' hy => ?_⟩
    obtain ⟨Fj, f1, f2, f3, f4, f5⟩ := jy x H' hy
    have Aj : Acc p F1 H1 Sl1 Fj H' Sli (wipe σ vs) envi acc ys := Ai.more (Step.grow f1 f2 f4) (Ai.R.grow f1 f2 f3 f4)
    cases hg1 : mg d envi with
    | none => rw [hg1] at go; cases go
    | some e1 =>
      rw [hg1] at go
      refine hg Fj H' (wipe σ vs) envi Sli x d Aj.R f5 e1 hg1 _ fun σ2 Sl4 R4 k4 p4 l4 => ?_
      have hl4 : σ2.length = σ.length := by rw [l4, wipe_length]
      have weq : wipe σ2 vs = wipe σ vs := wipe_eq p4 hl4 hs
      refine ⟨weq, ?_⟩
      have A4 := Aj.more (Step.fewer k4) R4
      cases ht1 : mt e1 with
      | none => simp only [ht1] at go; cases go
      | some tb =>
        obtain ⟨b, e2⟩ := tb
        simp only [ht1] at go
        refine ht Fj H' σ2 e1 Sl4 R4 b e2 ht1 _ fun b' F5 H5 Sl5 s5 pu5 R5 rb => ?_
        cases rb
        have A5 := A4.more s5 R5
        cases b with
        | false =>
          rw [if_neg Bool.false_ne_true]
          obtain ⟨Sl6, R6, k6⟩ := step_wiped (σ := σ) (vs := vs) R5 weq
          exact ⟨F5, Sl6, _, acc, ys, hlt, exi.trans (f1.trans s5.exF), A5.more (Step.fewer k6) R6, go⟩
        | true =>
          rw [if_pos rfl]
          cases he1 : me e2 with
          | none => simp only [he1] at go; cases go
          | some pe3 =>
            obtain ⟨pp, e3⟩ := pe3
            simp only [he1] at go
            cases hz1 : fzP e3 pp with
            | none => simp only [hz1] at go; cases go
            | some ye4 =>
              obtain ⟨y, e4⟩ := ye4
              simp only [hz1] at go
              split at go
              · rename_i hlen
                refine he F5 H5 σ2 e2 Sl5 R5 pp e3 he1 _ fun v F6 H6 Sl6 s6 pu6 R6 r6 => ?_
                obtain ⟨F7, Sl7, s7, R7, r7⟩ := fz_ok R6 r6 hz1
                have A7 := A5.more (s6.trans s7) R7
                obtain ⟨Sl8, R8, k8⟩ := step_wiped (σ := σ) (vs := vs) R7 weq
                have A8 := A7.more (Step.fewer k8) R8
                refine ⟨ys, A7.hp, by rw [← A7.ra.len]; exact hlen, F7, Sl8, _, acc ++ [y], ys ++ [v], hlt, exi.trans (f1.trans (s5.exF.trans (s6.exF.trans s7.exF))), ⟨R8.side A8.fp A8.nsp, A8.st.side np, A8.ra.snoc r7, A8.fp, A8.nsp, upd_same⟩, go⟩
              · cases go
def mLccGo (mg : PyData → En → Option En) (mt : MT) (mi1 : ML) (mg1 : PyData → En → Option En) (mt1 : MT) (me : ME) (vs vs1 : List Nat) : List PyData → List PyData → ML
  | [], acc, env => some (acc, env)
  | d :: ds, acc, env => match mg d env with
    | some e1 => match mt e1 with
      | some (true, e2) => match mi1 e2 with
        | some (ds1, e3) => match mLcGo mg1 mt1 me vs1 ds1 acc (wipeE e3 vs1) with
          | some (acc', e4) => mLccGo mg mt mi1 mg1 mt1 me vs vs1 ds acc' (wipeE e4 vs)
          | none => none
        | none => none
      | some (false, e2) => mLccGo mg mt mi1 mg1 mt1 me vs vs1 ds acc (wipeE e2 vs)
      | none => none
    | none => none
def mLcc (mi : ML) (mg : PyData → En → Option En) (mt : MT) (mi1 : ML) (mg1 : PyData → En → Option En) (mt1 : MT) (me : ME) (vs vs1 : List Nat) : ML := bnd mi fun ds e => mLccGo mg mt mi1 mg1 mt1 me vs vs1 ds [] (wipeE e vs)
theorem lcc_core {wi wi1 : TI} {g g1 : TG} {tt tt1 : TT} {te : TE} {vs vs1 is is1 : List Nat} {mi mi1 : ML} {mg mg1 : PyData → En → Option En} {mt mt1 : MT} {me : ME} {pt pt1 pe : Bool} (hi : RI wi mi) (hg : RT' is g mg) (ht : RT pt tt mt) (hi1 : RI wi1 mi1) (hg1 : RT' is1 g1 mg1) (ht1 : RT pt1 tt1 mt1) (he : RE pe te me) (hs : ∀ i ∈ is, i ∈ vs) (hs1 : ∀ i ∈ is1, i ∈ vs1) :
    ∀ F H σ env Sl, REnv F H σ env Sl → ∀ ds env', mLcc mi mg mt mi1 mg1 mt1 me vs vs1 env = some (ds, env') → ∀ Q : VK,
      (∀ p ys F' H' Sl', Step F H Sl F' H' Sl' → REnv F' H' σ env' Sl' → All2 (Rp F') ds ys → F' p = none → H p = none → (∀ i, ¬ Sl' i p) → H' p = some (.lst ys) → Q (.ref p) H') → tLc2 wi g tt wi1 g1 tt1 te vs vs1 σ H Q := by
  intro F H σ env Sl R ds env' e Q q
  obtain ⟨xs, e0, h1, h2⟩ := bnd_of e
  refine hi F H σ env Sl R xs _ h1 _ fun J F1 H1 Sl1 s1 R1 hJ => ?_
  intro p np
  obtain ⟨Sl2, R2, k2⟩ := R1.wiped (vs := vs)
  have n2 : ∀ i, ¬ Sl2 i p := fun i z => fresh_notin R1 np i (k2 i p z)
  have R3 : REnv F1 (upd H1 p (.lst [])) (wipe σ vs) (wipeE e0 vs) Sl2 := R2.side (R1.ex.none np) n2
  have s3 : Step F1 H1 Sl1 F1 (upd H1 p (.lst [])) Sl2 := (Step.fewer k2).trans (Step.grow (Ex.refl F1) (Ex.new np) fun _ _ z => .inl z)
  refine ⟨fun i m Hi => ∃ Fi Sli envi acc ys, i ≤ xs.length ∧ m = xs.length - i ∧ Acc p F1 H1 Sl1 Fi Hi Sli (wipe σ vs) envi acc ys ∧ mLccGo mg mt mi1 mg1 mt1 me vs vs1 (xs.drop i) acc envi = some (ds, env'), ?_, ?_⟩
  · exact ⟨xs.length, F1, Sl2, wipeE e0 vs, [], [], Nat.zero_le _, by omega, ⟨R3, s3, .nil, R1.ex.none np, n2, upd_same⟩, h2⟩
  · rintro i m Hi ⟨Fi, Sli, envi, acc, ys, hil, hm, Ai, go⟩
    cases hx : xs[i]? with
    | none =>
      have hge : xs.length ≤ i := List.getElem?_eq_none_iff.mp hx
      rw [List.drop_eq_nil_of_le hge] at go
      have go' : some (acc, envi) = some (ds, env') := go
      cases go'
      refine .inl ⟨(hJ Fi Hi Ai.st.exF Ai.R.ex i).2 hx, ?_⟩
      exact q p ys Fi Hi Sli (s1.trans Ai.st) Ai.R.unwipe Ai.ra Ai.fp (s1.tkb np) Ai.nsp Ai.hp
    | some d =>
      have hlt : i < xs.length := (List.getElem?_eq_some_iff.mp hx).1
      have hd : xs.drop i = d :: xs.drop (i + 1) := by
        rw [List.drop_eq_getElem_cons hlt]
        have := (List.getElem?_eq_some_iff.mp hx).2
        rw [this]
      rw [hd] at go
      unfold mLccGo at go
      obtain ⟨jg, jy⟩ := (hJ Fi Hi Ai.st.exF Ai.R.ex i).1 d hx
      refine .inr ⟨jg, fun H' => ∃ Fi Sli envi acc ys, i + 1 ≤ xs.length ∧ Acc p F1 H1 Sl1 Fi H' Sli (wipe σ vs) envi acc ys ∧ mLccGo mg mt mi1 mg1 mt1 me vs vs1 (xs.drop (i + 1)) acc envi = some (ds, env'), fun H' ⟨Fj, Slj, envj, accj, ysj, z1, z3, z4⟩ => ⟨xs.length - (i + 1), by omega, Fj, Slj, envj, accj, ysj, z1, rfl, z3, z4⟩, fun x H' hy => ?_⟩
      obtain ⟨Fj, f1, f2, f3, f4, f5⟩ := jy x H' hy
      have Aj : Acc p F1 H1 Sl1 Fj H' Sli (wipe σ vs) envi acc ys := Ai.more (Step.grow f1 f2 f4) (Ai.R.grow f1 f2 f3 f4)
      cases hg1' : mg d envi with
      | none => rw [hg1'] at go; cases go
      | some e1 =>
        rw [hg1'] at go
        refine hg Fj H' (wipe σ vs) envi Sli x d Aj.R f5 e1 hg1' _ fun σ2 Sl4 R4 k4 p4 l4 => ?_
        have hl4 : σ2.length = σ.length := by rw [l4, wipe_length]
        have weq : wipe σ2 vs = wipe σ vs := wipe_eq p4 hl4 hs
        refine ⟨weq, ?_⟩
        have A4 := Aj.more (Step.fewer k4) R4
        cases ht1' : mt e1 with
        | none => simp only [ht1'] at go; cases go
        | some tb =>
          obtain ⟨b, e2⟩ := tb
          simp only [ht1'] at go
          refine ht Fj H' σ2 e1 Sl4 R4 b e2 ht1' _ fun b' F5 H5 Sl5 s5 pu5 R5 rb => ?_
          cases rb
          have A5 := A4.more s5 R5
          cases b with
          | false =>
            rw [if_neg Bool.false_ne_true]
            obtain ⟨Sl6, R6, k6⟩ := step_wiped (σ := σ) (vs := vs) R5 weq
            exact ⟨F5, Sl6, _, acc, ys, hlt, A5.more (Step.fewer k6) R6, go⟩
          | true =>
            rw [if_pos rfl]
            cases hm1 : mi1 e2 with
            | none => simp only [hm1] at go; cases go
            | some dse =>
              obtain ⟨ds1, e3⟩ := dse
              simp only [hm1] at go
              cases hin : mLcGo mg1 mt1 me vs1 ds1 acc (wipeE e3 vs1) with
              | none => simp only [hin] at go; cases go
              | some ae =>
                obtain ⟨acc', e4⟩ := ae
                simp only [hin] at go
                refine hi1 F5 H5 σ2 e2 Sl5 R5 ds1 e3 hm1 _ fun J1 F6 H6 Sl6 s6 R6 hJ1 => ?_
                have A6 := A5.more s6 R6
                obtain ⟨Sl7, R7, k7⟩ := R6.wiped (vs := vs1)
                have A7 := A6.more (Step.fewer k7) R7
                refine lc_inner hg1 ht1 he hs1 np hJ1 A7 hin fun F8 H8 Sl8 ys8 A8 => ?_
                obtain ⟨Sl9, R9, k9⟩ := step_wiped (σ := σ) (vs := vs) A8.R.unwipe weq
                exact ⟨F8, Sl9, _, acc', ys8, hlt, A8.more (Step.fewer k9) R9, go⟩
theorem re_lcc {wi wi1 : TI} {g g1 : TG} {tt tt1 : TT} {te : TE} {vs vs1 is is1 : List Nat} {mi mi1 : ML} {mg mg1 : PyData → En → Option En} {mt mt1 : MT} {me : ME} {pt pt1 pe : Bool} (hi : RI wi mi) (hg : RT' is g mg) (ht : RT pt tt mt) (hi1 : RI wi1 mi1) (hg1 : RT' is1 g1 mg1) (ht1 : RT pt1 tt1 mt1) (he : RE pe te me) (hs : ∀ i ∈ is, i ∈ vs := by decide) (hs1 : ∀ i ∈ is1, i ∈ vs1 := by decide) :
    RE false (tLc2 wi g tt wi1 g1 tt1 te vs vs1) (mLE (mLcc mi mg mt mi1 mg1 mt1 me vs vs1)) := by
  intro F H σ env Sl R r env' e Q q
  obtain ⟨ds, e1, h1, h2⟩ := bnd_of e
  cases h2
  refine lcc_core hi hg ht hi1 hg1 ht1 he hs hs1 F H σ env Sl R ds _ h1 Q fun p ys F' H' Sl' s R' ra fp np nsp hp => ?_
  have ex : Ex F' (upd F' p (.lst ys)) := Ex.new fp
  refine q _ (upd F' p (.lst ys)) H' Sl' ⟨s.exF.trans ex, s.fr, s.tk, s.own, fun b o z => ?_⟩ (fun z => nomatch z) ⟨fun b o z => ?_, R'.len, fun i o z => ?_, R'.dj, fun i a z => ?_⟩ (rp_list.mpr ⟨p, ys, rfl, upd_same, all_mono ex ra⟩)
  · by_cases hb : b = p
    · subst hb; exact .inr (.inl np)
    · rw [upd_ne hb] at z; exact s.fz b o z
  · by_cases hb : b = p
    · subst hb; rw [upd_same] at z; cases z; exact hp
    · rw [upd_ne hb] at z; exact R'.ex b o z
  · obtain ⟨v, e2, w⟩ := R'.at_ i o z
    exact ⟨v, e2, w.ext ex fun _ _ _ y => y⟩
  · obtain ⟨y1, y2⟩ := R'.tr i a z
    refine ⟨?_, y2⟩
    rw [upd_ne fun y => nsp i (by rw [← y]; exact z)]
    exact y1
theorem ro_lcc {wi wi1 : TI} {g g1 : TG} {tt tt1 : TT} {te : TE} {vs vs1 is is1 : List Nat} {mi mi1 : ML} {mg mg1 : PyData → En → Option En} {mt mt1 : MT} {me : ME} {pt pt1 pe : Bool} (hi : RI wi mi) (hg : RT' is g mg) (ht : RT pt tt mt) (hi1 : RI wi1 mi1) (hg1 : RT' is1 g1 mg1) (ht1 : RT pt1 tt1 mt1) (he : RE pe te me) (hs : ∀ i ∈ is, i ∈ vs := by decide) (hs1 : ∀ i ∈ is1, i ∈ vs1 := by decide) :
    RO (tLc2 wi g tt wi1 g1 tt1 te vs vs1) (mLO (mLcc mi mg mt mi1 mg1 mt1 me vs vs1)) := by
  intro F H σ env Sl R r env' e Q q
  obtain ⟨ds, e1, h1, h2⟩ := bnd_of e
  cases h2
  refine lcc_core hi hg ht hi1 hg1 ht1 he hs hs1 F H σ env Sl R ds _ h1 Q fun p ys F' H' Sl' s R' ra fp np nsp hp => ?_
  exact q _ F' H' Sl' (fun a => a = p) s R' ⟨⟨p, ys, rfl, rfl, hp, ra⟩, fun i a z y => nsp i (by rw [← z]; exact y), fun a z => by rw [z]; exact ⟨fp, _, hp⟩, fun a z => by rw [z]; exact np⟩
/-! ### is a list empty -/
def gTru (env : En) (p : P) : Option Bool := match vw env p with
  | some (.list ds) => some (!ds.isEmpty)
  | _ => none
def mTru (ma : ME) : MT := bnd ma fun p e => (gTru e p).map fun r => (r, e)
theorem rt_tru {K : PySem.W.Frag} {pu : Bool} {te : TE} {me : ME} (h : RE pu te me) : RT pu (fun σ H Q => te σ H fun x H' => ∃ k, TruV K x H' k ∧ Q k H') (mTru me) := by
  intro F H σ env Sl R b env' e Q q
  obtain ⟨p, e1, h1, h2⟩ := bnd_of e
  cases h3 : gTru e1 p with
  | none => rw [h3] at h2; cases h2
  | some b' =>
    rw [h3] at h2
    cases h2
    refine h F H σ env Sl R p _ h1 _ fun r F1 H1 Sl1 s1 pu1 R1 r1 => ?_
    unfold gTru at h3
    split at h3
    · rename_i ds hv
      cases h3
      obtain ⟨a, vs, rfl, hH, ra⟩ := rp_list.mp (vw_rp R1 r1 hv)
      refine ⟨_, .inl ⟨vs, .inl (Rd.of hH), rfl⟩, ?_⟩
      have hk : (!vs.isEmpty) = !ds.isEmpty := by cases ra <;> rfl
      rw [hk]
      exact q _ F1 H1 Sl1 s1 pu1 R1 rfl
    · cases h3
/-! ### abs(n) -/
def gAbs : En → List P → Option P := fun _ ps => match ps with
  | [.val (.int i)] => some (.val (.int (if i < 0 then -i else i)))
  | _ => none
theorem f_abs : FnK (fun xs H Q => ∃ i : Int, xs = [.int i] ∧ Q (.int (if i < 0 then -i else i)) H) gAbs := by
  intro F H σ env Sl xs ps p R h e Q q
  unfold gAbs at e
  split at e
  · rename_i i
    cases e
    cases h with
    | cons a t =>
      cases t
      exact ⟨i, by rw [show _ = V.int i from a], q _ F H (Ex.refl F) (Ex.refl H) R.ex (fun _ _ z => .inl z) rfl⟩
  · cases e
/-! ### sorted, pairs of whole numbers -/
def lePP (a b : Int × Int) : Bool := decide (a.1 < b.1 ∨ (a.1 = b.1 ∧ a.2 ≤ b.2))
theorem lePP_iff {a b : Int × Int} : lePP a b = true ↔ a.1 < b.1 ∨ (a.1 = b.1 ∧ a.2 ≤ b.2) := by unfold lePP; exact decide_eq_true_iff
def srtPP (ns : List (Int × Int)) : List (Int × Int) := ns.mergeSort lePP
theorem srtPP_perm (ns : List (Int × Int)) : (srtPP ns).Perm ns := List.mergeSort_perm _ _
theorem srtPP_up (ns : List (Int × Int)) : (srtPP ns).Pairwise fun a b => lePP a b = true :=
  List.pairwise_mergeSort (le := lePP) (fun a b c h1 h2 => by
    have a1 := lePP_iff.mp h1
    have a2 := lePP_iff.mp h2
    exact lePP_iff.mpr (by omega)) (fun a b => by
    by_cases h : lePP a b = true
    · rw [h]; rfl
    · have := mt lePP_iff.mpr h
      have h2 : lePP b a = true := lePP_iff.mpr (by omega)
      rw [h2, Bool.or_true]) ns
theorem srtPP_uniq {ns ns' : List (Int × Int)} (h1 : ns'.Perm ns) (h2 : ns'.Pairwise fun a b => lePP a b = true) : ns' = srtPP ns :=
  List.Perm.eq_of_pairwise (fun a b _ _ x y => by
    have a1 := lePP_iff.mp x
    have a2 := lePP_iff.mp y
    exact Prod.ext (by omega) (by omega)) h2 (srtPP_up ns) (h1.trans (srtPP_perm ns).symm)
def isPP : PyData → Option (Int × Int)
  | .tuple [.int i, .int j] => some (i, j)
  | _ => none
def allPP : List PyData → Option (List (Int × Int))
  | [] => some []
  | d :: ds => match isPP d, allPP ds with
    | some p, some ps => some (p :: ps)
    | _, _ => none
def tupPP (p : Int × Int) : PyData := .tuple [.int p.1, .int p.2]
theorem isPP_is {d : PyData} {p : Int × Int} (h : isPP d = some p) : d = tupPP p := by
  unfold isPP at h
  split at h
  · cases h; rfl
  · cases h
def keyPP (F : Hp) : V → Int × Int
  | .ref t => match F t with
    | some (.tup [.int i, .int j]) => (i, j)
    | _ => (0, 0)
  | _ => (0, 0)
theorem keyPP_of {F : Hp} {v : V} {p : Int × Int} (h : Rp F (tupPP p) v) : keyPP F v = p ∧ ∃ t, v = .ref t ∧ F t = some (.tup [.int p.1, .int p.2]) := by
  obtain ⟨a, vs, rfl, h1, h2⟩ := rp_tuple.mp h
  cases h2 with
  | cons x y =>
    cases y with
    | cons z w =>
      cases w
      have e1 := (show _ = V.int p.1 from x)
      have e2 := (show _ = V.int p.2 from z)
      subst e1
      subst e2
      refine ⟨?_, a, rfl, h1⟩
      unfold keyPP
      simp only [h1]
theorem allPP_ok {F : Hp} : ∀ {ds : List PyData} {vs : List V} {ps : List (Int × Int)}, All2 (Rp F) ds vs → allPP ds = some ps → vs.map (keyPP F) = ps ∧ ∀ v ∈ vs, Rp F (tupPP (keyPP F v)) v
  | _, _, ps, .nil, e => by cases e; exact ⟨rfl, fun v z => by cases z⟩
  | _, _, ps, .cons (a := d) (as := ds) h t, e => by
    unfold allPP at e
    split at e
    · rename_i p qs h1 h2
      cases e
      obtain ⟨i1, i2⟩ := allPP_ok t h2
      have e1 := isPP_is h1
      subst e1
      have e2 := (keyPP_of h).1
      refine ⟨by rw [List.map_cons, e2, i1], fun v z => ?_⟩
      rcases List.mem_cons.mp z with rfl | z
      · rw [e2]; exact h
      · exact i2 v z
    · cases e
def gSortP : En → List P → Option (List PyData) := fun env ps => match ps with
  | [p] => ((sq env p).bind allPP).map fun ns => (srtPP ns).map tupPP
  | _ => none
theorem all2_of_map {F : Hp} {f : V → PyData} : ∀ {vs : List V}, (∀ v ∈ vs, Rp F (f v) v) → All2 (Rp F) (vs.map f) vs
  | [], _ => .nil
  | v :: vs, h => .cons (h v (List.mem_cons_self ..)) (all2_of_map fun u z => h u (List.mem_cons_of_mem _ z))
theorem l_sortP {K : PySem.W.Frag} : FnL (rSortedPO K) gSortP := by
  intro F H σ env Sl xs ps ds R h e Q q
  unfold gSortP at e
  split at e
  · rename_i p1
    cases h with
    | cons a t =>
      cases t
      cases h1 : sq env p1 with
      | none => rw [h1] at e; cases e
      | some ds0 =>
        cases h2 : allPP ds0 with
        | none => simp only [h1, Option.bind_some, h2] at e; cases e
        | some ns =>
          simp only [h1, Option.bind_some, h2, Option.map_some] at e
          cases e
          obtain ⟨l, vs, rfl, hl, r⟩ := sq_of R a h1
          obtain ⟨k1, k2⟩ := allPP_ok r h2
          refine ⟨l, vs, keyPP F, rfl, SqL.of hl, fun x hx => ?_, fun ys p up st np => ?_⟩
          · obtain ⟨_, t, e1, e2⟩ := keyPP_of (k2 x hx)
            exact ⟨t, e1, R.ex _ _ e2⟩
          · have e3 : ys.map (keyPP F) = srtPP ns := by
              refine srtPP_uniq (by rw [← k1]; exact st.perm.map _) ?_
              refine List.pairwise_map.mpr (up.imp fun {u v} z => ?_)
              have := SrtO.lexB_no.mp z
              exact lePP_iff.mpr (by omega)
            refine q p ys ?_ np
            rw [← e3, List.map_map]
            exact all2_of_map fun v hv => k2 v (st.perm.mem_iff.mp hv)
  · cases e
theorem sortedPK {X : Cx} {K : PySem.W.Frag} (h : X.K = K := by rfl) : CallR X (.builtin "sorted") (rSortedPO K) := by subst h; exact cr_sortedPO
/-! ### a default that fills up -/
def mSnoc (ma : MA) (d : PyData) : MA := bnd ma fun ps e => some (ps ++ [.val d], e)
theorem all2_snoc' {α β : Type} {R : α → β → Prop} : ∀ {xs : List α} {ys : List β} {x : α} {y : β}, All2 R xs ys → R x y → All2 R (xs ++ [x]) (ys ++ [y])
  | _, _, _, _, .nil, h => .cons h .nil
  | _, _, _, _, .cons a t, h => .cons a (all2_snoc' t h)
theorem ra_snoc {pu : Bool} {ta : TA} {ma : MA} {i : Int} (h : RA pu ta ma) : RA pu (fun σ H K => ta σ H fun vs H1 => K (vs ++ [.int i]) H1) (mSnoc ma (.int i)) := by
  intro F H σ env Sl R ps env' e Q q
  obtain ⟨qs, e1, h1, h2⟩ := bnd_of e
  cases h2
  exact h F H σ env Sl R qs _ h1 _ fun vs F1 H1 Sl1 s1 pu1 R1 r1 => q _ F1 H1 Sl1 s1 pu1 R1 (all2_snoc' r1 rfl)
theorem ro_callD {pu : Bool} {pn : List Nat} {ta : TA} {ma : MA} {mf : MF} {E : XK} {i : Int} (h : RA pu ta ma) : RO (tCall (spOf pn mf) [.int i] E ta) (mCall pn mf (mSnoc ma (.int i))) := by
  intro F H σ env Sl R o env' e Q q
  have := ro_call (E := E) (mf := mf) (ra_snoc (i := i) h) F H σ env Sl R o env' e Q q
  unfold tCall at this ⊢
  simp only [List.append_nil] at this
  exact this
end Tr
namespace Tr
open PySem PySem.Spec PyProof.Rows L2
/-! ### a def that calls itself: no promise at depth 0 -/
theorem fnG_none {P : Program} {w : World} {K : PySem.W.Frag} {mg : Str → Option Value} {base : Heap} {k : Nat} {f : Addr} {fd : FuncData} {ps : List Str} {pn : List Nat} : FnG P w K mg base k f fd ps (spOf pn fun _ => none) := by
  constructor
  · rintro vs H Q E ⟨F, os, Sl, r, os', _, _, _, h, _⟩
    cases h
  · rintro A ou s H ar us vs Q E _ _ _ _ _ ⟨F, os, Sl, r, os', _, _, _, h, _⟩
    cases h
/-! ### zip of two lists -/
def zipD : List PyData → List PyData → List PyData
  | a :: as, b :: bs => .tuple [a, b] :: zipD as bs
  | _, _ => []
theorem zipD_get : ∀ (as bs : List PyData) (i : Nat), (zipD as bs)[i]? = match as[i]?, bs[i]? with | some a, some b => some (.tuple [a, b]) | _, _ => none
  | [], bs, i => by simp [zipD]
  | a :: as, [], i => by
    simp only [zipD, List.getElem?_nil]
    split <;> first | rfl | simp_all
  | a :: as, b :: bs, 0 => by simp [zipD]
  | a :: as, b :: bs, i + 1 => by
    show (zipD as bs)[i]? = _
    rw [zipD_get as bs i, List.getElem?_cons_succ, List.getElem?_cons_succ]
def mZip (ma : MA) : ML := bnd ma fun ps e => match ps with
  | [p, q] => match fzP e p with
    | some (.list as, e2) => match fzP e2 q with
      | some (.list bs, e3) => some (zipD as bs, e3)
      | _ => none
    | _ => none
  | _ => none
theorem it_z {K : PySem.W.Frag} {F : Hp} {a b : Addr} {vs us : List V} {as bs : List PyData} (h : F a = some (.lst vs)) (r : All2 (Rp F) as vs) (h' : F b = some (.lst us)) (r' : All2 (Rp F) bs us) : ItOk (Itz K a b) F (zipD as bs) := by
  intro F1 H1 e1 e2 i
  have hs : SqL K H1 a vs := SqL.of (e2 _ _ (e1 _ _ h))
  have hs' : SqL K H1 b us := SqL.of (e2 _ _ (e1 _ _ h'))
  rw [zipD_get]
  refine ⟨fun d hd => ?_, fun hd => ⟨vs, us, hs, hs', ?_⟩⟩
  · cases ha : as[i]? with
    | none => rw [ha] at hd; cases hd
    | some d1 =>
      cases hb : bs[i]? with
      | none => rw [ha, hb] at hd; cases hd
      | some d2 =>
        rw [ha, hb] at hd
        cases hd
        obtain ⟨v, hv, rv⟩ := r.get ha
        obtain ⟨u, hu, ru⟩ := r'.get hb
        refine ⟨⟨vs, us, v, u, hs, hs', hv, hu⟩, fun x H' y => ?_⟩
        obtain ⟨T, x', y', rfl, nT, rfl, f, f'⟩ := y
        have ex : x' = v := Option.some.inj ((f vs hs).symm.trans hv)
        have ey : y' = u := Option.some.inj ((f' us hs').symm.trans hu)
        subst ex
        subst ey
        obtain ⟨y1, y2, y3, y4, y5⟩ := new_tup (ds := [d1, d2]) (vs := [x', y']) e2 nT (.cons (Rp.mono e1 rv) (.cons (Rp.mono e1 ru) .nil))
        exact ⟨_, y1, y2, y3, y4, y5⟩
  · cases ha : as[i]? with
    | none =>
      left
      rw [← r.len]
      exact List.getElem?_eq_none_iff.mp ha
    | some d1 =>
      cases hb : bs[i]? with
      | none =>
        right
        rw [← r'.len]
        exact List.getElem?_eq_none_iff.mp hb
      | some d2 => rw [ha, hb] at hd; cases hd
theorem ri_zip {K : PySem.W.Frag} {pu : Bool} {ta : TA} {ma : MA} (h : RA pu ta ma) : RI (iZip K ta) (mZip ma) := by
  intro F H σ env Sl R ds env' e Q q
  obtain ⟨ps, e1, h1, h2⟩ := bnd_of e
  split at h2
  · split at h2
    · rename_i as e2 h3
      split at h2
      · rename_i bs e3 h4
        cases h2
        refine h F H σ env Sl R _ _ h1 _ fun r F1 H1 Sl1 s1 pu1 R1 r1 => ?_
        cases r1 with
        | cons x t =>
          cases t with
          | cons y t =>
            cases t
            obtain ⟨F2, Sl2, s2, R2, r2⟩ := fz_ok R1 x h3
            obtain ⟨F3, Sl3, s3, R3, r3⟩ := fz_ok R2 (RP.mono s2.exF y) h4
            obtain ⟨a, vs, rfl, hF, rr⟩ := rp_list.mp (Rp.mono s3.exF r2)
            obtain ⟨b, us, rfl, hF', rr'⟩ := rp_list.mp r3
            exact ⟨a, b, vs, us, rfl, SqL.of (R3.ex _ _ hF), SqL.of (R3.ex _ _ hF'), q _ F3 H1 Sl3 (s1.trans (s2.trans s3)) R3 (it_z hF rr hF' rr')⟩
      · cases h2
    · cases h2
  · cases h2
theorem pi_zipK {X : Cx} {K : PySem.W.Frag} {e e2 : Expr} {ta : TA} {p pos tpos : Pos} {elts : List Expr} {kk : Nat} (hg : Gl X "zip") (hm : X.mg "zip" = none) (ha : PA X [e, e2] ta)
    (hs : starEach [e, e2] X.env = (false, eval e X.env) :: starEach [e2] X.env := by rfl) (hpl : (backTo pos (starEach [e2] X.env)).any (·.1) = false := by rfl) (h : X.K = K := by rfl) :
    PI X (.Tuple elts kk tpos) (.Call (.Name "zip" p) [e, e2] [] pos) (iZip K ta) := by subst h; exact pi_zip hg hm ha hs hpl
/-! ### xs[::-1] -/
def mRev (me : ME) : ML := bnd me fun p e => (sq e p).map fun ds => (ds.reverse, e)
theorem all2_rev {α β : Type} {R : α → β → Prop} : ∀ {xs : List α} {ys : List β}, All2 R xs ys → All2 R xs.reverse ys.reverse
  | _, _, .nil => .nil
  | _, _, .cons a t => by
    rw [List.reverse_cons, List.reverse_cons]
    exact (all2_rev t).snoc a
theorem rl_rev {K : PySem.W.Frag} {pu : Bool} {te : TE} {me : ME} (he : RE pu te me) : RL pu (tRevL K te) (mRev me) := by
  intro F H σ env Sl R ds env' e Q q
  obtain ⟨p, e1, h1, h2⟩ := bnd_of e
  cases h7 : sq e1 p with
  | none => rw [h7] at h2; cases h2
  | some ds' =>
    rw [h7] at h2
    cases h2
    refine he F H σ env Sl R p _ h1 _ fun r F1 H1 Sl1 s1 pu1 R1 r1 => ?_
    obtain ⟨a, vs, rfl, hH, rr⟩ := sq_of R1 r1 h7
    exact ⟨a, vs, rfl, SqL.of hH, fun b nb => q b _ F1 H1 Sl1 s1 pu1 R1 (all2_rev rr) nb⟩
theorem pe_revK {X : Cx} {K : PySem.W.Frag} {e : Expr} {te : TE} {k : Nat} {p1 p2 p3 pos : Pos} (he : PE X e te) (h : X.K = K := by rfl) : PE X (.Subscript e (.Slice none none (some (.UnaryOp .USub (.Constant (.int 1) k p1) p2)) p3) pos) (tRevL K te) := by subst h; exact pe_revL he
/-! ### max, min of two whole numbers -/
def gMax2 : En → List P → Option P := fun _ ps => match ps with
  | [.val (.int i), .val (.int j)] => some (.val (.int (if j > i then j else i)))
  | _ => none
def gMin2 : En → List P → Option P := fun _ ps => match ps with
  | [.val (.int i), .val (.int j)] => some (.val (.int (if j < i then j else i)))
  | _ => none
theorem f_max2 : FnK (fun xs H Q => ∃ i j : Int, xs = [.int i, .int j] ∧ Q (.int (if j > i then j else i)) H) gMax2 := by
  intro F H σ env Sl xs ps p R h e Q q
  unfold gMax2 at e
  split at e
  · rename_i i j
    cases e
    cases h with
    | cons a t =>
      cases t with
      | cons b t =>
        cases t
        exact ⟨i, j, by rw [show _ = V.int i from a, show _ = V.int j from b], q _ F H (Ex.refl F) (Ex.refl H) R.ex (fun _ _ z => .inl z) rfl⟩
  · cases e
theorem f_min2 : FnK (fun xs H Q => ∃ i j : Int, xs = [.int i, .int j] ∧ Q (.int (if j < i then j else i)) H) gMin2 := by
  intro F H σ env Sl xs ps p R h e Q q
  unfold gMin2 at e
  split at e
  · rename_i i j
    cases e
    cases h with
    | cons a t =>
      cases t with
      | cons b t =>
        cases t
        exact ⟨i, j, by rw [show _ = V.int i from a, show _ = V.int j from b], q _ F H (Ex.refl F) (Ex.refl H) R.ex (fun _ _ z => .inl z) rfl⟩
  · cases e
/-! ### any value into a name, as what a pair of names takes -/
def mFzO (me : ME) : MO := bnd me fun p e => match fzP e p with
  | some (d, e2) => some (.fz d, e2)
  | none => none
theorem ro_e {pu : Bool} {te : TE} {me : ME} (h : RE pu te me) : RO te (mFzO me) := by
  intro F H σ env Sl R o env' e Q q
  obtain ⟨p, e1, h1, h2⟩ := bnd_of e
  cases h3 : fzP e1 p with
  | none => rw [h3] at h2; cases h2
  | some de =>
    obtain ⟨d, e2⟩ := de
    rw [h3] at h2
    cases h2
    refine h F H σ env Sl R p _ h1 _ fun v F1 H1 Sl1 s1 pu1 R1 r1 => ?_
    obtain ⟨F2, Sl2, s2, R2, r2⟩ := fz_ok R1 r1 h3
    exact q v F2 H1 Sl2 (fun _ => False) (s1.trans s2) R2 ⟨r2, fun _ _ z => z.elim, fun _ z => z.elim, fun _ z => z.elim⟩
/-! ### a tuple of texts of the module's top -/
def KT (K : PySem.W.Frag) (a : Addr) (xs : List Str) : Prop := ∃ (o : Obj) (its : Array Value) (n : Nat), K.lookup a = some o ∧ o.cls = .type "tuple" ∧ o.data = .seq its n ∧ its.size ≤ sizeLine ∧ Vals (xs.map V.str) its.toList
def mK (K : PySem.W.Frag) (xs : List Str) : ME := fun env => some (.k K xs, env)
theorem re_kt {K : PySem.W.Frag} {a : Addr} {xs : List Str} (h : KT K a xs) : RE true (tC (.ref a)) (mK K xs) := by
  intro F H σ env Sl R p env' e Q q
  cases e
  exact q _ F H Sl Step.refl (fun _ => ⟨rfl, Ex.refl H, rfl⟩) R ⟨a, rfl, .inr h⟩
open Classical in
noncomputable def gInK (K : PySem.W.Frag) (neg : Bool) : En → P → P → Option P := fun _ p q => match p, q with
  | .val d, .k K' xs => if K' = K ∧ flat d = true then some (.val (.bool (neg ^^ (xs.map PyData.str).any fun y => PyData.eqv y d))) else none
  | _, _ => none
theorem strs_rp {F : Hp} : ∀ xs : List Str, All2 (Rp F) (xs.map PyData.str) (xs.map V.str)
  | [] => .nil
  | _ :: xs => .cons rfl (strs_rp xs)
theorem strs_flat : ∀ xs : List Str, (xs.map PyData.str).all flat = true
  | [] => rfl
  | _ :: xs => by rw [List.map_cons, List.all_cons, strs_flat xs]; rfl
theorem b_inK {K : PySem.W.Frag} (neg : Bool) : BinK (rIn K neg) (gInK K neg) := by
  intro F H σ env Sl x y p1 p2 p R h1 h2 e Q q
  unfold gInK at e
  split at e
  · rename_i d K' xs
    split at e
    · rename_i hk
      obtain ⟨rfl, hf⟩ := hk
      cases e
      have h1' : Rp F d x := h1
      obtain ⟨a, rfl, hs⟩ := h2
      have r : All2 (Rp F) (xs.map PyData.str) (xs.map V.str) := strs_rp xs
      refine ⟨a, xs.map V.str, rfl, .inr (ex_sqT R.ex hs), flat_v h1' hf, flat_vs r (strs_flat xs), ?_⟩
      rw [flat_any r h1' (strs_flat xs) hf]
      refine q _ F H (Ex.refl F) (Ex.refl H) R.ex (fun _ _ z => .inl z) ?_
      show V.bl _ = V.bl _
      cases neg
      · rw [Bool.false_xor]; rfl
      · rw [Bool.true_xor]; rfl
    · cases e
  · cases e
/-! ### a default that is a text -/
theorem ra_snocS {pu : Bool} {ta : TA} {ma : MA} {x : Str} (h : RA pu ta ma) : RA pu (fun σ H K => ta σ H fun vs H1 => K (vs ++ [.str x]) H1) (mSnoc ma (.str x)) := by
  intro F H σ env Sl R ps env' e Q q
  obtain ⟨qs, e1, h1, h2⟩ := bnd_of e
  cases h2
  exact h F H σ env Sl R qs _ h1 _ fun vs F1 H1 Sl1 s1 pu1 R1 r1 => q _ F1 H1 Sl1 s1 pu1 R1 (all2_snoc' r1 rfl)
theorem ro_callDS {pu : Bool} {pn : List Nat} {ta : TA} {ma : MA} {mf : MF} {E : XK} {x : Str} (h : RA pu ta ma) : RO (tCall (spOf pn mf) [.str x] E ta) (mCall pn mf (mSnoc ma (.str x))) := by
  intro F H σ env Sl R o env' e Q q
  have := ro_call (E := E) (mf := mf) (ra_snocS (x := x) h) F H σ env Sl R o env' e Q q
  unfold tCall at this ⊢
  simp only [List.append_nil] at this
  exact this
end Tr
namespace Tr
open PySem PySem.Spec PyProof.Rows L2
/-! ### instances of own classes -/
abbrev FldR (F : Hp) : List (Str × PyData) → List (Str × V) → Prop := All2 fun p q => p.1 = q.1 ∧ Rp F p.2 q.2
theorem fld_look {F : Hp} {f : Str} {d : PyData} {r : List (Str × V)} : ∀ {fs : List (Str × PyData)} {vs : List (Str × V)}, FldR F fs vs → fs.lookup f = some d → ∃ v, (vs ++ r).lookup f = some v ∧ Rp F d v
  | [], _, .nil, h => nomatch h
  | (g, x) :: fs, _, .cons (b := (g', y)) ⟨e, w⟩ t, h => by
    have e : g = g' := e
    subst e
    rw [List.cons_append]
    by_cases q : f = g
    · subst q
      rw [List.lookup_cons_self] at h ⊢
      cases h
      exact ⟨y, rfl, w⟩
    · have hb : (f == g) = false := beq_eq_false_iff_ne.mpr q
      rw [List.lookup_cons, hb] at h ⊢
      exact fld_look t h
theorem fld_none {F : Hp} {f : Str} : ∀ {fs : List (Str × PyData)} {vs r : List (Str × V)}, FldR F fs vs → fs.lookup f = none → (vs ++ r).lookup f = r.lookup f
  | [], _, r, .nil, h => rfl
  | (g, x) :: fs, _, r, .cons (b := (g', y)) ⟨e, w⟩ t, h => by
    have e : g = g' := e
    subst e
    rw [List.cons_append]
    by_cases q : f = g
    · subst q
      rw [List.lookup_cons_self] at h
      cases h
    · have hb : (f == g) = false := beq_eq_false_iff_ne.mpr q
      rw [List.lookup_cons, hb] at h ⊢
      exact fld_none t h
def putP (f : Str) (d : PyData) : List (Str × PyData) → List (Str × PyData)
  | [] => [(f, d)]
  | (g, x) :: r => if g = f then (g, d) :: r else (g, x) :: putP f d r
theorem fld_put {F : Hp} {f : Str} {d : PyData} {v : V} (w : Rp F d v) : ∀ {fs : List (Str × PyData)} {vs : List (Str × V)}, FldR F fs vs → FldR F (putP f d fs) (putF f v vs)
  | [], _, .nil => .cons ⟨rfl, w⟩ .nil
  | (g, x) :: fs, _, .cons (b := (g', y)) ⟨e, z⟩ t => by
    have e : g = g' := e
    subst e
    show FldR F (if g = f then _ else _) (if g = f then _ else _)
    by_cases q : g = f
    · rw [if_pos q, if_pos q]; exact .cons ⟨rfl, w⟩ t
    · rw [if_neg q, if_neg q]; exact .cons ⟨rfl, z⟩ (fld_put w t)
theorem fld_putr {F : Hp} {f : Str} {d : PyData} {v : V} {r : List (Str × V)} (w : Rp F d v) : ∀ {fs : List (Str × PyData)} {vs : List (Str × V)}, FldR F fs vs → (fs.lookup f).isSome = true → ∃ vs', putF f v (vs ++ r) = vs' ++ r ∧ FldR F (putP f d fs) vs'
  | [], _, .nil, h => nomatch h
  | (g, x) :: fs, _, .cons (b := (g', y)) (bs := vs) ⟨e, z⟩ t, h => by
    have e : g = g' := e
    subst e
    show ∃ vs', (if g = f then (g, v) :: (vs ++ r) else (g, y) :: putF f v (vs ++ r)) = _ ∧ FldR F (if g = f then _ else _) vs'
    by_cases q : g = f
    · rw [if_pos q, if_pos q]; exact ⟨(g, v) :: vs, rfl, .cons ⟨rfl, w⟩ t⟩
    · rw [if_neg q, if_neg q]
      have hb : (f == g) = false := beq_eq_false_iff_ne.mpr (Ne.symm q)
      rw [List.lookup_cons, hb] at h
      obtain ⟨vs', e1, e2⟩ := fld_putr (r := r) w t h
      exact ⟨(g, y) :: vs', by rw [e1]; rfl, .cons ⟨rfl, z⟩ e2⟩
theorem putF_new {f : Str} {v : V} : ∀ {vs : List (Str × V)}, vs.lookup f = none → putF f v vs = vs ++ [(f, v)]
  | [], _ => rfl
  | (g, y) :: vs, h => by
    by_cases q : g = f
    · subst q; rw [List.lookup_cons_self] at h; cases h
    · have hb : (f == g) = false := beq_eq_false_iff_ne.mpr (Ne.symm q)
      rw [List.lookup_cons, hb] at h
      show (if g = f then _ else _) = _
      rw [if_neg q, putF_new h]
      rfl
/-- one of the objects that the place j holds is written -/
theorem REnv.updO {F H : Hp} {σ : L2.St} {env : En} {Sl : Nat → Addr → Prop} {j : Nat} {a : Addr} {u : HO} {o : O} {v : V} (R : REnv F H σ env Sl) (sa : Sl j a) (hv : σ[j]? = some (some v)) (w : Own F (upd H a u) o v (Sl j)) :
    Step F H Sl F (upd H a u) Sl ∧ REnv F (upd H a u) σ (env.set j (some o)) Sl := by
  have ns : ∀ i, i ≠ j → ¬ Sl i a := fun i n z => n (R.dj i j a z sa)
  have fa := (R.tr j a sa).1
  refine ⟨⟨Ex.refl F, fun b o h n => ?_, fun b o h => ?_, fun _ _ z => .inl z, fun _ _ z => .inl z⟩, ⟨fun b o h => ?_, by rw [List.length_set]; exact R.len, fun i o2 h => ?_, R.dj, fun i b z => ?_⟩⟩
  · rw [upd_ne (fun z => n j (by rw [z]; exact sa))]; exact h
  · by_cases z : b = a
    · subst z; exact ⟨_, upd_same⟩
    · exact ⟨o, by rw [upd_ne z]; exact h⟩
  · rw [upd_ne (fun z => by rw [z, fa] at h; cases h)]; exact R.ex b o h
  · rcases set_at h with ⟨rfl, e2, _⟩ | ⟨ne, h'⟩
    · cases e2
      exact ⟨_, hv, w⟩
    · obtain ⟨v2, e2, w2⟩ := R.at_ i o2 h'
      exact ⟨v2, e2, w2.ext (Ex.refl F) fun b u s q => by rw [upd_ne (fun z => ns i ne (by rw [← z]; exact s))]; exact q⟩
  · obtain ⟨y1, u', y2⟩ := R.tr i b z
    refine ⟨y1, ?_⟩
    by_cases e : b = a
    · subst e; exact ⟨_, upd_same⟩
    · exact ⟨u', by rw [upd_ne e]; exact y2⟩
/-- the instance that the place i holds -/
theorem ob_at {F H : Hp} {C : Addr} {fs : List (Str × PyData)} {g : Option (Str × List PyData)} {v : V} {S : Addr → Prop} (h : Own F H (.ob C fs g) v S) :
    ∃ a dx vs r, v = .ref a ∧ S a ∧ S dx ∧ H a = some (.ins C dx (vs ++ r)) ∧ H dx = some (.own a) ∧ FldR F fs vs ∧ (g = none → r = []) ∧ ∀ x ds, g = some (x, ds) → ∃ p ws, r = [(x, .ref p)] ∧ S p ∧ H p = some (.lst ws) ∧ All2 (Rp F) ds ws := by
  cases g with
  | none =>
    obtain ⟨a, dx, vs, q, s, s', h1, h2, r⟩ := h
    exact ⟨a, dx, vs, [], q, s, s', by rw [List.append_nil]; exact h1, h2, r, fun _ => rfl, fun x ds z => nomatch z⟩
  | some g =>
    obtain ⟨a, dx, vs, p, ws, q, s, s', s2, h1, h2, h3, r, r2⟩ := h
    exact ⟨a, dx, vs, [(g.1, .ref p)], q, s, s', h1, h2, r, (fun z => nomatch z), fun x ds z => by cases z; exact ⟨p, ws, rfl, s2, h3, r2⟩⟩
/-- an attribute that never changes -/
def mFld (C : Addr) (i : Nat) (f : Str) : ME := fun env => match env[i]? with
  | some (some (.ob C' fs _)) => if C' = C then (fs.lookup f).map fun d => (.val d, env) else none
  | _ => none
theorem re_fld {K : PySem.W.Frag} {C : Addr} {i : Nat} {f : Str} (c : Cls K C) (n : NoAttr K C f) : RE true (tFld K (tVar i) f) (mFld C i f) := by
  intro F H σ env Sl R p env' e Q q
  unfold mFld at e
  split at e
  · rename_i C' fs g h0
    split at e
    · rename_i hC
      subst hC
      cases h1 : fs.lookup f with
      | none => rw [h1] at e; cases e
      | some d =>
        rw [h1] at e
        cases e
        obtain ⟨v, hv, w⟩ := R.at_ i _ h0
        obtain ⟨a, dx, vs, r, rfl, _, _, hH, _, fr, _⟩ := ob_at w
        obtain ⟨x, hx, rx⟩ := fld_look (r := r) fr h1
        exact ⟨_, hv, a, C', dx, _, x, rfl, hH, c, n, hx, q _ F H Sl Step.refl (fun _ => ⟨rfl, Ex.refl H, rfl⟩) R rx⟩
    · cases e
  · cases e
/-- o.f = e, e never changing any more -/
def mSetF (C : Addr) (j : Nat) (f : Str) (me : ME) : MS := bnd me fun p e => match fzP e p with
  | some (d, e2) => match e2[j]? with
    | some (some (.ob C' fs none)) => if C' = C ∧ fs.length < 1000 then some (.nx, e2.set j (some (.ob C (putP f d fs) none))) else none
    | some (some (.ob C' fs (some (g, ds)))) => if C' = C ∧ fs.length < 999 ∧ (fs.lookup f).isSome = true then some (.nx, e2.set j (some (.ob C (putP f d fs) (some (g, ds))))) else none
    | _ => none
  | none => none
theorem rs_setF {K : PySem.W.Frag} {pn : List Nat} {pu : Bool} {te : TE} {me : ME} {C : Addr} {j : Nat} {f : Str} (c : Cls K C) (n : NoAttr K C f) (h : RE pu te me) : RS pn (sFld K (tVar j) te f) (mSetF C j f me) := by
  intro F H σ env Sl R ct env' e D q
  obtain ⟨p, e1, h1, h2⟩ := bnd_of e
  split at h2
  case h_2 => cases h2
  rename_i d e2 h3
  refine h F H σ env Sl R p _ h1 _ fun y F1 H1 Sl1 s1 pu1 R1 r1 => ?_
  obtain ⟨F2, Sl2, s2, R2, r2⟩ := fz_ok R1 r1 h3
  split at h2
  · rename_i C' fs h0
    split at h2
    case isFalse => cases h2
    rename_i hC
    obtain ⟨rfl, hl⟩ := hC
    cases h2
    obtain ⟨v, hv, a, dx, vs, rfl, sa, sd, hH, hd, fr⟩ := R2.at_ j _ h0
    refine ⟨_, hv, a, C', dx, vs, rfl, hH, c, n, by rw [← fr.len]; exact hl, ?_⟩
    have ne : dx ≠ a := ne_of hd hH (by intro z; cases z)
    obtain ⟨s4, R4⟩ := R2.updO (u := .ins C' dx (putF f y vs)) (o := .ob C' (putP f d fs) none) sa hv ⟨a, dx, _, rfl, sa, sd, upd_same, by rw [upd_ne ne]; exact hd, fld_put r2 fr⟩
    exact q _ _ σ _ (s1.trans (s2.trans s4)) R4 fun _ _ => rfl
  · rename_i C' fs g ds h0
    split at h2
    case isFalse => cases h2
    rename_i hC
    obtain ⟨rfl, hl, hs⟩ := hC
    cases h2
    obtain ⟨v, hv, a, dx, vs, p, ws, rfl, sa, sd, sp, hH, hd, hp, fr, lr⟩ := R2.at_ j _ h0
    refine ⟨_, hv, a, C', dx, _, rfl, hH, c, n, by rw [List.length_append, List.length_singleton, ← fr.len]; omega, ?_⟩
    have ne : dx ≠ a := ne_of hd hH (by intro z; cases z)
    have np : p ≠ a := ne_of hp hH (by intro z; cases z)
    obtain ⟨vs', e1, fr'⟩ := fld_putr (r := [(g, V.ref p)]) r2 fr hs
    rw [e1]
    obtain ⟨s4, R4⟩ := R2.updO (u := .ins C' dx (vs' ++ [(g, V.ref p)])) (o := .ob C' (putP f d fs) (some (g, ds))) sa hv ⟨a, dx, vs', p, ws, rfl, sa, sd, sp, upd_same, by rw [upd_ne ne]; exact hd, by rw [upd_ne np]; exact hp, fr', lr⟩
    exact q _ _ σ _ (s1.trans (s2.trans s4)) R4 fun _ _ => rfl
  · cases h2
/-- o.g = a new list -/
def mSetFO (C : Addr) (j : Nat) (g : Str) (mo : MO) : MS := bnd mo fun o e => match o, e[j]? with
  | .ow ds, some (some (.ob C' fs none)) => if C' = C ∧ fs.length < 1000 ∧ fs.lookup g = none then some (.nx, e.set j (some (.ob C fs (some (g, ds))))) else none
  | _, _ => none
theorem rs_setFO {K : PySem.W.Frag} {pn : List Nat} {te : TE} {mo : MO} {C : Addr} {j : Nat} {g : Str} (c : Cls K C) (n : NoAttr K C g) (h : RO te mo) : RS pn (sFld K (tVar j) te g) (mSetFO C j g mo) := by
  intro F H σ env Sl R ct env' e D q
  obtain ⟨o, e1, h1, h2⟩ := bnd_of e
  split at h2
  case h_2 => cases h2
  rename_i ds C' fs h0
  split at h2
  case isFalse => cases h2
  rename_i hC
  obtain ⟨rfl, hl, hg⟩ := hC
  cases h2
  refine h F H σ env Sl R _ _ h1 _ fun y F1 H1 Sl1 T s1 R1 n1 => ?_
  obtain ⟨p, ws, rfl, tp, hp, lr⟩ := n1.own
  obtain ⟨v, hv, a, dx, vs, rfl, sa, sd, hH, hd, fr⟩ := R1.at_ j _ h0
  refine ⟨_, hv, a, C', dx, vs, rfl, hH, c, n, by rw [← fr.len]; exact hl, ?_⟩
  have ne : dx ≠ a := ne_of hd hH (by intro z; cases z)
  have np : p ≠ a := ne_of hp hH (by intro z; cases z)
  have hn : vs.lookup g = none := by have := fld_none (r := []) fr hg; rw [List.append_nil] at this; exact this
  rw [putF_new hn]
  -- the new list joins the place j
  have R2 : REnv F1 H1 σ e1 (fun i b => Sl1 i b ∨ (i = j ∧ T b)) := by
    refine ⟨R1.ex, R1.len, fun i o hi => ?_, fun i k b x y => ?_, fun i b x => ?_⟩
    · obtain ⟨v, e, w⟩ := R1.at_ i o hi
      exact ⟨v, e, w.sub fun _ z => .inl z⟩
    · rcases x with x | ⟨rfl, x⟩
      · rcases y with y | ⟨rfl, y⟩
        · exact R1.dj i k b x y
        · exact absurd x (n1.dj i b y)
      · rcases y with y | ⟨rfl, y⟩
        · exact absurd y (n1.dj k b x)
        · rfl
    · rcases x with x | ⟨rfl, x⟩
      · exact R1.tr i b x
      · exact n1.tr b x
  have s2 : Step F H Sl F1 H1 (fun i b => Sl1 i b ∨ (i = j ∧ T b)) := ⟨s1.exF, s1.fr, s1.tk, fun i b z => z.elim (s1.own i b) fun y => .inr (n1.nw b y.2), s1.fz⟩
  obtain ⟨s4, R4⟩ := R2.updO (u := .ins C' dx (vs ++ [(g, V.ref p)])) (o := .ob C' fs (some (g, ds))) (.inl sa) hv ⟨a, dx, vs, p, ws, rfl, .inl sa, .inl sd, .inr ⟨rfl, tp⟩, upd_same, by rw [upd_ne ne]; exact hd, by rw [upd_ne np]; exact hp, fr, lr⟩
  exact q _ _ σ _ (s2.trans s4) R4 fun _ _ => rfl
/-- all data -/
def valsOf : List P → Option (List PyData)
  | [] => some []
  | .val d :: ps => (valsOf ps).map (d :: ·)
  | _ => none
theorem vals_ok {F : Hp} {σ : L2.St} : ∀ {ps : List P} {vs : List V} {ds : List PyData}, relA F σ vs ps → valsOf ps = some ds → All2 (Rp F) ds vs
  | [], _, _, .nil, e => by cases e; exact .nil
  | .val d :: ps, _, _, .cons a t, e => by
    unfold valsOf at e
    cases h : valsOf ps with
    | none => rw [h] at e; cases e
    | some ds => rw [h] at e; cases e; exact .cons a (vals_ok t h)
  | .var _ :: _, _, _, _, e => nomatch e
  | .k _ _ :: _, _, _, _, e => nomatch e
/-- o.g.append((e, ..)) -/
def mAppF (C : Addr) (j : Nat) (g : Str) (ma : MA) : MS := fun env => match env[j]? with
  | some (some (.ob C' fs (some (g', ds)))) => if C' = C ∧ g' = g ∧ fs.lookup g = none ∧ ds.length < sizeLine then match ma env with
    | some (ps, e) => match valsOf ps with
      | some xs => some (.nx, e.set j (some (.ob C fs (some (g, ds ++ [.tuple xs])))))
      | none => none
    | none => none else none
  | _ => none
theorem rs_appF {K : PySem.W.Frag} {pn : List Nat} {ta : TA} {ma : MA} {C : Addr} {j k : Nat} {g : Str} (c : Cls K C) (n : NoAttr K C g) (h : RA true ta ma) (hl : LenA k ma) (hk : k ≤ sizeLine := by decide) : RS pn (tDrop (tBM K "list" rAppend (tFld K (tVar j) g) (tCons (tTup ta) tNil))) (mAppF C j g ma) := by
  intro F H σ env Sl R ct env' e D q
  unfold mAppF at e
  split at e
  case h_2 => cases e
  rename_i C' fs g' ds h0
  split at e
  case isFalse => cases e
  rename_i hC
  obtain ⟨rfl, rfl, hg, hz⟩ := hC
  split at e
  case h_2 => cases e
  rename_i ps e1 h1
  split at e
  case h_2 => cases e
  rename_i xs h2
  cases e
  obtain ⟨v, hv, w⟩ := R.at_ j _ h0
  obtain ⟨a, dx, vs, p, ws, rfl, sa, sd, sp, hH, hd, hp, fr, lr⟩ := w
  have hlk : (vs ++ [(g', V.ref p)]).lookup g' = some (.ref p) := by rw [fld_none fr hg, List.lookup_cons_self]
  refine ⟨_, hv, a, C', dx, _, .ref p, rfl, hH, c, n, hlk, Or.inl ⟨rfl, ws, SqL.of hp⟩, ?_⟩
  refine h F H σ env Sl R _ _ h1 _ fun ys F1 H1 Sl1 s1 pu1 R1 r1 => ?_
  obtain ⟨rfl, exH, rfl⟩ := pu1 rfl
  have rr := vals_ok r1 h2
  refine ⟨by rw [← r1.len, hl _ _ _ h1]; exact hk, fun t ht => ?_⟩
  obtain ⟨x, y, z, u, rt⟩ := new_tup R1.ex ht rr
  have R2 := R1.grow x y z u
  have s2 := s1.trans (Step.grow (Sl := Sl1) x y u)
  have up : ∀ {b o}, H b = some o → (upd H1 t (.tup ys)) b = some o := fun {b o} w => y _ _ (exH _ _ w)
  have ea : a ≠ p := ne_of hH hp (by intro z; cases z)
  have ed : dx ≠ p := ne_of hd hp (by intro z; cases z)
  obtain ⟨s4, R4⟩ := R2.updO (a := p) (u := .lst (ws ++ [.ref t])) (o := .ob C' fs (some (g', ds ++ [.tuple xs]))) sp hv ⟨a, dx, vs, p, _, rfl, sa, sd, sp, by rw [upd_ne ea]; exact up hH, by rw [upd_ne ed]; exact up hd, upd_same, fr.mono fun _ _ z => ⟨z.1, Rp.mono s2.exF z.2⟩, (all_mono s2.exF lr).snoc rt⟩
  exact ⟨p, ws, .ref t, rfl, rfl, up hp, by rw [← lr.len]; exact hz, q _ _ σ _ (s2.trans s4) R4 fun _ _ => rfl⟩
/-- C(..) -/
def mMake (C : Addr) (mf : MF) (ma : MA) : MO := bnd ma fun ps e => match prepX ps e with
  | some (os, e2) => match mf (.ob C [] none :: os) with
    | some (.fz .none, o :: _) => some (o, e2)
    | _ => none
  | none => none
theorem ro_make {pu : Bool} {ta : TA} {ma : MA} {mf : MF} {C : Addr} {E : XK} (h : RA pu ta ma) : RO (tMake C (spOf [0] mf) [] E ta) (mMake C mf ma) := by
  intro F H σ env Sl R o env' e Q q
  obtain ⟨ps, e1, h1, h2⟩ := bnd_of e
  split at h2
  case h_2 => cases h2
  rename_i os e2 h3
  split at h2
  case h_2 => cases h2
  rename_i o' rest h4
  cases h2
  refine h F H σ env Sl R ps _ h1 _ fun vs F1 H1 Sl1 s1 pu1 R1 r1 => ?_
  obtain ⟨F2, Sl2, s2, R2, l2, r2⟩ := prepX_ok R1 r1 h3
  intro x dx nx nd ne
  rw [List.append_nil]
  have up : ∀ {b u}, H1 b = some u → (upd (upd H1 dx (.own x)) x (.ins C dx [])) b = some u := fun {b u} w => by
    rw [upd_ne (ne_of_none w nx), upd_ne (ne_of_none w nd)]; exact w
  have back : ∀ {b}, (upd (upd H1 dx (.own x)) x (.ins C dx [])) b = none → H1 b = none := fun {b} w => by
    cases z : H1 b with
    | none => rfl
    | some u => rw [up z] at w; cases w
  have fresh : ∀ {b}, b = x ∨ b = dx → H1 b = none := fun {b} w => by rcases w with rfl | rfl <;> assumption
  refine ⟨F2, .ob C [] none :: os, fun k b => k = 0 ∧ (b = x ∨ b = dx), _, _, ⟨fun b u w => up (R2.ex b u w), by simp [l2], fun i u hu => ?_, fun i k b y z => y.1.trans z.1.symm, fun i b z => ⟨R2.ex.none (fresh z.2), ?_⟩⟩, fun k b z => by rw [z.1]; exact List.mem_singleton.mpr rfl, fun k u hu n => ?_, h4, fun v F3 H3 Sl3 T s3 R3 hs3 n3 => ?_⟩
  · cases i with
    | zero =>
      cases args_at hu
      exact ⟨.ref x, rfl, x, dx, [], rfl, ⟨rfl, .inl rfl⟩, ⟨rfl, .inr rfl⟩, upd_same, by rw [upd_ne ne]; exact upd_same, .nil⟩
    | succ i =>
      have hi : os[i]? = some u := args_at hu
      have hv : i < vs.length := by rw [← l2]; exact (List.getElem?_eq_some_iff.mp hi).1
      obtain ⟨_, rr⟩ := r2 i u vs[i] hi (List.getElem?_eq_getElem hv)
      exact ⟨vs[i], by rw [List.map_cons, List.getElem?_cons_succ, List.getElem?_map, List.getElem?_eq_getElem hv]; rfl, rr _ _⟩
  · rcases z.2 with rfl | rfl
    · exact ⟨_, upd_same⟩
    · exact ⟨_, by rw [upd_ne ne]; exact upd_same⟩
  · cases k with
    | zero => exact absurd (List.mem_singleton.mpr rfl) n
    | succ k =>
      have hv : k < vs.length := by rw [← l2]; exact Nat.lt_of_succ_lt_succ (List.getElem?_eq_some_iff.mp hu).1
      exact (r2 k u vs[k] hu (List.getElem?_eq_getElem hv)).1
  · have ev : v = .non := n3.own
    subst ev
    have exH : Ex H1 H3 := fun b u w => s3.fr b u (up w) fun k y => by rw [fresh y.2] at w; cases w
    have gr : ∀ b u, F3 b = some u → F2 b = some u ∨ H1 b = none := fun b u z => by
      rcases s3.fz b u z with y | y | ⟨k, y⟩
      · exact .inl y
      · exact .inr (back y)
      · exact .inr (fresh y.2)
    have s4 : Step F2 H1 Sl2 F3 H3 Sl2 := Step.grow s3.exF exH gr
    have R4 : REnv F3 H3 σ env' Sl2 := R2.grow s3.exF exH R3.ex gr
    obtain ⟨v0, e0, w0⟩ := R3.at_ 0 o rfl
    have nw : ∀ b, Sl3 0 b → H1 b = none := fun b z => (s3.own 0 b z).elim (fun y => fresh y.2) back
    cases (show some (some (V.ref x)) = some (some v0) from e0)
    have dj : ∀ i a, Sl3 0 a → ¬ Sl2 i a := fun i a y z => by
      obtain ⟨_, u, z'⟩ := R2.tr i a z
      rw [nw a y] at z'
      cases z'
    exact ⟨rfl, q (.ref x) F3 H3 Sl2 (Sl3 0) (s1.trans (s2.trans s4)) R4 ⟨w0, dj, fun a z => R3.tr 0 a z, fun a z => s1.tkb (s2.tkb (nw a z))⟩⟩
/-- o.m(..), o a name -/
def mMeth (C : Addr) (m : Str) (i : Nat) (pn : List Nat) (mf : MF) (ma : MA) : MO := fun env => match env[i]? with
  | some (some (.ob C' fs g)) => if C' = C ∧ fs.lookup m = none ∧ (g.all fun z => !(m == z.1)) = true then bnd ma (fun ps e => callP pn mf (.var i :: ps) e) env else none
  | _ => none
theorem ro_meth {pu : Bool} {ta : TA} {ma : MA} {pn : List Nat} {mf : MF} {C : Addr} {m : Str} {i : Nat} {E : XK} (h : RA pu ta ma) : RO (tMeth C m (spOf pn mf) [] E (tVar i) ta) (mMeth C m i pn mf ma) := by
  intro F H σ env Sl R o env' e Q q
  unfold mMeth at e
  split at e
  case h_2 => cases e
  rename_i C' fs g h0
  split at e
  case isFalse => cases e
  rename_i hC
  obtain ⟨rfl, hm, hg⟩ := hC
  obtain ⟨ps, e1, h1, h2⟩ := bnd_of e
  obtain ⟨v, hv, w⟩ := R.at_ i _ h0
  obtain ⟨a, dx, vs, r, rfl, _, _, hH, _, fr, g0, g1⟩ := ob_at w
  have hl : (vs ++ r).lookup m = none := by
    rw [fld_none fr hm]
    cases g with
    | none => rw [g0 rfl]; rfl
    | some g =>
      obtain ⟨p, ws, rfl, _⟩ := g1 g.1 g.2 rfl
      have hg' : (!(m == g.1)) = true := hg
      rw [Bool.not_eq_true'] at hg'
      rw [List.lookup_cons, hg']
      rfl
  refine ⟨_, hv, a, dx, _, rfl, hH, hl, ?_⟩
  refine h F H σ env Sl R ps _ h1 _ fun us F1 H1 Sl1 s1 pu1 R1 r1 => ?_
  rw [List.append_nil]
  exact call_core (vs := .ref a :: us) (ps := .var i :: ps) R1 (.cons hv r1) h2 Q fun v F' H' Sl' T s R' n => q v F' H' Sl' T (s1.trans s) R' (n.mono0 fun _ z => s1.tkb z)
/-- return xs, o.g: both are handed over -/
def mRetTp (C : Addr) (i j : Nat) (g : Str) : MS := fun env => match env[i]?, env[j]? with
  | some (some (.ow xs)), some (some (.ob C' fs (some (g', ys)))) => if i ≠ j ∧ C' = C ∧ g' = g ∧ fs.lookup g = none then some (.rt (.tp [xs, ys]), (env.set i none).set j none) else none
  | _, _ => none
theorem rs_retTp {K : PySem.W.Frag} {pn : List Nat} {C : Addr} {i j : Nat} {g : Str} (c : Cls K C) (n : NoAttr K C g) (hi : i ∉ pn := by decide) (hj : j ∉ pn := by decide) : RS pn (tRet (tTup (tCons (tVar i) (tCons (tFld K (tVar j) g) tNil)))) (mRetTp C i j g) := by
  intro F H σ env Sl R ct env' e D q
  unfold mRetTp at e
  split at e
  case h_2 => cases e
  rename_i xs C' fs g' ys h0 h0'
  split at e
  case isFalse => cases e
  rename_i hC
  obtain ⟨ij, rfl, rfl, hg⟩ := hC
  cases e
  obtain ⟨v, hv, a1, ws, rfl, sa1, ha1, lr1⟩ := R.at_ i _ h0
  obtain ⟨v, hv', a, dx, vs, p, zs, rfl, sa, sd, sp, hH, hd, hp, fr, lr⟩ := R.at_ j _ h0'
  have hlk : (vs ++ [(g', V.ref p)]).lookup g' = some (.ref p) := by rw [fld_none fr hg, List.lookup_cons_self]
  refine ⟨_, hv, _, hv', a, C', dx, _, .ref p, rfl, hH, c, n, hlk, by show 2 ≤ sizeLine; decide, fun t ht => ?_⟩
  have ft := R.ex.none ht
  have n1 : a1 ≠ t := ne_of_none ha1 ht
  have n2 : p ≠ t := ne_of_none hp ht
  have n3 : a1 ≠ p := fun z => ij (R.dj i j a1 sa1 (by rw [z]; exact sp))
  have none_at : ∀ (l : En) (k m : Nat) (o : O), (l.set k none)[m]? = some (some o) → m ≠ k ∧ l[m]? = some (some o) := fun l k m o z => by
    rcases set_at z with ⟨_, y, _⟩ | y
    · cases y
    · exact y
  refine q (.ref t) F (upd H t (.tup [.ref a1, .ref p])) σ (fun k b => k ≠ i ∧ k ≠ j ∧ Sl k b) (fun b => b = t ∨ Sl i b ∨ Sl j b) ⟨Ex.refl F, fun b o w _ => by rw [upd_ne (ne_of_none w ht)]; exact w, fun b o w => ⟨o, by rw [upd_ne (ne_of_none w ht)]; exact w⟩, fun k b z => .inl z.2.2, fun b o z => .inl z⟩
    ⟨fun b o w => by rw [upd_ne (fun z => by rw [z, ft] at w; cases w)]; exact R.ex b o w, by rw [List.length_set, List.length_set]; exact R.len, fun k o hk => ?_, fun k l b x y => R.dj k l b x.2.2 y.2.2, fun k b z => ?_⟩ (fun _ _ => rfl)
    ⟨t, [a1, p], rfl, .inl rfl, upd_same, by simp [n1.symm, n2.symm], by simp [n3], .cons ⟨.inr (.inl sa1), ws, by rw [upd_ne n1]; exact ha1, lr1⟩ (.cons ⟨.inr (.inr sp), zs, by rw [upd_ne n2]; exact hp, lr⟩ .nil)⟩ (fun k b z y => ?_) (fun b z => ?_) fun b z => ?_
  · obtain ⟨k2, hk⟩ := none_at _ _ _ _ hk
    obtain ⟨k1, hk⟩ := none_at _ _ _ _ hk
    obtain ⟨v, e, w⟩ := R.at_ k o hk
    exact ⟨v, e, (w.ext (Ex.refl F) fun b u s z => by rw [upd_ne (ne_of_none z ht)]; exact z).sub fun b z => ⟨k1, k2, z⟩⟩
  · obtain ⟨x, u, y⟩ := R.tr k b z.2.2
    exact ⟨x, u, by rw [upd_ne (ne_of_none y ht)]; exact y⟩
  · rcases z with rfl | z | z
    · obtain ⟨_, u, w⟩ := R.tr k b y.2.2
      rw [ht] at w
      cases w
    · exact y.1 (R.dj k i b y.2.2 z)
    · exact y.2.1 (R.dj k j b y.2.2 z)
  · rcases z with rfl | z | z
    · exact ⟨ft, _, upd_same⟩
    · obtain ⟨x, u, y⟩ := R.tr i b z
      exact ⟨x, u, by rw [upd_ne (ne_of_none y ht)]; exact y⟩
    · obtain ⟨x, u, y⟩ := R.tr j b z
      exact ⟨x, u, by rw [upd_ne (ne_of_none y ht)]; exact y⟩
  · rcases z with rfl | z | z
    · exact .inl ht
    · exact .inr ⟨i, hi, z⟩
    · exact .inr ⟨j, hj, z⟩
/-- f(..)[k], of a tuple of lists that nobody else holds -/
def mTpIx (k : Nat) (mo : MO) : MO := bnd mo fun o e => match o with
  | .tp rows => (rows[k]?).map fun r => (.ow r, e)
  | _ => none
theorem ro_tpIx {K : PySem.W.Frag} {te : TE} {mo : MO} {k : Nat} (h : RO te mo) : RO (tOp (rIx K) te (tC (.int (k : Nat)))) (mTpIx k mo) := by
  intro F H σ env Sl R o env' e Q q
  obtain ⟨o1, e1, h1, h2⟩ := bnd_of e
  split at h2
  case h_2 => cases h2
  rename_i rows
  cases h3 : rows[k]? with
  | none => rw [h3] at h2; cases h2
  | some row =>
    rw [h3] at h2
    cases h2
    refine h F H σ env Sl R _ _ h1 _ fun v F1 H1 Sl1 T s1 R1 n1 => ?_
    obtain ⟨a, rs, rfl, ta, ha, _, _, rr⟩ := n1.own
    obtain ⟨r, hr, tr, ws, hw, lw⟩ := rr.get h3
    refine .inr (.inl ⟨a, _, (k : Nat), .ref r, rfl, rfl, SqT.of ha, ?_, ?_⟩)
    · rw [atI_nat]
      rw [List.getElem?_map, hr]
      rfl
    · exact q (.ref r) F1 H1 Sl1 T s1 R1 ⟨⟨r, ws, rfl, tr, hw, lw⟩, n1.dj, n1.tr, n1.nw⟩
end Tr
namespace Tr
open PySem PySem.Spec PyProof.Rows L2
/-! ### xs.insert(i, e), xs.remove(k), xs.pop() -/
def rInsert : V → List V → Hp → VK → Prop := fun x vs H Q => ∃ (l : Addr) (xs : List V) (i : Int) (y : V), x = .ref l ∧ vs = [.int i, y] ∧ H l = some (.lst xs) ∧ xs.length < sizeLine ∧ 0 ≤ i ∧ i < 2 ^ 63 ∧
    Q .non (upd H l (.lst (xs.take i.toNat ++ [y] ++ xs.drop i.toNat)))
theorem insK {X : Cx} : MtR X "list.insert" rInsert := mt_insert
def mIns (j : Nat) (ma : MA) : MS := fun env => match env[j]? with
  | some (some (.ow _)) => match ma env with
    | some ([.val (.int i), p], e1) => match fzP e1 p with
      | some (d, e2) => match e2[j]? with
        | some (some (.ow ds)) => if ds.length < sizeLine ∧ 0 ≤ i ∧ i < 2 ^ 63 then some (.nx, e2.set j (some (.ow (ds.take i.toNat ++ [d] ++ ds.drop i.toNat)))) else none
        | _ => none
      | none => none
    | _ => none
  | _ => none
theorem rs_ins {K : PySem.W.Frag} {pn : List Nat} {pu : Bool} {ta : TA} {ma : MA} {j : Nat} (h : RA pu ta ma) : RS pn (tDrop (tBM K "list" rInsert (tVar j) ta)) (mIns j ma) := by
  intro F H σ env Sl R c env' e D q
  unfold mIns at e
  split at e
  case h_2 => cases e
  rename_i ds0 h0
  split at e
  case h_2 => cases e
  rename_i i p e1 h1
  split at e
  case h_2 => cases e
  rename_i d e2 h3
  split at e
  case h_2 => cases e
  rename_i ds h5
  split at e
  case isFalse => cases e
  rename_i hl
  cases e
  obtain ⟨a, vs0, ha, hH0, _⟩ := R.held h0
  refine ⟨_, ha, Or.inl ⟨rfl, vs0, SqL.of hH0⟩, ?_⟩
  refine h F H σ env Sl R _ _ h1 _ fun r F1 H1 Sl1 s1 pu1 R1 r1 => ?_
  cases r1 with
  | cons x t =>
    cases t with
    | cons y t =>
      cases t
      obtain ⟨F2, Sl2, s2, R2, r2⟩ := fz_ok R1 y h3
      obtain ⟨a', vs, ha', hH, rr⟩ := R2.held h5
      rw [ha] at ha'
      cases ha'
      rename_i v
      obtain ⟨s4, R4⟩ := R2.write h5 ha (vs' := vs.take i.toNat ++ [v] ++ vs.drop i.toNat) (((rr.take _).snoc r2).app (rr.drop _))
      exact ⟨a, vs, i, v, rfl, by rw [pint x], hH, by rw [← rr.len]; exact hl.1, hl.2.1, hl.2.2, q _ _ σ _ (s1.trans (s2.trans s4)) R4 fun _ _ => rfl⟩
/-- the first place of k -/
def atFirst (k : Int) : List Int → Option Nat
  | [] => none
  | n :: ns => if n = k then some 0 else (atFirst k ns).map (· + 1)
theorem atFirst_spec {k : Int} : ∀ {ns : List Int} {j : Nat}, atFirst k ns = some j → ns[j]? = some k ∧ ∀ m : Nat, m < j → ns[m]? ≠ some k
  | [], j, h => nomatch h
  | n :: ns, j, h => by
    unfold atFirst at h
    by_cases e : n = k
    · rw [if_pos e] at h
      cases h
      subst e
      exact ⟨rfl, fun m hm => by omega⟩
    · rw [if_neg e] at h
      cases h1 : atFirst k ns with
      | none => rw [h1] at h; cases h
      | some i =>
        rw [h1] at h
        cases h
        obtain ⟨a, b⟩ := atFirst_spec h1
        refine ⟨by simpa using a, fun m hm => ?_⟩
        cases m with
        | zero => simpa using e
        | succ m => simpa using b m (Nat.lt_of_succ_lt_succ hm)
def mRem (j : Nat) (ma : MA) : MS := fun env => match env[j]? with
  | some (some (.ow _)) => match ma env with
    | some ([.val (.int k)], e1) => match e1[j]? with
      | some (some (.ow ds)) => match allI ds with
        | some ns => match atFirst k ns with
          | some n => some (.nx, e1.set j (some (.ow (ds.eraseIdx n))))
          | none => none
        | none => none
      | _ => none
    | _ => none
  | _ => none
theorem erase_map {α β : Type} (f : α → β) : ∀ (l : List α) (n : Nat), (l.eraseIdx n).map f = (l.map f).eraseIdx n
  | [], _ => rfl
  | _ :: _, 0 => rfl
  | x :: l, n + 1 => congrArg (f x :: ·) (erase_map f l n)
theorem rs_rem {K : PySem.W.Frag} {pn : List Nat} {pu : Bool} {ta : TA} {ma : MA} {j : Nat} (h : RA pu ta ma) : RS pn (tDrop (tBM K "list" rRemI (tVar j) ta)) (mRem j ma) := by
  intro F H σ env Sl R c env' e D q
  unfold mRem at e
  split at e
  case h_2 => cases e
  rename_i ds0 h0
  split at e
  case h_2 => cases e
  rename_i k e1 h1
  split at e
  case h_2 => cases e
  rename_i ds h5
  split at e
  case h_2 => cases e
  rename_i ns h6
  split at e
  case h_2 => cases e
  rename_i n h7
  cases e
  obtain ⟨a, vs0, ha, hH0, _⟩ := R.held h0
  refine ⟨_, ha, Or.inl ⟨rfl, vs0, SqL.of hH0⟩, ?_⟩
  refine h F H σ env Sl R _ _ h1 _ fun r F1 H1 Sl1 s1 pu1 R1 r1 => ?_
  cases r1 with
  | cons x t =>
    cases t
    obtain ⟨a', vs, ha', hH, rr⟩ := R1.held h5
    rw [ha] at ha'
    cases ha'
    have ev := allI_ok rr h6
    obtain ⟨n1, n2⟩ := atFirst_spec h7
    obtain ⟨s4, R4⟩ := R1.write h5 ha (vs' := vs.eraseIdx n) (rr.erase n)
    refine ⟨a, ns, k, n, rfl, by rw [pint x], by rw [hH, ev], n1, n2, ?_⟩
    rw [show (ns.eraseIdx n).map V.int = vs.eraseIdx n by rw [ev, erase_map]]
    exact q _ _ σ _ (s1.trans s4) R4 fun _ _ => rfl
def mPop (j : Nat) : ME := fun env => match env[j]? with
  | some (some (.ow ds)) => (ds[ds.length - 1]?).map fun d => (.val d, env.set j (some (.ow ds.dropLast)))
  | _ => none
theorem re_pop {K : PySem.W.Frag} {j : Nat} : RE false (tBM0 K "list" rPop (tVar j)) (mPop j) := by
  intro F H σ env Sl R p env' e Q q
  unfold mPop at e
  split at e
  case h_2 => cases e
  rename_i ds h0
  cases h1 : ds[ds.length - 1]? with
  | none => rw [h1] at e; cases e
  | some d =>
    rw [h1] at e
    cases e
    obtain ⟨a, vs, ha, hH, rr⟩ := R.held h0
    obtain ⟨v, hv, rv⟩ := rr.get h1
    obtain ⟨s4, R4⟩ := R.write h0 ha (vs' := vs.dropLast) rr.dropLast
    exact ⟨_, ha, Or.inl ⟨rfl, vs, SqL.of hH⟩, a, vs, v, rfl, rfl, hH, by rw [← rr.len]; exact hv, q _ _ _ Sl s4 (fun z => nomatch z) R4 rv⟩
/-! xs.index(x) -/
def atEqv (d : PyData) : List PyData → Option Nat
  | [] => none
  | y :: ys => if PyData.eqv y d = true then some 0 else (atEqv d ys).map (· + 1)
theorem atEqv_spec {F : Hp} {d : PyData} {v : V} (hd : Rp F d v) (fd : flat d = true) : ∀ {ds : List PyData} {vs : List V} {j : Nat}, All2 (Rp F) ds vs → ds.all flat = true → atEqv d ds = some j → (∃ z, vs[j]? = some z ∧ eqV z v = true) ∧ ∀ (m : Nat) (z : V), m < j → vs[m]? = some z → eqV z v = false
  | [], _, j, _, _, h => nomatch h
  | y :: ds, _, j, .cons (b := w) a t, fl, h => by
    rw [List.all_cons, Bool.and_eq_true] at fl
    unfold atEqv at h
    have e := flat_eq a hd fl.1 fd
    by_cases q : PyData.eqv y d = true
    · rw [if_pos q] at h
      cases h
      exact ⟨⟨w, rfl, by rw [e, q]⟩, fun m z hm => by omega⟩
    · rw [if_neg q] at h
      cases h1 : atEqv d ds with
      | none => rw [h1] at h; cases h
      | some i =>
        rw [h1] at h
        cases h
        obtain ⟨⟨z, x1, x2⟩, b⟩ := atEqv_spec hd fd t fl.2 h1
        refine ⟨⟨z, by simpa using x1, x2⟩, fun m z hm hz => ?_⟩
        cases m with
        | zero => cases hz; rw [e]; simpa using q
        | succ m => exact b m z (Nat.lt_of_succ_lt_succ hm) (by simpa using hz)
def gIdx : En → P → P → Option P := fun env p q => match sq env p, q with
  | some ds, .val d => if flat d = true ∧ ds.all flat = true then (atEqv d ds).map fun j => .val (.int (j : Nat)) else none
  | _, _ => none
def mIdx (me : ME) (ma : ME) : ME := bnd me fun p e => match sq e p with
  | some _ => bnd ma (fun q e2 => (gIdx e2 p q).map fun r => (r, e2)) e
  | none => none
theorem re_idx {K : PySem.W.Frag} {pu pv : Bool} {te ta : TE} {me ma : ME} (h : RE pu te me) (h' : RE pv ta ma) : RE (pu && pv) (tBM K "list" (rIndex K) te (tCons ta tNil)) (mIdx me ma) := by
  intro F H σ env Sl R p env' e Q q
  obtain ⟨p1, e1, h1, h2⟩ := bnd_of e
  split at h2
  case h_2 => cases h2
  rename_i ds0 h0
  obtain ⟨p2, e2, h3, h4⟩ := bnd_of h2
  cases h5 : gIdx e2 p1 p2 with
  | none => rw [h5] at h4; cases h4
  | some r =>
    rw [h5] at h4
    cases h4
    unfold gIdx at h5
    split at h5
    case h_2 => cases h5
    rename_i ds d h6
    split at h5
    case isFalse => cases h5
    rename_i hf
    cases h7 : atEqv d ds with
    | none => rw [h7] at h5; cases h5
    | some j =>
      rw [h7] at h5
      cases h5
      refine h F H σ env Sl R p1 _ h1 _ fun x F1 H1 Sl1 s1 pu1 R1 r1 => ?_
      obtain ⟨a, vs0, rfl, hH0, _⟩ := sq_of R1 r1 h0
      refine ⟨Or.inl ⟨rfl, vs0, SqL.of hH0⟩, ?_⟩
      refine h' F1 H1 σ e1 Sl1 R1 _ _ h3 _ fun y F2 H2 Sl2 s2 pu2 R2 r2 => ?_
      obtain ⟨a', vs, ea, hH, rr⟩ := sq_of R2 (r1.mono s2.exF) h6
      cases ea
      have r2' : Rp F2 d y := r2
      obtain ⟨⟨z, z1, z2⟩, no⟩ := atEqv_spec r2' hf.1 rr hf.2 h7
      exact ⟨a, vs, y, j, z, rfl, rfl, SqL.of hH, flat_v r2' hf.1, flat_vs rr hf.2, z1, z2, no, q _ F2 H2 Sl2 (s1.trans s2) (pu_step (F := F) (F1 := F1) (F2 := F2) pu1 pu2) R2 rfl⟩
/-! a, b = a list -/
def mgL (is : List Nat) : PyData → En → Option En := fun d env => match d with
  | .list ds => mgTs is ds env
  | _ => none
theorem rg_lst {K : PySem.W.Frag} {n : Nat} {g : TGs} {is : List Nat} (h : RTs g is) (hn : is.length = n := by rfl) : RT' is (gLst K n g) (mgL is) := by
  intro F H σ env Sl x d R r env' e Q q
  unfold mgL at e
  split at e
  · rename_i ds
    obtain ⟨a, vs, rfl, hF, rr⟩ := rp_list.mp r
    exact ⟨a, vs, rfl, SqL.of (R.ex _ _ hF), by rw [← rr.len, mgTs_len e]; exact hn, h F H σ env Sl vs ds R rr env' e Q q⟩
  · cases e
theorem pg_lstK {X : Cx} {K : PySem.W.Frag} {es : List Expr} {k n : Nat} {t : TGs} {pos : Pos} (hc : X.calm = true) (h : PGs X es t) (hn : (assignEach es X.env).length = n := by rfl) (hst : (assignEach es X.env).findIdx? (·.1) = none := by rfl) (hK : X.K = K := by rfl) : PG X (.Tuple es k pos) (gLst K n t) := by
  subst hK; exact pg_lst hc h hn hst
/-! range(i, j, -1) -/
def dnD (hi : Int) (n : Nat) : List PyData := (List.range n).map fun k => .int (hi - (k : Nat))
def mRng3 (ma : MA) : ML := bnd ma fun ps e => match ps with
  | [.val (.int i), .val (.int j), .val (.int k)] => if k = -1 ∧ -(2 ^ 62) ≤ i ∧ i < 2 ^ 62 ∧ -(2 ^ 62) ≤ j ∧ j < 2 ^ 62 then some (dnD i (i - j).toNat, e) else none
  | _ => none
theorem it_d {F : Hp} {hi : Int} {n : Nat} : ItOk (Itc hi (-1) n) F (dnD hi n) := by
  intro F1 H1 e1 e2 i
  unfold dnD
  rw [List.getElem?_map]
  by_cases h : i < n
  · rw [List.getElem?_range h]
    refine ⟨fun d hd => ?_, (fun z => nomatch z)⟩
    cases hd
    refine ⟨h, fun x H' y => ?_⟩
    obtain ⟨rfl, rfl⟩ := y
    refine ⟨F1, Ex.refl _, Ex.refl _, e2, fun _ _ z => .inl z, ?_⟩
    show V.int _ = V.int _
    congr 1
    omega
  · rw [List.getElem?_eq_none (by rw [List.length_range]; omega)]
    exact ⟨(fun d z => nomatch z), fun _ => Nat.le_of_not_lt h⟩
theorem ri_rng3 {pu : Bool} {ta : TA} {ma : MA} (h : RA pu ta ma) : RI (iRng3 ta) (mRng3 ma) := by
  intro F H σ env Sl R ds env' e Q q
  obtain ⟨ps, e1, h1, h2⟩ := bnd_of e
  split at h2
  case h_2 => cases h2
  rename_i i j k
  split at h2
  case isFalse => cases h2
  rename_i hj
  obtain ⟨rfl, a, b, c, d⟩ := hj
  cases h2
  refine h F H σ env Sl R _ _ h1 _ fun r F1 H1 Sl1 s1 pu1 R1 r1 => ?_
  cases r1 with
  | cons x t =>
    cases t with
    | cons y t =>
      cases t with
      | cons z t =>
        cases t
        exact ⟨i, j, -1, _, by rw [pint x, pint y, pint z], RgC.neg a b c d, q _ F1 H1 Sl1 s1 R1 it_d⟩
/-! xs[i], xs[k] = a, b -/
def mSwap (j : Nat) (mi mk : ME) (ma : MA) : MS := fun env => match env[j]? with
  | some (some (.ow _)) => match ma env with
    | some ([.val a, .val b], e1) => match mi e1 with
      | some (.val (.int i), e2) => match e2[j]? with
        | some (some (.ow ds)) => match ixN ds.length i with
          | some n => match mk (e2.set j (some (.ow (ds.set n a)))) with
            | some (.val (.int k), e3) => match e3[j]? with
              | some (some (.ow ds')) => match ixN ds'.length k with
                | some m => some (.nx, e3.set j (some (.ow (ds'.set m b))))
                | none => none
              | _ => none
            | _ => none
          | none => none
        | _ => none
      | _ => none
    | _ => none
  | _ => none
theorem rs_swap {K : PySem.W.Frag} {pn : List Nat} {pu pv pw : Bool} {ti tk : TE} {ta : TA} {mi mk : ME} {ma : MA} {j : Nat} (h : RA pu ta ma) (hi : RE pv ti mi) (hk : RE pw tk mk) :
    RS pn (tAsg (tTup ta) (gTup K 2 (gCons (gSub (tVar j) ti rSetL) (gCons (gSub (tVar j) tk rSetL) gNil)))) (mSwap j mi mk ma) := by
  intro F H σ env Sl R c env' e D q
  unfold mSwap at e
  split at e
  case h_2 => cases e
  rename_i ds0 h0
  split at e
  case h_2 => cases e
  rename_i a b e1 h1
  split at e
  case h_2 => cases e
  rename_i i e2 h2
  split at e
  case h_2 => cases e
  rename_i ds h3
  split at e
  case h_2 => cases e
  rename_i n h4
  split at e
  case h_2 => cases e
  rename_i k e3 h5
  split at e
  case h_2 => cases e
  rename_i ds' h6
  split at e
  case h_2 => cases e
  rename_i m h7
  cases e
  obtain ⟨p, vs0, hp, hH0, _⟩ := R.held h0
  refine h F H σ env Sl R _ _ h1 _ fun r F1 H1 Sl1 s1 pu1 R1 r1 => ?_
  cases r1 with
  | cons x t =>
    cases t with
    | cons y t =>
      cases t
      rename_i va vb
      refine ⟨by show 2 ≤ sizeLine; decide, fun t ht => ?_⟩
      obtain ⟨f1, f2, f3, f4, rt⟩ := new_tup (ds := [a, b]) R1.ex ht (.cons x (.cons y .nil))
      have R2 := R1.grow f1 f2 f3 f4
      have s2 := s1.trans (Step.grow (Sl := Sl1) f1 f2 f4)
      refine ⟨t, [va, vb], rfl, SqT.of upd_same, rfl, ?_⟩
      refine ⟨va, [vb], rfl, _, hp, ?_⟩
      refine hi _ _ σ e1 Sl1 R2 _ _ h2 _ fun r3 F3 H3 Sl3 s3 pu3 R3 r3' => ?_
      obtain ⟨p', vs, hp', hH, rr⟩ := R3.held h3
      rw [hp] at hp'
      cases hp'
      have xa : Rp F3 a va := Rp.mono (f1.trans s3.exF) x
      have xb : Rp F3 b vb := Rp.mono (f1.trans s3.exF) y
      obtain ⟨s4, R4⟩ := R3.write h3 hp (vs' := vs.set n va) (rr.set n xa)
      refine ⟨p, vs, i, n, rfl, pint r3', hH, by rw [← rr.len]; exact h4, ?_⟩
      refine ⟨vb, [], rfl, _, hp, ?_⟩
      refine hk _ _ σ _ Sl3 R4 _ _ h5 _ fun r5 F5 H5 Sl5 s5 pu5 R5 r5' => ?_
      obtain ⟨p', ws, hp', hH5, rr5⟩ := R5.held h6
      rw [hp] at hp'
      cases hp'
      obtain ⟨s6, R6⟩ := R5.write h6 hp (vs' := ws.set m vb) (rr5.set m (Rp.mono s5.exF xb))
      exact ⟨p, ws, k, m, rfl, pint r5', hH5, by rw [← rr5.len]; exact h7, rfl, q _ _ σ _ (s2.trans (s3.trans (s4.trans (s5.trans s6)))) R6 fun _ _ => rfl⟩
/-! repr([a, b]), names that may still be changed afterwards -/
def mReprV (is : List Nat) : ME := fun env => match vws env is with
  | some ds => if reprOk (.list ds) = true ∧ deepD (.list ds) ≤ 60 ∧ (reprD (.list ds)).length ≤ sizeLine ∧ is.length ≤ 1000 then some (.val (.str (reprD (.list ds))), env) else none
  | none => none
theorem re_reprV (is : List Nat) : RE false (tCB rRepr (tCons (tLst (tVars is)) tNil)) (mReprV is) := by
  intro F H σ env Sl R p env' e Q q
  unfold mReprV at e
  split at e
  case h_2 => cases e
  rename_i ds h1
  split at e
  case isFalse => cases e
  rename_i hh
  obtain ⟨o1, o2, o3, o4⟩ := hh
  cases e
  refine tVars_len.tVars_mono (tVars_len (vws_ok R h1 (Q := fun vs H' => All2 (Rp H) ds vs ∧ H' = H) fun vs r => ⟨r, rfl⟩)) ?_
  rintro vs H1 ⟨hl1, r1, rfl⟩
  refine ⟨by rw [hl1, sizeLine_eq]; omega, fun a na => ?_⟩
  have ya : Ex H1 (upd H1 a (.lst vs)) := Ex.new na
  have R1 : REnv F (upd H1 a (.lst vs)) σ env Sl := R.grow (Ex.refl F) ya (R.ex.trans ya) fun b o z => .inl z
  exact ⟨.ref a, .list ds, rfl, rp_list.mpr ⟨a, vs, rfl, upd_same, all_mono ya r1⟩, rfl, o1, o2, o3, q _ F _ Sl (Step.grow (Ex.refl F) ya fun b o z => .inl z) (fun z => nomatch z) R1 rfl⟩
/-! ### a dict of defs at the module's top -/
/-- the keys of a written dict -/
def KKeys (K : PySem.W.Frag) (p : Addr) (ks : List Str) : Prop := ∃ (es : Array DictEntry) (n : Nat), K.lookup p = some ⟨.type "dict", none, .dict es n, #[]⟩ ∧ (p == sysModules) = false ∧ es.size ≤ sizeLine ∧ All2 (fun (e : DictEntry) (k : Str) => ∃ t, e.key = .str k t) es.toList ks
def rListK (K : PySem.W.Frag) : List V → Hp → VK → Prop := fun xs H Q => ∃ p ks, xs = [.ref p] ∧ KKeys K p ks ∧ ∀ q, H q = none → Q (.ref q) (upd H q (.lst (ks.map V.str)))
theorem cr_listK {X : Cx} (hc : X.calm = true) : CallR X (.type "list") (rListK X.K) := by
  intro pins s σ H xs us Q I r h
  obtain ⟨d, ks, rfl, ⟨es, n, hl, lo, hz, ke⟩, q⟩ := h
  obtain ⟨u, rfl, rx⟩ := r.one
  cases rx
  have ho := I.kIn d _ hl
  refine PySem.W.kdl_call (kdl_raw lo ⟨rfl, rfl, rfl⟩ rfl) (I.ok.hd hc) ho hz fun h' tk acc' c' kp e it => ?_
  have hlen : acc'.toList.length = ks.length := by rw [Array.length_toList, it.1, ← ke.len, Array.length_toList]
  have rv : Vals (ks.map V.str) acc'.toList := vals_of_at (by rw [List.length_map, hlen]) fun j x w h1 h2 => by
    obtain ⟨en, hen, rfl⟩ := it.2 j w (by rw [← Array.getElem?_toList]; exact h2)
    rw [← Array.getElem?_toList] at hen
    obtain ⟨k, hk, t, ht⟩ := ke.get hen
    rw [List.getElem?_map, hk] at h1
    cases h1
    exact ⟨t, ht⟩
  refine ⟨.ref s.heap.objs.size, _, I.laid (t' := tk) (o := .lst (ks.map V.str)) kp (Nat.le_refl _) ?_, rfl, q _ (I.hok.fresh (Nat.le_refl _))⟩
  exact ⟨by rw [List.length_map, ← ke.len, Array.length_toList]; exact hz, acc'.toList, c', rv, by rw [Array.toArray_toList]; exact e⟩
theorem listKK {X : Cx} {K : PySem.W.Frag} (hc : X.calm = true) (h : X.K = K := by rfl) : CallR X (.type "list") (rListK K) := by subst h; exact cr_listK hc
def mKeys (ks : List Str) : ML := fun env => some (ks.map .str, env)
theorem all_strs {F : Hp} : ∀ ks : List Str, All2 (Rp F) (ks.map .str) (ks.map V.str)
  | [] => .nil
  | k :: ks => .cons rfl (all_strs ks)
theorem rl_keys {K : PySem.W.Frag} {p : Addr} {ks : List Str} (h : KKeys K p ks) : RL true (tCB (rListK K) (tCons (tC (.ref p)) tNil)) (mKeys ks) := by
  intro F H σ env Sl R ds env' e Q q
  cases e
  exact ⟨p, ks, rfl, h, fun a na => q a _ F H Sl Step.refl (fun _ => ⟨rfl, Ex.refl H, rfl⟩) R (all_strs ks) na⟩
/-- of several defs that a name may hold -/
structure HeldG (P : Program) (w : World) (K : PySem.W.Frag) (mg : Str → Option Value) (base : Heap) (k : Nat) (f : Addr) (sp : Sp) : Prop where
  ex : ∃ (fd : FuncData) (ps : List Str), FnG P w K mg base k f fd ps sp ∧ PySem.W.keepIn K (.ref f) = true ∧ Binds K fd ps []
theorem pe_callAG {X : Cx} {k i : Nat} {x : Str} {p pos : Pos} {e : Expr} {es : List Expr} {t : TA} {S : Addr → Option Sp} (A : ∀ f sp, S f = some sp → HeldG X.prog X.w X.K X.mg X.base k f sp) (room : Room k X.A) (gu : X.A.guards = some []) (hN : X.N[i]? = some x) (hv : Vis X.env.scope x) (ha : PA X (e :: es) t)
    (hdb : (x == ("__debug__" : Str)) = false := by decide) (hcd : (x == ("__classdict__" : Str)) = false := by decide)
    (st : starEach (e :: es) X.env = (false, eval e X.env) :: starEach es X.env := by rfl) (pl : (backTo pos (starEach es X.env)).any (·.1) = false := by rfl) : PE X (.Call (.Name x p) (e :: es) [] pos) (tCallA i S t) := by
  refine ⟨fun pins s σ H Q I h => ?_⟩
  obtain ⟨f, sp, hs, hS, ht⟩ := h
  obtain ⟨fd, ps, F, hk, hb⟩ := (A f sp hS).ex
  refine wpAny_Call_Name_kw (thn ((pe_var (pos := p) hN hv hdb hcd).run pins s σ H (fun v H1 => v = .ref f ∧ H1 = H) I ⟨.ref f, hs, rfl, rfl⟩) fun u s1 ⟨v, H1, I1, r1, q1⟩ => ?_)
  obtain ⟨rfl, rfl⟩ := q1
  cases r1
  refine PySem.W.callWith_K (h₀ := X.base) I.ok.mod.kin hk (thn (ha.run pos pins s1 σ _ _ I1 ht) ?_) st pl
  rintro us s2 ⟨vs, H2, I2, rv, q⟩
  have len2 : us.length = ps.length := rv.length.symm.trans (F.len _ _ _ _ q)
  have hb2 := hb s2 us I2.kIn (by rw [List.append_nil]; exact len2)
  rw [List.append_nil] at hb2
  refine ⟨I2.kIn, wpAny_call (codeAny_mono (backG F room gu I2 hb2 rv q) ?_)⟩
  intro r s' z
  match r, z with
  | .ok (.ret _), z => exact z
  | .ok .next, z => exact z.elim
  | .ok .brk, z => exact z.elim
  | .ok .cont, z => exact z.elim
  | .error _, z => exact z.elim
/-- a name holds what is not told -/
theorem REnv.junk {F H : Hp} {σ : L2.St} {env : En} {Sl : Nat → Addr → Prop} {i : Nat} {v : V} (R : REnv F H σ env Sl) : REnv F H (σ.set i (some v)) (env.set i none) (lose Sl i) := by
  refine ⟨R.ex, by rw [List.length_set, List.length_set]; exact R.len, fun j u h => ?_, fun j k a x y => R.dj j k a x.2 y.2, fun j a x => R.tr j a x.2⟩
  rcases set_at h with ⟨rfl, e2, _⟩ | ⟨ne, h'⟩
  · cases e2
  · obtain ⟨v2, e2, w2⟩ := R.at_ j u h'
    refine ⟨v2, ?_, w2.sub fun a s => ⟨ne, s⟩⟩
    rw [List.getElem?_set_ne (Ne.symm ne)]
    exact e2
theorem ixdK {X : Cx} {K : PySem.W.Frag} {w : World} (h : X.K = K := by rfl) (h' : X.w = w := by rfl) : IxR X (rIxD K w) := by subst h; subst h'; exact ix_kdict
/-- f = DEFS[name]; x = f(..): x takes what it alone holds from now on -/
def mAct (i s k : Nat) (tab : List (Str × MF)) (pn : List Nat) (ma : MA) : MS := fun env => match env[s]? with
  | some (some (.fz (.str z))) => match tab.lookup z with
    | some mf => if i < env.length then match bnd ma (fun ps e => callP pn mf ps e) (env.set i none) with
      | some (o, e) => some (.nx, e.set k (some o))
      | none => none else none
    | none => none
  | _ => none
def mThen (m n : MS) : MS := mSeq m n
theorem rs_act {K : PySem.W.Frag} {w : World} {A : Addr} {S : Addr → Option Sp} {pn pm : List Nat} {pu : Bool} {ta : TA} {ma : MA} {i s k : Nat} {tab : List (Str × MF)} {t : TS} {m : MS} (h : RA pu ta ma) (h' : RS pn t m)
    (hS : ∀ z mf, tab.lookup z = some mf → ∃ f, KDct K w A z (.ref f) ∧ S f = some (spOf pm mf)) (hi : i ∉ pn := by decide) (hk : k ∉ pn := by decide) :
    RS pn (tSeq (tAsg (tOp (rIxD K w) (tC (.ref A)) (tVar s)) (gName i)) (tSeq (tAsg (tCallA i S ta) (gName k)) t)) (mThen (mAct i s k tab pm ma) m) := by
  intro F H σ env Sl R c env' e D q
  have e' : (match mAct i s k tab pm ma env with | some (.nx, e) => m e | r => r) = some (c, env') := e
  cases hm : mAct i s k tab pm ma env with
  | none => rw [hm] at e'; cases e'
  | some r =>
    obtain ⟨c1, e1⟩ := r
    have hm0 := hm
    unfold mAct at hm
    split at hm
    case h_2 => cases hm
    rename_i z hz
    split at hm
    case h_2 => cases hm
    rename_i mf htab
    split at hm
    case isFalse => cases hm
    rename_i hil
    split at hm
    case h_2 => cases hm
    rename_i o e2 hcall
    cases hm
    rw [hm0] at e'
    obtain ⟨f, kd, hSf⟩ := hS z mf htab
    obtain ⟨v, hv, w1⟩ := R.at_ s _ hz
    have w1' : Rp F (.str z) v := w1
    cases (show v = V.str z from w1')
    refine ⟨.str z, hv, A, z, .ref f, rfl, rfl, kd, ?_⟩
    obtain ⟨ps, e3, h1, h2⟩ := bnd_of hcall
    have R1 : REnv F H (σ.set i (some (.ref f))) (env.set i none) (lose Sl i) := R.junk
    have s1 : Step F H Sl F H (lose Sl i) := Step.fewer fun _ _ z => z.2
    have p1 : ∀ j, j ∈ pn → (σ.set i (some (V.ref f)))[j]? = σ[j]? := fun j z => pin_set j (by simp; intro y; exact hi (y ▸ z))
    refine ⟨f, _, by rw [List.getElem?_set_self (by rw [R.len]; exact hil)], hSf, ?_⟩
    refine h F H _ _ _ R1 ps _ h1 _ fun vs F1 H1 Sl1 s2 pu2 R2 r2 => ?_
    refine call_core R2 r2 h2 _ fun v F' H' Sl' T s3 R' n => ?_
    have n' := n.mono0 (H0 := H) fun a y => s2.tkb y
    have s4 : Step F H Sl F' H' Sl' := s1.trans (s2.trans s3)
    refine h' F' H' _ _ _ (R'.put n.own (fun j a x y => absurd y (n.dj j a x)) n.tr) c env' e' D ?_
    refine q.step (⟨s4.exF, s4.fr, s4.tk, fun j b z => z.elim (fun y => s4.own j b y.2) fun y => .inr (n'.nw b y.2), s4.fz⟩) fun j z => ?_
    exact (pin_set j (by simp; intro y; exact hk (y ▸ z))).trans (p1 j z)
end Tr
namespace Tr
open PySem PySem.Spec PyProof.Rows L2
section
variable {X : Cx} {k : Nat} {f C : Addr} {fd : FuncData} {ps : List Str} {sp : Sp} {x m : Str} {p pos apos : Pos} {o e : Expr} {es : List Expr} {t ta : TA} {te : TE} {ds : List Value} {dvs : List V}
theorem run_fnG {pins : List (Addr × Obj)} {σ : L2.St} {H : Hp} {s : Shared} {Q : VK} {us : List Value} {vs : List V} (F : FnG X.prog X.w X.K X.mg X.base k f fd ps sp) (room : Room k X.A) (gu : X.A.guards = some []) (hb : Binds X.K fd ps ds) (hd : Vals dvs ds)
    (I : Inv X pins σ H s) (r : Vals vs us) (h : sp (vs ++ dvs) H Q E0) : wpAny (model X.prog X.w) X.A (call (.ref f) us) (EP X pins σ Q) X.xe s := by
  have rv2 := Vals.append r hd
  have len2 : (us ++ ds).length = ps.length := rv2.length.symm.trans (F.len _ _ _ _ h)
  refine wpAny_call (codeAny_mono (backG F room gu I (hb s us I.kIn len2) rv2 h) ?_)
  intro r s' z
  match r, z with
  | .ok (.ret _), z => exact z
  | .ok .next, z => exact z.elim
  | .ok .brk, z => exact z.elim
  | .ok .cont, z => exact z.elim
  | .error _, z => exact z.elim
theorem pe_methG {pl : Sem Bool} (he : PE X o te) (c : Cls X.K C) (hm : Meth X.K C m f) (F : FnG X.prog X.w X.K X.mg X.base k f fd ps sp) (hr : Room k X.A) (gu : X.A.guards = some []) (hb : Binds X.K fd ps ds) (hd : Vals dvs ds) (ha : PA X (e :: es) t)
    (hst : starEach (e :: es) X.env = (false, eval e X.env) :: starEach es X.env := by rfl) (hpl : (backTo pos (starEach es X.env)).any (·.1) = false := by rfl)
    (ht : eval (.Call (.Attribute o m apos) (e :: es) [] pos) X.env = (do
      let ov ← eval o X.env
      standAt apos.atName
      let (f, first) ← holding [ov] (getMethod ov m pl)
      callWith pos f first (backTo pos (starEach (e :: es) X.env)) (backToKw pos (keywordEach [] X.env))) := by rfl) :
    PE X (.Call (.Attribute o m apos) (e :: es) [] pos) (tMeth C m sp dvs E0 te t) := by
  refine ⟨fun pins s σ H Q I h => ?_⟩
  refine PySem.W.methodCall_KW (pl := pl) (thn (he.run pins s σ H _ I h) fun u s1 ⟨x, H1, I1, rx, a, dx, fs, ex, ea, l, q⟩ => ?_) ht
  subst ex
  obtain rfl : u = Value.ref a := rx
  refine getmeth_ok I1 ea c hm l ?_
  refine PySem.W.callWith_K (first := [.ref a]) (h₀ := X.base) I.ok.mod.kin hm.kp (thn (ha.run pos pins s1 σ H1 _ I1 q) fun us s2 ⟨vs, H2, I2, r, q2⟩ => ⟨I2.kIn, ?_⟩) hst hpl
  exact run_fnG (us := .ref a :: us) (vs := .ref a :: vs) F hr gu hb hd I2 (.cons rfl r) q2
theorem pe_meth0G {pl : Sem Bool} (he : PE X o te) (c : Cls X.K C) (hm : Meth X.K C m f) (F : FnG X.prog X.w X.K X.mg X.base k f fd ps sp) (hr : Room k X.A) (gu : X.A.guards = some []) (hb : Binds X.K fd ps ds) (hd : Vals dvs ds)
    (ht : eval (.Call (.Attribute o m apos) [] [] pos) X.env = (do
      let ov ← eval o X.env
      standAt apos.atName
      let (f, first) ← holding [ov] (getMethod ov m pl)
      callWith pos f first (backTo pos (starEach [] X.env)) (backToKw pos (keywordEach [] X.env))) := by rfl) :
    PE X (.Call (.Attribute o m apos) [] [] pos) (tMeth C m sp dvs E0 te tNil) := by
  refine ⟨fun pins s σ H Q I h => ?_⟩
  refine PySem.W.methodCall_KW (pl := pl) (thn (he.run pins s σ H _ I h) fun u s1 ⟨x, H1, I1, rx, a, dx, fs, ex, ea, l, q⟩ => ?_) ht
  subst ex
  obtain rfl : u = Value.ref a := rx
  refine getmeth_ok I1 ea c hm l ?_
  exact PySem.W.callWith_K0 (first := [.ref a]) I1.kIn hm.kp (run_fnG (us := [.ref a]) (vs := [.ref a]) F hr gu hb hd I1 (.cons rfl .nil) q)
theorem under_guards (A : Around) (C : Addr) (us : List Value) : (A.under (.builtin "type.__call__" ⟨.ref C :: us, []⟩)).guards = A.guards := rfl
theorem run_makeG {pins : List (Addr × Obj)} {σ : L2.St} {H : Hp} {s : Shared} {Q : VK} {us : List Value} {vs : List V} (M : Mk X.K C f) (F : FnG X.prog X.w X.K X.mg X.base k f fd ps sp) (hr : Room (k + 1) X.A) (gu : X.A.guards = some []) (hb : Binds X.K fd ps ds) (hd : Vals dvs ds)
    (I : Inv X pins σ H s) (r : Vals vs us)
    (h : ∀ x dx, H x = none → H dx = none → dx ≠ x → sp (.ref x :: (vs ++ dvs)) (upd (upd H dx (.own x)) x (.ins C dx [])) (fun v H2 => v = .non ∧ Q (.ref x) H2) E0) :
    wpAny (model X.prog X.w) X.A (call (.ref C) us) (EP X pins σ Q) X.xe s := by
  have hq := h (s.heap.objs.size + 1) s.heap.objs.size (I.hok.fresh (Nat.le_succ _)) (I.hok.fresh (Nat.le_refl _)) (Nat.ne_of_lt (Nat.lt_succ_self _))
  have I2 := Inv.made (C := C) I
  have r2 : Vals (V.ref (s.heap.objs.size + 1) :: (vs ++ dvs)) (Value.ref (s.heap.objs.size + 1) :: (us ++ ds)) := .cons rfl (r.append hd)
  have hl : (Value.ref (s.heap.objs.size + 1) :: us ++ ds).length = ps.length := by
    have e := r2.length
    rw [F.len _ _ _ _ hq] at e
    exact e.symm
  refine wpAny_call (make_map (f := f) I.kIn M.makes M.init (beq_iff_eq.mp M.fn) (codeAny_mono (F.go _ X.stack _ _ ⟨Value.ref (s.heap.objs.size + 1) :: us, []⟩ (Value.ref (s.heap.objs.size + 1) :: (us ++ ds)) _ _ E0 (hr.make C us []) gu
    (I2.env0.make C us []) (hb _ (Value.ref (s.heap.objs.size + 1) :: us) I2.kIn hl) r2 hq) fun r s' hq' => ?_))
  match r, hq' with
  | .error _, hq' => exact hq'.elim
  | .ok (.ret u), hq' =>
    obtain ⟨v, H', I3, rv, ev, q3⟩ := I2.after hq'
    subst ev
    exact ⟨rv, ⟨V.ref (s.heap.objs.size + 1), H', I3, rfl, q3⟩⟩
  | .ok .next, hq' => exact hq'.elim
  | .ok .brk, hq' => exact hq'.elim
  | .ok .cont, hq' => exact hq'.elim
theorem pe_makeG (M : Mk X.K C f) (F : FnG X.prog X.w X.K X.mg X.base k f fd ps sp) (hr : Room (k + 1) X.A) (gu : X.A.guards = some []) (hg : Gl X x) (hm : X.mg x = some (.ref C)) (hb : Binds X.K fd ps ds) (hd : Vals dvs ds)
    (ha : PA X (e :: es) t) (hdb : (x == ("__debug__" : Str)) = false := by decide) (he : starEach (e :: es) X.env = (false, eval e X.env) :: starEach es X.env := by rfl) (hpl : (backTo pos (starEach es X.env)).any (·.1) = false := by rfl) :
    PE X (.Call (.Name x p) (e :: es) [] pos) (tMake C sp dvs E0 t) := by
  refine ⟨fun pins s σ H Q I h => ?_⟩
  refine wpAny_Call_Name_kw (ld_glob I hg hm ?_ hdb)
  refine PySem.W.callWith_K (h₀ := X.base) I.ok.mod.kin M.kp (thn (ha.run pos pins s σ H _ I h) fun us s1 ⟨vs, H1, I1, r, q⟩ => ⟨I1.kIn, ?_⟩) he hpl
  exact run_makeG M F hr gu hb hd I1 r q
end
theorem pe_callG0 {X : Cx} {k : Nat} {f : Addr} {fd : FuncData} {ps : List Str} {sp : Sp} {x : Str} {p pos : Pos} {ds : List Value} {dvs : List V} (F : FnG X.prog X.w X.K X.mg X.base k f fd ps sp) (hr : Room k X.A) (gu : X.A.guards = some []) (hg : Gl X x) (hm : X.mg x = some (.ref f)) (hk : PySem.W.keepIn X.K (.ref f) = true) (hb : Binds X.K fd ps ds) (hd : Vals dvs ds)
    (hdb : (x == ("__debug__" : Str)) = false := by decide) : PE X (.Call (.Name x p) [] [] pos) (tCall sp dvs E0 tNil) := by
  refine ⟨fun pins s σ H Q I h => ?_⟩
  refine wpAny_Call_Name_kw (ld_glob I hg hm ?_ hdb)
  exact PySem.W.callWith_K0 I.kIn hk (run_fnG (us := []) (vs := []) F hr gu hb hd I .nil h)
section
variable {X : Cx} {K : PySem.W.Frag} {e o : Expr} {f : Str} {pos pos' : Pos} {te tv : TE} {value : Expr}
theorem pe_fldK (he : PE X e te) (hb : attributeBase e f X.env (eval e X.env) = eval e X.env) (h : X.K = K := by rfl) : PE X (.Attribute e f pos) (tFld K te f) := by subst h; exact pe_fld he hb
theorem ps_fldK (ha : PE X o te) (hv : PE X value tv) (hs : swapsWith value (some (.Attribute o f pos')) pos.line X.env = pure false) (h : X.K = K := by rfl) : PS X (.Assign [.Attribute o f pos'] value pos) (sFld K te tv f) := by subst h; exact ps_fld ha hv hs
end
end Tr
namespace Tr
open PySem PySem.Spec PyProof.Rows L2
/-! ### typed: plain functions over typed values that the functions over trees keep to -/
/-- where t gives b, m gives av b and leaves st b -/
def XV {α β : Type} (m : En → Option (α × En)) (env : En) (t : Option β) (av : β → α) (st : β → En) : Prop := ∀ b, t = some b → m env = some (av b, st b)
section
variable {α β γ δ : Type} {env : En} {m : En → Option (α × En)} {k : α → En → Option (γ × En)}
theorem xv_PV {a : α} {t : Option β} {cv : β → γ} {st : β → En} (h : m env = some (a, env)) (hk : XV (k a) env t cv st) : XV (bnd m k) env t cv st := fun b hb => (bnd_eq h).trans (hk b hb)
theorem xv_PV' {a : α} {e2 : En} {t : Option β} {cv : β → γ} {st : β → En} (h : m env = some (a, e2)) (hk : XV (k a) e2 t cv st) : XV (bnd m k) env t cv st := fun b hb => (bnd_eq h).trans (hk b hb)
theorem xv_VP {t : Option β} {av : β → α} {st : β → En} {cv : β → γ} {st2 : β → En} (h : XV m env t av st) (hk : ∀ b, k (av b) (st b) = some (cv b, st2 b)) : XV (bnd m k) env t cv st2 := fun b hb => (bnd_eq (h b hb)).trans (hk b)
theorem xv_VV {t : Option β} {av : β → α} {st : β → En} {t2 : β → Option δ} {cv : β × δ → γ} {st2 : β × δ → En} (h : XV m env t av st) (hk : ∀ b, XV (k (av b)) (st b) (t2 b) (fun c => cv (b, c)) (fun c => st2 (b, c))) :
    XV (bnd m k) env (t.bind fun b => (t2 b).map fun c => (b, c)) cv st2 := fun p hp => by
  cases ht : t with
  | none => rw [ht] at hp; cases hp
  | some b =>
    rw [ht] at hp
    cases h2 : t2 b with
    | none =>
      have hp' : (t2 b).map (fun c => (b, c)) = some p := hp
      rw [h2] at hp'
      cases hp'
    | some c =>
      have hp' : (t2 b).map (fun c => (b, c)) = some p := hp
      rw [h2] at hp'
      cases hp'
      exact (bnd_eq (h b ht)).trans (hk b c h2)
/-- told in other words -/
theorem xv_map {t : Option β} {f : β → δ} {av : δ → α} {st : δ → En} (h : XV m env t (fun b => av (f b)) (fun b => st (f b))) : XV m env (t.map f) av st := fun d hd => by
  cases ht : t with
  | none => rw [ht] at hd; cases hd
  | some b => rw [ht] at hd; cases hd; exact h b ht
theorem xv_use {t : Option β} {av : β → α} {st : β → En} {b : β} (h : XV m env t av st) (hr : t = some b) : m env = some (av b, st b) := h b hr
theorem xv_ite {c : Prop} [Decidable c] {ta tb : Option β} {av : β → α} {st : β → En} (h1 : c → XV m env ta av st) (h2 : ¬c → XV m env tb av st) : XV m env (if c then ta else tb) av st := by
  by_cases h : c
  · rw [if_pos h]; exact h1 h
  · rw [if_neg h]; exact h2 h
theorem xv_none {av : β → α} {st : β → En} : XV m env none av st := fun _ h => nomatch h
theorem xv_some {av : β → α} {st : β → En} {b : β} (h : m env = some (av b, st b)) : XV m env (some b) av st := fun c hc => by cases hc; exact h
theorem xv_eq {t t' : Option β} {av : β → α} {st : β → En} (h : XV m env t av st) (e : t' = t) : XV m env t' av st := e ▸ h
end
/-! ### operators that may fail -/
def modI (i j : Int) : Option Int := if j = 0 then none else some (i.fmod j)
def fdivI (i j : Int) : Option Int := if j ≠ 0 ∧ j.natAbs < 1073741824 then some (i.fdiv j) else none
def mulI (i j : Int) : Option Int := if i.natAbs.log2 + j.natAbs.log2 < 1000000 then some (i * j) else none
def powI (i j : Int) : Option Int := if 0 ≤ j ∧ (Builtin.Int.intBits i : Int) * j ≤ 2 ^ 27 then some (i ^ j.toNat) else none
section
variable {env : En}
theorem xo_mod {i j : Int} : XV (fun e => (gMod e (.val (.int i)) (.val (.int j))).map fun r => (r, e)) env (modI i j) (fun r => .val (.int r)) (fun _ => env) := fun b hb => by
  unfold modI at hb
  split at hb
  · cases hb
  · rename_i h
    cases hb
    simp only [gMod, gI, decide_eq_true h, if_true]
    rfl
theorem xo_fdiv {i j : Int} : XV (fun e => (gFdiv e (.val (.int i)) (.val (.int j))).map fun r => (r, e)) env (fdivI i j) (fun r => .val (.int r)) (fun _ => env) := fun b hb => by
  unfold fdivI at hb
  split at hb
  · rename_i h
    cases hb
    simp only [gFdiv, gI, decide_eq_true h, if_true]
    rfl
  · cases hb
theorem xo_mul {i j : Int} : XV (fun e => (gMul e (.val (.int i)) (.val (.int j))).map fun r => (r, e)) env (mulI i j) (fun r => .val (.int r)) (fun _ => env) := fun b hb => by
  unfold mulI at hb
  split at hb
  · rename_i h
    cases hb
    simp only [gMul, gI, decide_eq_true h, if_true]
    rfl
  · cases hb
theorem xo_pow {i j : Int} : XV (fun e => (gPow e (.val (.int i)) (.val (.int j))).map fun r => (r, e)) env (powI i j) (fun r => .val (.int r)) (fun _ => env) := fun b hb => by
  unfold powI at hb
  split at hb
  · rename_i h
    cases hb
    simp only [gPow, gI, decide_eq_true h, if_true]
    rfl
  · cases hb
theorem atI_map {α : Type} {en : α → PyData} {xs : List α} {i : Int} : atI (xs.map en) i = (atI xs i).map en := by
  unfold atI
  rw [List.length_map]
  cases ixN xs.length i with
  | none => rfl
  | some k => exact List.getElem?_map ..
/-- xs[i] -/
theorem xo_ix {α : Type} {en : α → PyData} {xs : List α} {p : P} {i : Int} (hs : sqT env p = some (xs.map en)) : XV (fun e => (gIx e p (.val (.int i))).map fun r => (r, e)) env (atI xs i) (fun a => .val (en a)) (fun _ => env) := fun a ha => by
  have h : gIx env p (.val (.int i)) = (sqT env p).bind fun ds => (atI ds i).map .val := by
    unfold gIx
    split
    · cases hs
    · rename_i h; cases h; rfl
    · rename_i h1 h2; first | exact absurd rfl (h1 i) | exact absurd rfl (h1 _ i) | exact absurd rfl (h2 i) | exact absurd rfl (h2 _ i) | (exfalso; simp_all)
  show (gIx env p (.val (.int i))).map _ = _
  rw [h, hs, Option.bind_some, atI_map, ha]
  rfl
end
/-! ### typed values as data -/
def encI (i : Int) : PyData := .int i
def encB (b : Bool) : PyData := .bool b
def encS (s : Str) : PyData := .str s
def encN (_ : Unit) : PyData := .none
def encD (d : PyData) : PyData := d
def encL {α : Type} (en : α → PyData) (xs : List α) : PyData := .list (xs.map en)
def encT {α β : Type} (ea : α → PyData) (eb : β → PyData) (p : α × β) : PyData := .tuple [ea p.1, eb p.2]
def encT3 {α β γ : Type} (ea : α → PyData) (eb : β → PyData) (ec : γ → PyData) (p : α × β × γ) : PyData := .tuple [ea p.1, eb p.2.1, ec p.2.2]
def encO {α : Type} (en : α → PyData) : Option α → PyData
  | none => .none
  | some a => en a
/-- lists of unlike things -/
def encH2 {α β : Type} (ea : α → PyData) (eb : β → PyData) (p : α × β) : PyData := .list [ea p.1, eb p.2]
def encH3 {α β γ : Type} (ea : α → PyData) (eb : β → PyData) (ec : γ → PyData) (p : α × β × γ) : PyData := .list [ea p.1, eb p.2.1, ec p.2.2]
/-! ### equal -/
/-- == of such data is equality, and it may be asked -/
structure EncOk {α : Type} (en : α → PyData) (n : Nat) : Prop where
  eq : ∀ a b, PyData.eqv (en a) (en b) = true ↔ a = b
  can : ∀ a, (en a).canLay0 = true
  dep : ∀ a, (en a).depth ≤ n
theorem eo_I : EncOk encI 0 := ⟨fun a b => by simp [encI, PyData.eqv], fun _ => rfl, fun _ => Nat.le_refl _⟩
theorem eo_B : EncOk encB 0 := ⟨fun a b => by simp [encB, PyData.eqv], fun _ => rfl, fun _ => Nat.le_refl _⟩
theorem eo_N : EncOk encN 0 := ⟨fun a b => by simp [encN, PyData.eqv], fun _ => rfl, fun _ => Nat.le_refl _⟩
theorem eqvAll_map {α : Type} {en : α → PyData} (h : ∀ a b, PyData.eqv (en a) (en b) = true ↔ a = b) : ∀ xs ys : List α, PyData.eqvAll (xs.map en) (ys.map en) = true ↔ xs = ys
  | [], [] => by simp [PyData.eqvAll]
  | [], _ :: _ => by simp [PyData.eqvAll]
  | _ :: _, [] => by simp [PyData.eqvAll]
  | x :: xs, y :: ys => by
    show (PyData.eqv (en x) (en y) && PyData.eqvAll (xs.map en) (ys.map en)) = true ↔ _
    rw [Bool.and_eq_true, h, eqvAll_map h, List.cons.injEq]
theorem canAll_map {α : Type} {en : α → PyData} (h : ∀ a, (en a).canLay0 = true) : ∀ xs : List α, PyData.canLayAll0 (xs.map en) = true
  | [] => rfl
  | x :: xs => by
    show ((en x).canLay0 && PyData.canLayAll0 (xs.map en)) = true
    rw [h, canAll_map h]; rfl
theorem depAll_map {α : Type} {en : α → PyData} {n : Nat} (h : ∀ a, (en a).depth ≤ n) : ∀ xs : List α, PyData.depthAll (xs.map en) ≤ n
  | [] => Nat.zero_le _
  | x :: xs => by
    show max (en x).depth (PyData.depthAll (xs.map en)) ≤ n
    exact Nat.max_le.mpr ⟨h x, depAll_map h xs⟩
theorem eo_L {α : Type} {en : α → PyData} {n : Nat} (h : EncOk en n) : EncOk (encL en) (n + 1) := ⟨fun a b => eqvAll_map h.eq a b, fun a => canAll_map h.can a, fun a => Nat.succ_le_succ (depAll_map h.dep a)⟩
theorem eo_T {α β : Type} {ea : α → PyData} {eb : β → PyData} {n m : Nat} (h : EncOk ea n) (h' : EncOk eb m) : EncOk (encT ea eb) (max n m + 1) := by
  refine ⟨fun a b => ?_, fun a => ?_, fun a => ?_⟩
  · show (PyData.eqv (ea a.1) (ea b.1) && (PyData.eqv (eb a.2) (eb b.2) && true)) = true ↔ _
    rw [Bool.and_eq_true, Bool.and_true, h.eq, h'.eq, Prod.ext_iff]
  · show ((ea a.1).canLay0 && ((eb a.2).canLay0 && true)) = true
    rw [h.can, h'.can]; rfl
  · show max (ea a.1).depth (max (eb a.2).depth 0) + 1 ≤ _
    have := h.dep a.1
    have := h'.dep a.2
    omega
theorem eo_T3 {α β γ : Type} {ea : α → PyData} {eb : β → PyData} {ec : γ → PyData} {n m k : Nat} (h : EncOk ea n) (h' : EncOk eb m) (h'' : EncOk ec k) : EncOk (encT3 ea eb ec) (max n (max m k) + 1) := by
  refine ⟨fun a b => ?_, fun a => ?_, fun a => ?_⟩
  · show (PyData.eqv (ea a.1) (ea b.1) && (PyData.eqv (eb a.2.1) (eb b.2.1) && (PyData.eqv (ec a.2.2) (ec b.2.2) && true))) = true ↔ _
    rw [Bool.and_eq_true, Bool.and_eq_true, Bool.and_true, h.eq, h'.eq, h''.eq, Prod.ext_iff, Prod.ext_iff]
  · show ((ea a.1).canLay0 && ((eb a.2.1).canLay0 && ((ec a.2.2).canLay0 && true))) = true
    rw [h.can, h'.can, h''.can]; rfl
  · show max (ea a.1).depth (max (eb a.2.1).depth (max (ec a.2.2).depth 0)) + 1 ≤ _
    have := h.dep a.1
    have := h'.dep a.2.1
    have := h''.dep a.2.2
    omega
theorem shaped_enc {α : Type} {en : α → PyData} {n : Nat} (h : EncOk en n) (hn : n ≤ 64) (a : α) : SeqAt.shaped (en a) = true := by
  unfold SeqAt.shaped
  rw [h.can, Bool.true_and]
  exact decide_eq_true (Nat.le_trans (h.dep a) hn)
section
variable {env : En}
def sg : Bool → Bool → Bool | true, b => !b | false, b => b
theorem sg_xor {n b : Bool} : sg n b = (n ^^ b) := by cases n <;> cases b <;> rfl
theorem oe_eq0 {α : Type} [DecidableEq α] {en : α → PyData} {n : Nat} {neg : Bool} {p q : P} {a b : α} (h : EncOk en n) (hp : vw env p = some (en a)) (hq : vw env q = some (en b)) (hn : n ≤ 64 := by decide) : (gEq neg env p q).map (fun r => (r, env)) = some (.val (.bool (neg ^^ decide (a = b))), env) := by
  unfold gEq
  rw [hp, hq]
  simp only [shaped_enc h hn, Bool.and_self, if_true]
  rw [show PyData.eqv (en a) (en b) = decide (a = b) from by rw [Bool.eq_iff_iff, h.eq, decide_eq_true_eq]]
  rfl
theorem oe_eq {α : Type} [DecidableEq α] {en : α → PyData} {n : Nat} {neg : Bool} {p q : P} {a b : α} (h : EncOk en n) (hp : vw env p = some (en a)) (hq : vw env q = some (en b)) (hn : n ≤ 64 := by decide) : (gEq neg env p q).map (fun r => (r, env)) = some (.val (.bool (sg neg (decide (a = b)))), env) := by
  have h0 := oe_eq0 (neg := neg) h hp hq hn
  simp only [sg_xor]
  exact h0
/-- texts -/
def eqS (x y : Str) : Option Bool := if SeqAt.shaped (.str x) = true ∧ SeqAt.shaped (.str y) = true then some (x == y) else none
theorem xo_eqS0 {neg : Bool} {p q : P} {a b : Str} (hp : vw env p = some (.str a)) (hq : vw env q = some (.str b)) : XV (fun e => (gEq neg e p q).map fun r => (r, e)) env (eqS a b) (fun c => .val (.bool (neg ^^ c))) (fun _ => env) := fun c hc => by
  unfold eqS at hc
  split at hc
  · rename_i h
    cases hc
    show (gEq neg env p q).map _ = _
    unfold gEq
    rw [hp, hq]
    simp only [h.1, h.2, Bool.and_self, if_true]
    rfl
  · cases hc
theorem xo_eqS {neg : Bool} {p q : P} {a b : Str} (hp : vw env p = some (.str a)) (hq : vw env q = some (.str b)) : XV (fun e => (gEq neg e p q).map fun r => (r, e)) env (eqS a b) (fun c => .val (.bool (sg neg (c)))) (fun _ => env) := by
  have h0 := xo_eqS0 (neg := neg) hp hq
  simp only [sg_xor]
  exact h0
/-- two things of any kind -/
def eqD (d e : PyData) : Option Bool := if SeqAt.shaped d = true ∧ SeqAt.shaped e = true then some (PyData.eqv d e) else none
theorem xo_eqD0 {neg : Bool} {p q : P} {a b : PyData} (hp : vw env p = some a) (hq : vw env q = some b) : XV (fun e => (gEq neg e p q).map fun r => (r, e)) env (eqD a b) (fun c => .val (.bool (neg ^^ c))) (fun _ => env) := fun c hc => by
  unfold eqD at hc
  split at hc
  · rename_i h
    cases hc
    show (gEq neg env p q).map _ = _
    unfold gEq
    rw [hp, hq]
    simp only [h.1, h.2, Bool.and_self, if_true]
    rfl
  · cases hc
theorem xo_eqD {neg : Bool} {p q : P} {a b : PyData} (hp : vw env p = some a) (hq : vw env q = some b) : XV (fun e => (gEq neg e p q).map fun r => (r, e)) env (eqD a b) (fun c => .val (.bool (sg neg (c)))) (fun _ => env) := by
  have h0 := xo_eqD0 (neg := neg) hp hq
  simp only [sg_xor]
  exact h0
theorem flat_I {xs : List Int} : (xs.map encI).all flat = true := by
  rw [List.all_eq_true]
  intro d hd
  obtain ⟨x, _, rfl⟩ := List.mem_map.mp hd
  rfl
theorem oe_inI0 {neg : Bool} {p : P} {x : Int} {xs : List Int} (hs : sqT env p = some (xs.map encI)) : (gIn neg env (.val (.int x)) p).map (fun r => (r, env)) = some (.val (.bool (neg ^^ decide (x ∈ xs))), env) := by
  unfold gIn
  simp only [hs]
  rw [if_pos (by rw [flat_I]; rfl)]
  rw [show ((xs.map encI).any fun y => PyData.eqv y (.int x)) = decide (x ∈ xs) from by
    rw [Bool.eq_iff_iff, List.any_eq_true, decide_eq_true_eq]
    constructor
    · rintro ⟨d, hd, h⟩
      obtain ⟨y, hy, rfl⟩ := List.mem_map.mp hd
      rw [← (eo_I.eq y x).mp h]; exact hy
    · intro h
      exact ⟨_, List.mem_map.mpr ⟨x, h, rfl⟩, (eo_I.eq x x).mpr rfl⟩]
  rfl
theorem oe_inI {neg : Bool} {p : P} {x : Int} {xs : List Int} (hs : sqT env p = some (xs.map encI)) : (gIn neg env (.val (.int x)) p).map (fun r => (r, env)) = some (.val (.bool (sg neg (decide (x ∈ xs)))), env) := by
  have h0 := oe_inI0 (neg := neg) (x := x) hs
  simp only [sg_xor]
  exact h0
theorem flat_S {xs : List Str} : (xs.map encS).all flat = true := by
  rw [List.all_eq_true]
  intro d hd
  obtain ⟨x, _, rfl⟩ := List.mem_map.mp hd
  rfl
theorem oe_inS0 {neg : Bool} {p : P} {x : Str} {xs : List Str} (hs : sqT env p = some (xs.map encS)) : (gIn neg env (.val (.str x)) p).map (fun r => (r, env)) = some (.val (.bool (neg ^^ decide (x ∈ xs))), env) := by
  unfold gIn
  simp only [hs]
  rw [if_pos (by rw [flat_S]; rfl)]
  rw [show ((xs.map encS).any fun y => PyData.eqv y (.str x)) = decide (x ∈ xs) from by
    rw [Bool.eq_iff_iff, List.any_eq_true, decide_eq_true_eq]
    constructor
    · rintro ⟨d, hd, h⟩
      obtain ⟨y, hy, rfl⟩ := List.mem_map.mp hd
      have : y = x := by simpa [encS, PyData.eqv] using h
      rw [← this]; exact hy
    · intro h
      exact ⟨_, List.mem_map.mpr ⟨x, h, rfl⟩, by simp [encS, PyData.eqv]⟩]
  rfl
theorem oe_inS {neg : Bool} {p : P} {x : Str} {xs : List Str} (hs : sqT env p = some (xs.map encS)) : (gIn neg env (.val (.str x)) p).map (fun r => (r, env)) = some (.val (.bool (sg neg (decide (x ∈ xs)))), env) := by
  have h0 := oe_inS0 (neg := neg) (x := x) hs
  simp only [sg_xor]
  exact h0
theorem oe_isN0 {α : Type} {en : α → PyData} {neg : Bool} {o : Option α} (h : ∀ a, isN (en a) = false) : (gIsN neg env (.val (encO en o)) (.val .none)).map (fun r => (r, env)) = some (.val (.bool (neg ^^ o.isNone)), env) := by
  cases o with
  | none => rfl
  | some a =>
    show (some (P.val (.bool (neg ^^ isN (en a))))).map _ = _
    rw [h]
    rfl
theorem oe_isN {α : Type} {en : α → PyData} {neg : Bool} {o : Option α} (h : ∀ a, isN (en a) = false) : (gIsN neg env (.val (encO en o)) (.val .none)).map (fun r => (r, env)) = some (.val (.bool (sg neg (o.isNone))), env) := by
  have h0 := oe_isN0 (neg := neg) (env := env) (o := o) h
  simp only [sg_xor]
  exact h0
theorem oe_len {α : Type} {en : α → PyData} {p : P} {xs : List α} (hp : vw env p = some (.list (xs.map en))) : (gLen env [p]).map (fun r => (r, env)) = some (.val (.int (xs.length : Nat)), env) := by
  unfold gLen
  simp only [hp, List.length_map]
  rfl
theorem oe_chain {i j k : Int} {f g : Int → Int → Bool} {ma mb mc : ME} (h1 : ma env = some (.val (.int i), env)) (h2 : mb env = some (.val (.int j), env)) (h3 : mc env = some (.val (.int k), env)) :
    mChain (gI0 fun i j => .bool (f i j)) (gI0 fun i j => .bool (g i j)) ma mb mc env = some (.val (.bool (f i j && g j k)), env) := by
  unfold mChain bnd
  simp only [h1, h2, gI0]
  cases h : f i j with
  | true => simp only [h3]; rfl
  | false => rfl
theorem oe_and {m n : MT} {c d : Bool} (h : m env = some (c, env)) (h' : n env = some (d, env)) : mAnd m n env = some (c && d, env) := by
  unfold mAnd bnd
  simp only [h]
  cases c with
  | true => exact h'
  | false => rfl
theorem oe_or {m n : MT} {c d : Bool} (h : m env = some (c, env)) (h' : n env = some (d, env)) : mOr m n env = some (c || d, env) := by
  unfold mOr bnd
  simp only [h]
  cases c with
  | true => rfl
  | false => exact h'
theorem oe_not {m : MT} {c : Bool} {e : En} (h : m env = some (c, e)) : mNot m env = some (!c, e) := by
  unfold mNot bnd
  simp only [h]
theorem xv_not {m : MT} {β : Type} {t : Option β} {av : β → Bool} {st : β → En} (h : XV m env t av st) : XV (mNot m) env t (fun b => !av b) st := fun b hb => oe_not (h b hb)
/-- the second part is only asked where the first holds; s: what may have changed -/
theorem xv_andP {σ : Type} {m n : MT} {c : Bool} {t : Option (Bool × σ)} {s : σ} {E : σ → En} (h : m (E s) = some (c, E s)) (h' : XV n (E s) t (fun p => p.1) (fun p => E p.2)) : XV (mAnd m n) (E s) (if c = true then t else some (false, s)) (fun p => p.1) (fun p => E p.2) := fun p hp => by
  unfold mAnd bnd
  simp only [h]
  cases c with
  | true => exact h' p hp
  | false => cases hp; rfl
theorem xv_orP {σ : Type} {m n : MT} {c : Bool} {t : Option (Bool × σ)} {s : σ} {E : σ → En} (h : m (E s) = some (c, E s)) (h' : XV n (E s) t (fun p => p.1) (fun p => E p.2)) : XV (mOr m n) (E s) (if c = true then some (true, s) else t) (fun p => p.1) (fun p => E p.2) := fun p hp => by
  unfold mOr bnd
  simp only [h]
  cases c with
  | true => cases hp; rfl
  | false => exact h' p hp
theorem xv_andV {σ : Type} {m n : MT} {t : Option (Bool × σ)} {t2 : σ → Option (Bool × σ)} {E : σ → En} (h : XV m env t (fun p => p.1) (fun p => E p.2)) (h' : ∀ s, XV n (E s) (t2 s) (fun p => p.1) (fun p => E p.2)) : XV (mAnd m n) env (t.bind fun p => if p.1 = true then t2 p.2 else some (false, p.2)) (fun p => p.1) (fun p => E p.2) := fun p hp => by
  cases ht : t with
  | none => rw [ht] at hp; cases hp
  | some q =>
    rw [ht] at hp
    obtain ⟨c, s⟩ := q
    unfold mAnd bnd
    simp only [h _ ht]
    cases c with
    | true => exact h' s p hp
    | false => cases hp; rfl
theorem xv_orV {σ : Type} {m n : MT} {t : Option (Bool × σ)} {t2 : σ → Option (Bool × σ)} {E : σ → En} (h : XV m env t (fun p => p.1) (fun p => E p.2)) (h' : ∀ s, XV n (E s) (t2 s) (fun p => p.1) (fun p => E p.2)) : XV (mOr m n) env (t.bind fun p => if p.1 = true then some (true, p.2) else t2 p.2) (fun p => p.1) (fun p => E p.2) := fun p hp => by
  cases ht : t with
  | none => rw [ht] at hp; cases hp
  | some q =>
    rw [ht] at hp
    obtain ⟨c, s⟩ := q
    unfold mOr bnd
    simp only [h _ ht]
    cases c with
    | true => cases hp; rfl
    | false => exact h' s p hp
theorem oe_andV {ma mb : ME} {c d : Bool} (h : ma env = some (.val (.bool c), env)) (h' : mb env = some (.val (.bool d), env)) : mAndV ma mb env = some (.val (.bool (c && d)), env) := by
  unfold mAndV mT bnd
  simp only [h, gB, Option.map_some]
  cases c with
  | true => exact h'
  | false => rfl
theorem oe_orV {ma mb : ME} {c d : Bool} (h : ma env = some (.val (.bool c), env)) (h' : mb env = some (.val (.bool d), env)) : mOrV ma mb env = some (.val (.bool (c || d)), env) := by
  unfold mOrV mT bnd
  simp only [h, gB, Option.map_some]
  cases c with
  | true => rfl
  | false => exact h'
theorem xv_andVP {σ : Type} {ma mb : ME} {c : Bool} {t : Option (Bool × σ)} {s : σ} {E : σ → En} (h : ma (E s) = some (.val (.bool c), E s)) (h' : XV mb (E s) t (fun p => .val (.bool p.1)) (fun p => E p.2)) : XV (mAndV ma mb) (E s) (if c = true then t else some (false, s)) (fun p => .val (.bool p.1)) (fun p => E p.2) := fun p hp => by
  unfold mAndV mT bnd
  simp only [h, gB, Option.map_some]
  cases c with
  | true => exact h' p hp
  | false => cases hp; rfl
theorem xv_orVP {σ : Type} {ma mb : ME} {c : Bool} {t : Option (Bool × σ)} {s : σ} {E : σ → En} (h : ma (E s) = some (.val (.bool c), E s)) (h' : XV mb (E s) t (fun p => .val (.bool p.1)) (fun p => E p.2)) : XV (mOrV ma mb) (E s) (if c = true then some (true, s) else t) (fun p => .val (.bool p.1)) (fun p => E p.2) := fun p hp => by
  unfold mOrV mT bnd
  simp only [h, gB, Option.map_some]
  cases c with
  | true => cases hp; rfl
  | false => exact h' p hp
theorem xv_andVV {σ : Type} {ma mb : ME} {t : Option (Bool × σ)} {t2 : σ → Option (Bool × σ)} {E : σ → En} (h : XV ma env t (fun p => .val (.bool p.1)) (fun p => E p.2)) (h' : ∀ s, XV mb (E s) (t2 s) (fun p => .val (.bool p.1)) (fun p => E p.2)) : XV (mAndV ma mb) env (t.bind fun p => if p.1 = true then t2 p.2 else some (false, p.2)) (fun p => .val (.bool p.1)) (fun p => E p.2) := fun p hp => by
  cases ht : t with
  | none => rw [ht] at hp; cases hp
  | some q =>
    rw [ht] at hp
    obtain ⟨c, s⟩ := q
    unfold mAndV mT bnd
    simp only [h _ ht, gB, Option.map_some]
    cases c with
    | true => exact h' s p hp
    | false => cases hp; rfl
theorem xv_orVV {σ : Type} {ma mb : ME} {t : Option (Bool × σ)} {t2 : σ → Option (Bool × σ)} {E : σ → En} (h : XV ma env t (fun p => .val (.bool p.1)) (fun p => E p.2)) (h' : ∀ s, XV mb (E s) (t2 s) (fun p => .val (.bool p.1)) (fun p => E p.2)) : XV (mOrV ma mb) env (t.bind fun p => if p.1 = true then some (true, p.2) else t2 p.2) (fun p => .val (.bool p.1)) (fun p => E p.2) := fun p hp => by
  cases ht : t with
  | none => rw [ht] at hp; cases hp
  | some q =>
    rw [ht] at hp
    obtain ⟨c, s⟩ := q
    unfold mOrV mT bnd
    simp only [h _ ht, gB, Option.map_some]
    cases c with
    | true => cases hp; rfl
    | false => exact h' s p hp
/-- a if c else b: of one kind of thing -/
theorem oe_if {α τ : Type} {m : MT} {ma mb : En → Option (α × En)} {c : Bool} {f : τ → α} {x y : τ} (h : m env = some (c, env)) (ha : ma env = some (f x, env)) (hb : mb env = some (f y, env)) : mIf m ma mb env = some (f (if c = true then x else y), env) := by
  unfold mIf bnd
  simp only [h]
  cases c with
  | true => exact ha
  | false => exact hb
theorem xv_ifP {α β : Type} {m : MT} {ma mb : En → Option (α × En)} {c : Bool} {av : β → α} {st : β → En} {ta tb : Option β} {e : En} (h : m env = some (c, e)) (ha : XV ma e ta av st) (hb : XV mb e tb av st) : XV (mIf m ma mb) env (if c = true then ta else tb) av st := fun p hp => by
  unfold mIf bnd
  simp only [h]
  cases c with
  | true => exact ha p hp
  | false => exact hb p hp
theorem xv_ifV {α β δ : Type} {m : MT} {ma mb : En → Option (α × En)} {t : Option δ} {cv : δ → Bool} {sc : δ → En} {av : β → α} {st : β → En} {ta tb : δ → Option β} (h : XV m env t cv sc) (ha : ∀ d, XV ma (sc d) (ta d) av st) (hb : ∀ d, XV mb (sc d) (tb d) av st) : XV (mIf m ma mb) env (t.bind fun d => if cv d = true then ta d else tb d) av st := fun p hp => by
  cases ht : t with
  | none => rw [ht] at hp; cases hp
  | some d =>
    rw [ht] at hp
    have hp' : (if cv d = true then ta d else tb d) = some p := hp
    unfold mIf bnd
    simp only [h d ht]
    cases hc : cv d with
    | true => rw [hc] at hp'; exact ha d p hp'
    | false => rw [hc] at hp'; exact hb d p hp'
/-! ### lists -/
def cutG {α : Type} (xs : List α) (lo hi : Option Int) : List α := (xs.drop (HT.sIx xs.length 0 lo)).take (HT.sIx xs.length xs.length hi - HT.sIx xs.length 0 lo)
theorem cut_map {α : Type} {en : α → PyData} {xs : List α} {lo hi : Option Int} : cutD (xs.map en) lo hi = (cutG xs lo hi).map en := by
  unfold cutD cutG
  rw [List.length_map, List.map_take, List.map_drop]
theorem oe_cut {α : Type} {en : α → PyData} {xs : List α} {p : P} {lo hi : Option Int} (hs : sq env p = some (xs.map en)) : (sq env p).map (fun ds => (cutD ds lo hi, env)) = some ((cutG xs lo hi).map en, env) := by
  rw [hs]
  show some (cutD (xs.map en) lo hi, env) = _
  rw [cut_map]
def catG {α : Type} (xs ys : List α) : Option (List α) := if xs.length + ys.length ≤ sizeLine then some (xs ++ ys) else none
theorem xo_cat {α : Type} {en : α → PyData} {xs ys : List α} {p q : P} (hp : sq env p = some (xs.map en)) (hq : sq env q = some (ys.map en)) : XV (fun e => (gCat e p q).map fun r => (r, e)) env (catG xs ys) (fun r => r.map en) (fun _ => env) := fun r hr => by
  unfold catG at hr
  split at hr
  · rename_i h
    cases hr
    show (gCat env p q).map _ = _
    unfold gCat
    simp only [hp, hq, List.length_map]
    rw [if_pos h, List.map_append]
    rfl
  · cases hr
def repG {α : Type} (xs : List α) (k : Int) : Option (List α) := if -(2 ^ 63) ≤ k ∧ k < 2 ^ 63 ∧ xs.length * k.toNat ≤ sizeLine then some (List.replicate k.toNat xs).flatten else none
theorem rep_map {α : Type} {en : α → PyData} {xs : List α} : ∀ n : Nat, (List.replicate n (xs.map en)).flatten = ((List.replicate n xs).flatten).map en
  | 0 => rfl
  | n + 1 => by rw [List.replicate_succ, List.replicate_succ, List.flatten_cons, List.flatten_cons, List.map_append, rep_map n]
theorem xo_rep {α : Type} {en : α → PyData} {xs : List α} {p : P} {k : Int} (hp : sq env p = some (xs.map en)) : XV (fun e => (gRep e p (.val (.int k))).map fun r => (r, e)) env (repG xs k) (fun r => r.map en) (fun _ => env) := fun r hr => by
  unfold repG at hr
  split at hr
  · rename_i h
    cases hr
    show (gRep env p (.val (.int k))).map _ = _
    unfold gRep
    simp only [hp, List.length_map]
    rw [if_pos h, rep_map]
    rfl
  · cases hr
theorem oe_rev {α : Type} {en : α → PyData} {xs : List α} {p : P} (hs : sq env p = some (xs.map en)) : (sq env p).map (fun ds => (ds.reverse, env)) = some (xs.reverse.map en, env) := by
  rw [hs, List.map_reverse]; rfl
def rangeL (lo : Int) (n : Nat) : List Int := (List.range n).map fun k => lo + (k : Nat)
theorem range_map {lo : Int} {n : Nat} : rgD lo n = (rangeL lo n).map encI := by
  unfold rgD rangeL
  rw [List.map_map]; rfl
def downL (hi : Int) (n : Nat) : List Int := (List.range n).map fun k => hi - (k : Nat)
theorem down_map {hi : Int} {n : Nat} : dnD hi n = (downL hi n).map encI := by
  unfold dnD downL
  rw [List.map_map]; rfl
def rng1 (j : Int) : Option (List Int) := if -(2 ^ 62) ≤ j ∧ j < 2 ^ 62 then some (rangeL 0 j.toNat) else none
def rng2 (i j : Int) : Option (List Int) := if -(2 ^ 62) ≤ i ∧ i < 2 ^ 62 ∧ -(2 ^ 62) ≤ j ∧ j < 2 ^ 62 then some (rangeL i (j - i).toNat) else none
def rng3 (i j : Int) : Option (List Int) := if -(2 ^ 62) ≤ i ∧ i < 2 ^ 62 ∧ -(2 ^ 62) ≤ j ∧ j < 2 ^ 62 then some (downL i (i - j).toNat) else none
def rngV (i j : Int) : Option (List Int) := if (-(2 ^ 62) ≤ i ∧ i < 2 ^ 62 ∧ -(2 ^ 62) ≤ j ∧ j < 2 ^ 62) ∧ (j - i).toNat ≤ 2 ^ 24 then some (rangeL i (j - i).toNat) else none
theorem xo_rng1 {j : Int} : XV (fun e => (match [P.val (.int j)] with | [.val (.int j)] => if -(2 ^ 62) ≤ j ∧ j < 2 ^ 62 then some (rgD 0 j.toNat, e) else none | _ => none : Option (List PyData × En))) env (rng1 j) (fun r => r.map encI) (fun _ => env) := fun r hr => by
  unfold rng1 at hr
  split at hr
  · rename_i h
    cases hr
    show (if _ then _ else _) = _
    rw [if_pos h, range_map]
  · cases hr
theorem xo_rng2 {i j : Int} : XV (fun e => (match [P.val (.int i), P.val (.int j)] with | [.val (.int i), .val (.int j)] => if -(2 ^ 62) ≤ i ∧ i < 2 ^ 62 ∧ -(2 ^ 62) ≤ j ∧ j < 2 ^ 62 then some (rgD i (j - i).toNat, e) else none | _ => none : Option (List PyData × En))) env (rng2 i j) (fun r => r.map encI) (fun _ => env) := fun r hr => by
  unfold rng2 at hr
  split at hr
  · rename_i h
    cases hr
    show (if _ then _ else _) = _
    rw [if_pos h, range_map]
  · cases hr
theorem xo_rng3 {i j : Int} : XV (fun e => (match [P.val (.int i), P.val (.int j), P.val (.int (-1))] with | [.val (.int i), .val (.int j), .val (.int k)] => if k = -1 ∧ -(2 ^ 62) ≤ i ∧ i < 2 ^ 62 ∧ -(2 ^ 62) ≤ j ∧ j < 2 ^ 62 then some (dnD i (i - j).toNat, e) else none | _ => none : Option (List PyData × En))) env (rng3 i j) (fun r => r.map encI) (fun _ => env) := fun r hr => by
  unfold rng3 at hr
  split at hr
  · rename_i h
    cases hr
    show (if _ then _ else _) = _
    rw [if_pos ⟨rfl, h⟩, down_map]
  · cases hr
/-- list(range(..)) -/
theorem xo_lrg1 {j : Int} : XV (fun e => (match P.val (.int j) with | .val (.int n) => if okRg 0 n = true then some (rgD 0 n.toNat, e) else none | _ => none : Option (List PyData × En))) env (rngV 0 j) (fun r => r.map encI) (fun _ => env) := fun r hr => by
  unfold rngV at hr
  split at hr
  · rename_i h
    cases hr
    show (if _ then _ else _) = _
    rw [if_pos (show okRg 0 j = true from decide_eq_true ⟨by omega, by omega, h.1.2.2.1, h.1.2.2.2, h.2⟩), range_map, Int.sub_zero]
  · cases hr
/-! enumerate, zip -/
def enL {α : Type} (xs : List α) : List (Int × α) := xs.mapIdx fun i x => ((i : Nat), x)
theorem en_map {α : Type} {en : α → PyData} {xs : List α} : enD (xs.map en) = (enL xs).map (encT encI en) := by
  refine List.ext_getElem? fun i => ?_
  rw [enD_get, List.getElem?_map, List.getElem?_map]
  unfold enL
  rw [List.getElem?_mapIdx]
  cases xs[i]? <;> rfl
theorem oe_enum {α : Type} {en : α → PyData} {xs : List α} {ma : MA} {p : P} {e1 e2 : En} (h : ma env = some ([p], e1)) (hs : fzP e1 p = some (.list (xs.map en), e2)) : mEnum ma env = some ((enL xs).map (encT encI en), e2) := by
  unfold mEnum bnd
  simp only [h, hs, en_map]
theorem xv_enum {α β : Type} {en : α → PyData} {ma : MA} {t : Option β} {xs : β → List α} {p : β → P} {st e2 : β → En} (h : XV ma env t (fun b => [p b]) st) (hs : ∀ b, fzP (st b) (p b) = some (.list ((xs b).map en), e2 b)) : XV (mEnum ma) env t (fun b => (enL (xs b)).map (encT encI en)) e2 := fun b hb => oe_enum (h b hb) (hs b)
theorem zip_map {α β : Type} {ea : α → PyData} {eb : β → PyData} : ∀ {xs : List α} {ys : List β}, zipD (xs.map ea) (ys.map eb) = (xs.zip ys).map (encT ea eb)
  | [], ys => by cases ys <;> rfl
  | x :: xs, [] => rfl
  | x :: xs, y :: ys => by
    show _ :: zipD (xs.map ea) (ys.map eb) = _
    rw [zip_map]; rfl
end
/-! ### comprehensions -/
section
variable {α β σ : Type} {mi : ML} {mg : PyData → En → Option En} {mt : MT} {me : ME} {vs : List Nat} {en : α → PyData} {en' : β → PyData}
def cmpGo (cond : α → σ → Option (Bool × σ)) (elt : α → σ → Option (β × σ)) : List α → σ → Option (List β × σ)
  | [], s => some ([], s)
  | a :: as, s => (cond a s).bind fun r => if r.1 = true then (elt a r.2).bind fun y => (cmpGo cond elt as y.2).map fun ys => (y.1 :: ys.1, ys.2) else cmpGo cond elt as r.2
def cmpG (cond : α → σ → Option (Bool × σ)) (elt : α → σ → Option (β × σ)) (xs : List α) (s : σ) : Option (List β × σ) := if xs.length ≤ sizeLine then cmpGo cond elt xs s else none
theorem lc_go {cond : α → σ → Option (Bool × σ)} {elt : α → σ → Option (β × σ)} {E : σ → En} {E1 : α → σ → En} (hg : ∀ a s, mg (en a) (E s) = some (E1 a s)) (ht : ∀ a s, XV mt (E1 a s) (cond a s) (fun p => p.1) (fun p => E1 a p.2))
    (he : ∀ a s, XV me (E1 a s) (elt a s) (fun p => .val (en' p.1)) (fun p => E1 a p.2)) (hw : ∀ a s, wipeE (E1 a s) vs = E s) : ∀ (xs : List α) (s : σ) (acc : List PyData), acc.length + xs.length ≤ sizeLine → ∀ r, cmpGo cond elt xs s = some r → mLcGo mg mt me vs (xs.map en) acc (E s) = some (acc ++ r.1.map en', E r.2)
  | [], s, acc, hz, r, hr => by cases hr; simp [mLcGo]
  | a :: as, s, acc, hz, r, hr => by
    rw [List.length_cons] at hz
    unfold cmpGo at hr
    cases hc : cond a s with
    | none => rw [hc] at hr; cases hr
    | some c =>
      rw [hc, Option.bind_some] at hr
      have h2 := ht a s c hc
      show mLcGo mg mt me vs (en a :: as.map en) acc (E s) = _
      unfold mLcGo
      simp only [hg, h2]
      split at hr
      · rename_i hc1
        cases hy : elt a c.2 with
        | none => rw [hy] at hr; cases hr
        | some y =>
          rw [hy, Option.bind_some] at hr
          cases hys : cmpGo cond elt as y.2 with
          | none => rw [hys] at hr; cases hr
          | some ys =>
            rw [hys] at hr
            cases hr
            have h3 := he a c.2 y hy
            have ih := lc_go hg ht he hw as y.2 (acc ++ [en' y.1]) (by rw [List.length_append, List.length_singleton]; omega) ys hys
            simp only [hc1, h3, fzP, hw]
            rw [if_pos (by omega), ih, List.append_assoc]
            rfl
      · rename_i hc1
        have hc2 : c.1 = false := by simpa using hc1
        have ih := lc_go hg ht he hw as c.2 acc (by omega) r hr
        simp only [hc2, hw]
        exact ih
/-- any comprehension: what it changes is s -/
theorem lc_G {cond : α → σ → Option (Bool × σ)} {elt : α → σ → Option (β × σ)} {E : σ → En} {E1 : α → σ → En} {xs : List α} {s : σ} {e0 : En} (hw0 : wipeE e0 vs = E s) (hg : ∀ a s, mg (en a) (E s) = some (E1 a s)) (ht : ∀ a s, XV mt (E1 a s) (cond a s) (fun p => p.1) (fun p => E1 a p.2))
    (he : ∀ a s, XV me (E1 a s) (elt a s) (fun p => .val (en' p.1)) (fun p => E1 a p.2)) (hw : ∀ a s, wipeE (E1 a s) vs = E s) : XV (fun e => mLcGo mg mt me vs (xs.map en) [] (wipeE e vs)) e0 (cmpG cond elt xs s) (fun r => r.1.map en') (fun r => E r.2) := fun r hr => by
  unfold cmpG at hr
  split at hr
  · rename_i hz
    have := lc_go (E := E) (E1 := E1) hg ht he hw xs s [] (by simpa using hz) r hr
    show mLcGo _ _ _ _ _ _ (wipeE e0 vs) = _
    rw [hw0, this]
    rfl
  · cases hr
/-- nothing changes, nothing fails -/
def cmpT (f : α → β) (xs : List α) : Option (List β) := if xs.length ≤ sizeLine then some (xs.map f) else none
def cmpF (c : α → Bool) (f : α → β) (xs : List α) : Option (List β) := if xs.length ≤ sizeLine then some ((xs.filter c).map f) else none
theorem lc_F {c : α → Bool} {f : α → β} {env : En} {E1 : α → En} {xs : List α} {e0 : En} (hw0 : wipeE e0 vs = env) (hg : ∀ a, mg (en a) env = some (E1 a)) (ht : ∀ a, mt (E1 a) = some (c a, E1 a)) (he : ∀ a, me (E1 a) = some (.val (en' (f a)), E1 a)) (hw : ∀ a, wipeE (E1 a) vs = env) : XV (fun e => mLcGo mg mt me vs (xs.map en) [] (wipeE e vs)) e0 (cmpF c f xs) (fun r => r.map en') (fun _ => env) := fun r hr => by
  have go : ∀ (xs : List α) (acc : List PyData), acc.length + xs.length ≤ sizeLine → mLcGo mg mt me vs (xs.map en) acc env = some (acc ++ ((xs.filter c).map f).map en', env) := by
    intro xs
    induction xs with
    | nil => intro acc _; simp [mLcGo]
    | cons a as ih =>
      intro acc hz
      rw [List.length_cons] at hz
      show mLcGo mg mt me vs (en a :: as.map en) acc env = _
      unfold mLcGo
      simp only [hg, ht]
      cases hc : c a with
      | true =>
        simp only [he, fzP, hw]
        rw [if_pos (by omega), ih _ (by rw [List.length_append, List.length_singleton]; omega), List.filter_cons_of_pos hc, List.append_assoc]
        rfl
      | false =>
        simp only [hw]
        rw [ih _ (by omega), List.filter_cons_of_neg (by rw [hc]; exact Bool.false_ne_true)]
  unfold cmpF at hr
  split at hr
  · rename_i hz
    cases hr
    show mLcGo _ _ _ _ _ _ (wipeE e0 vs) = _
    rw [hw0, go xs [] (by simpa using hz)]
    rfl
  · cases hr
theorem lc_T {f : α → β} {env : En} {E1 : α → En} {xs : List α} {e0 : En} (hw0 : wipeE e0 vs = env) (hg : ∀ a, mg (en a) env = some (E1 a)) (he : ∀ a, me (E1 a) = some (.val (en' (f a)), E1 a)) (hw : ∀ a, wipeE (E1 a) vs = env) : XV (fun e => mLcGo mg mYes me vs (xs.map en) [] (wipeE e vs)) e0 (cmpT f xs) (fun r => r.map en') (fun _ => env) := fun r hr => by
  refine lc_F (c := fun _ => true) (f := f) hw0 hg (fun a => rfl) he hw r ?_
  unfold cmpT at hr
  unfold cmpF
  rw [List.filter_eq_self.mpr (fun _ _ => rfl)]
  exact hr
/-- nothing changes -/
def cmpOGo (cond : α → Option Bool) (elt : α → Option β) : List α → Option (List β)
  | [] => some []
  | a :: as => (cond a).bind fun r => if r = true then (elt a).bind fun y => (cmpOGo cond elt as).map fun ys => y :: ys else cmpOGo cond elt as
def cmpO (cond : α → Option Bool) (elt : α → Option β) (xs : List α) : Option (List β) := if xs.length ≤ sizeLine then cmpOGo cond elt xs else none
theorem cmpO_G {cond : α → Option Bool} {elt : α → Option β} : ∀ xs : List α, cmpGo (σ := Unit) (fun a s => (cond a).map fun c => (c, s)) (fun a s => (elt a).map fun y => (y, s)) xs () = (cmpOGo cond elt xs).map fun ys => (ys, ())
  | [] => rfl
  | a :: as => by
    unfold cmpGo cmpOGo
    cases cond a with
    | none => rfl
    | some c =>
      simp only [Option.map_some, Option.bind_some]
      cases c with
      | true =>
        simp only [if_true]
        cases elt a with
        | none => rfl
        | some y =>
          simp only [Option.map_some, Option.bind_some]
          rw [cmpO_G as]
          cases cmpOGo cond elt as <;> rfl
      | false =>
        simp only [Bool.false_eq_true, if_false]
        exact cmpO_G as
theorem lc_O {cond : α → Option Bool} {elt : α → Option β} {env : En} {E1 : α → En} {xs : List α} {e0 : En} (hw0 : wipeE e0 vs = env) (hg : ∀ a, mg (en a) env = some (E1 a)) (ht : ∀ a, XV mt (E1 a) (cond a) (fun c => c) (fun _ => E1 a)) (he : ∀ a, XV me (E1 a) (elt a) (fun y => .val (en' y)) (fun _ => E1 a)) (hw : ∀ a, wipeE (E1 a) vs = env) : XV (fun e => mLcGo mg mt me vs (xs.map en) [] (wipeE e vs)) e0 (cmpO cond elt xs) (fun r => r.map en') (fun _ => env) := fun r hr => by
  refine (lc_G (σ := Unit) (s := ()) (E := fun _ => env) (E1 := fun a _ => E1 a) (cond := fun a s => (cond a).map fun c => (c, s)) (elt := fun a s => (elt a).map fun y => (y, s)) hw0 (fun a _ => hg a) (fun a s => xv_map (ht a)) (fun a s => xv_map (he a)) (fun a _ => hw a)) (r, ()) ?_
  unfold cmpO at hr
  unfold cmpG
  split at hr
  · rename_i hz
    rw [if_pos hz, cmpO_G, hr]
    rfl
  · cases hr
end
/-! ### statements -/
inductive Rs (ρ σ : Type) where | nx (s : σ) | bk (s : σ) | rt (r : ρ)
def Rs.on {ρ σ τ : Type} (r : Rs ρ σ) (f : ρ → τ) (g : σ → τ) : τ := match r with
  | .nx s => g s
  | .bk s => g s
  | .rt r => f r
def SV {β : Type} (m : MS) (env : En) (t : Option β) (post : β → Ctl → En → Prop) : Prop := ∀ b, t = some b → ∃ c e, m env = some (c, e) ∧ post b c e
section
variable {α β γ δ σ ρ : Type} {env e : En} {m n : MS} {t : Option β} {post : β → Ctl → En → Prop}
theorem seq_next {m : MS} {env : En} : mSeq m mNext env = m env := by
  unfold mSeq mNext
  split
  · rename_i h; rw [h]
  · rfl
theorem sv_last (h : SV (mSeq m mNext) env t post) : SV m env t post := fun b hb => by
  obtain ⟨c, e, h1, h2⟩ := h b hb
  rw [seq_next] at h1
  exact ⟨c, e, h1, h2⟩
theorem sv_assoc {a b c : MS} (h : SV (mSeq a (mSeq b c)) env t post) : SV (mSeq (mSeq a b) c) env t post := fun x hx => by
  obtain ⟨k, e, h1, h2⟩ := h x hx
  refine ⟨k, e, ?_, h2⟩
  rw [← h1]
  unfold mSeq
  cases a env with
  | none => rfl
  | some r =>
    obtain ⟨k1, e1⟩ := r
    cases k1 <;> rfl
theorem sv_nx (h : m env = some (.nx, e)) (k : SV n e t post) : SV (mSeq m n) env t post := fun b hb => by
  obtain ⟨c, e', h1, h2⟩ := k b hb
  refine ⟨c, e', ?_, h2⟩
  unfold mSeq
  rw [h]
  exact h1
theorem sv_V {t1 : Option γ} {st : γ → En} {t2 : γ → Option β} (h : XV m env t1 (fun _ => Ctl.nx) st) (k : ∀ c, SV n (st c) (t2 c) post) : SV (mSeq m n) env (t1.bind t2) post := fun b hb => by
  cases ht : t1 with
  | none => rw [ht] at hb; cases hb
  | some c => rw [ht] at hb; exact sv_nx (h c ht) (k c) b hb
/-- a value gets a name -/
theorem sv_let {v : γ} {E : γ → En} {f : γ → Option β} (h : ∀ x, SV m (E x) (f x) post) : SV m (E v) ((some v).bind f) post := h v
theorem sv_exit {ct : Ctl} (h : m env = some (ct, e)) (hx : ct ≠ .nx) {b : β} (hp : post b ct e) : SV (mSeq m n) env (some b) post := fun b' hb => by
  cases hb
  refine ⟨ct, e, ?_, hp⟩
  unfold mSeq
  split
  · rename_i e1 h1; rw [h] at h1; cases h1; exact absurd rfl hx
  · exact h
theorem sv_exitV {t1 : Option γ} {ct : γ → Ctl} {st : γ → En} {f : γ → β} (h : XV m env t1 ct st) (hx : ∀ c, ct c ≠ .nx) (hp : ∀ c, post (f c) (ct c) (st c)) : SV (mSeq m n) env (t1.map f) post := fun b hb => by
  cases ht : t1 with
  | none => rw [ht] at hb; cases hb
  | some c => rw [ht] at hb; cases hb; exact sv_exit (h c ht) (hx c) (hp c) _ rfl
theorem sv_end {b : β} (hp : post b .nx env) : SV mNext env (some b) post := fun b' hb => by cases hb; exact ⟨_, _, rfl, hp⟩
theorem sv_endO {t : Option β} (hp : ∀ b, t = some b → post b .nx env) : SV mNext env t post := fun b' hb => ⟨_, _, rfl, hp _ hb⟩
theorem sv_never : SV m env (none : Option β) post := fun _ h => nomatch h
theorem sv_if {mc : MT} {mA mB : MS} {c : Bool} {tA tB : Option β} (h : mc env = some (c, e)) (ha : SV (mSeq mA n) e tA post) (hb : SV (mSeq mB n) e tB post) : SV (mSeq (mIf mc mA mB) n) env (if c = true then tA else tB) post := fun b hx => by
  have e1 : mSeq (mIf mc mA mB) n env = if c = true then mSeq mA n e else mSeq mB n e := by
    unfold mSeq mIf bnd
    rw [h]
    cases c <;> rfl
  rw [e1]
  cases c with
  | true => exact ha b hx
  | false => exact hb b hx
theorem sv_ifV {mc : MT} {mA mB : MS} {t1 : Option γ} {cv : γ → Bool} {st : γ → En} {tA tB : γ → Option β} (h : XV mc env t1 cv st) (ha : ∀ c, SV (mSeq mA n) (st c) (tA c) post) (hb : ∀ c, SV (mSeq mB n) (st c) (tB c) post) : SV (mSeq (mIf mc mA mB) n) env (t1.bind fun c => if cv c = true then tA c else tB c) post := fun b hx => by
  cases ht : t1 with
  | none => rw [ht] at hx; cases hx
  | some c => rw [ht] at hx; exact sv_if (h c ht) (ha c) (hb c) b hx
theorem sv_seq {t1 : Option γ} {Q : γ → En → Prop} {t2 : γ → Option β} (h : SV m env t1 (fun c k e => k = .nx ∧ Q c e)) (k : ∀ c e, Q c e → SV n e (t2 c) post) : SV (mSeq m n) env (t1.bind t2) post := fun b hb => by
  cases ht : t1 with
  | none => rw [ht] at hb; cases hb
  | some c =>
    rw [ht] at hb
    obtain ⟨_, e, h1, rfl, h2⟩ := h c ht
    exact sv_nx h1 (k c e h2) b hb
theorem sv_imp {post' : β → Ctl → En → Prop} (h : SV m env t post) (k : ∀ b c e, post b c e → post' b c e) : SV m env t post' := fun b hb => by
  obtain ⟨c, e, h1, h2⟩ := h b hb
  exact ⟨c, e, h1, k _ _ _ h2⟩
/-! loops -/
def forN (body : α → σ → Option σ) : List α → σ → Option σ
  | [], s => some s
  | a :: as, s => (body a s).bind (forN body as)
def forR (body : α → σ → Option (Rs ρ σ)) : List α → σ → Option (Rs ρ σ)
  | [], s => some (.nx s)
  | a :: as, s => (body a s).bind fun r => match r with
    | .nx s' => forR body as s'
    | .bk s' => some (.nx s')
    | .rt r => some (.rt r)
theorem sv_goN {en : α → PyData} {P : σ → En → Prop} {body : α → σ → Option σ} {mg : PyData → En → Option En} {mb : MS} (hb : ∀ a s e, P s e → ∃ e1, mg (en a) e = some e1 ∧ SV mb e1 (body a s) (fun s' c e' => (c = .nx ∨ c = .ct) ∧ P s' e')) :
    ∀ (xs : List α) (s : σ) (e : En), P s e → SV (mForGo mg mb (xs.map en)) e (forN body xs s) (fun s' c e' => c = .nx ∧ P s' e')
  | [], s, e, h, s', hs => by cases hs; exact ⟨.nx, e, rfl, rfl, h⟩
  | a :: as, s, e, h, s', hs => by
    unfold forN at hs
    cases h1 : body a s with
    | none => rw [h1] at hs; cases hs
    | some s1 =>
      rw [h1] at hs
      obtain ⟨e1, g1, sv⟩ := hb a s e h
      obtain ⟨c, e2, g2, gc, p2⟩ := sv s1 h1
      obtain ⟨c', e3, g3, g4⟩ := sv_goN hb as s1 e2 p2 s' hs
      refine ⟨c', e3, ?_, g4⟩
      show mForGo mg mb (en a :: as.map en) e = _
      unfold mForGo
      rcases gc with rfl | rfl
      · simp only [g1, g2, g3]
      · simp only [g1, g2, g3]
theorem sv_goR {en : α → PyData} {P : σ → En → Prop} {PR : ρ → Ctl → En → Prop} {body : α → σ → Option (Rs ρ σ)} {mg : PyData → En → Option En} {mb : MS} (hb : ∀ a s e, P s e → ∃ e1, mg (en a) e = some e1 ∧ SV mb e1 (body a s) (fun r c e' => match r with | .nx s' => (c = .nx ∨ c = .ct) ∧ P s' e' | .bk s' => c = .bk ∧ P s' e' | .rt r => (∃ o, c = .rt o) ∧ PR r c e')) :
    ∀ (xs : List α) (s : σ) (e : En), P s e → SV (mForGo mg mb (xs.map en)) e (forR body xs s) (fun r c e' => match r with | .nx s' => c = .nx ∧ P s' e' | .bk _ => False | .rt r => (∃ o, c = .rt o) ∧ PR r c e')
  | [], s, e, h, s', hs => by cases hs; exact ⟨.nx, e, rfl, rfl, h⟩
  | a :: as, s, e, h, s', hs => by
    unfold forR at hs
    cases h1 : body a s with
    | none => rw [h1] at hs; cases hs
    | some r =>
      rw [h1] at hs
      obtain ⟨e1, g1, sv⟩ := hb a s e h
      obtain ⟨c, e2, g2, gp⟩ := sv r h1
      cases r with
      | nx s1 =>
        obtain ⟨gc, p2⟩ := gp
        obtain ⟨c', e3, g3, g4⟩ := sv_goR (PR := PR) hb as s1 e2 p2 s' hs
        refine ⟨c', e3, ?_, g4⟩
        show mForGo mg mb (en a :: as.map en) e = _
        unfold mForGo
        rcases gc with rfl | rfl
        · simp only [g1, g2, g3]
        · simp only [g1, g2, g3]
      | bk s1 =>
        obtain ⟨rfl, p2⟩ := gp
        cases hs
        refine ⟨.nx, e2, ?_, rfl, p2⟩
        show mForGo mg mb (en a :: as.map en) e = _
        unfold mForGo
        simp only [g1, g2]
      | rt r =>
        obtain ⟨⟨o, rfl⟩, p2⟩ := gp
        cases hs
        refine ⟨.rt o, e2, ?_, ⟨o, rfl⟩, p2⟩
        show mForGo mg mb (en a :: as.map en) e = _
        unfold mForGo
        simp only [g1, g2]
theorem sv_forN {en : α → PyData} {Q : σ → En → Prop} {body : α → σ → Option σ} {mi : ML} {mg : PyData → En → Option En} {mb : MS} {xs : List α} {s0 : σ} {t2 : σ → Option β} (hi : mi env = some (xs.map en, e)) (h0 : Q s0 e)
    (hb : ∀ a s e, Q s e → ∃ e1, mg (en a) e = some e1 ∧ SV mb e1 (body a s) (fun s' c e' => (c = .nx ∨ c = .ct) ∧ Q s' e')) (k : ∀ s e, Q s e → SV n e (t2 s) post) : SV (mSeq (mFor mi mg mb) n) env ((forN body xs s0).bind t2) post :=
  sv_seq (Q := Q) (fun s' hs => by
    obtain ⟨c, e', h1, h2⟩ := sv_goN hb xs s0 e h0 s' hs
    exact ⟨c, e', (bnd_eq hi).trans h1, h2⟩) k
theorem sv_forNV {en : α → PyData} {Q : γ → σ → En → Prop} {body : γ → α → σ → Option σ} {mi : ML} {mg : PyData → En → Option En} {mb : MS} {t1 : Option γ} {xs : γ → List α} {st : γ → En} {s0 : γ → σ} {t2 : γ → σ → Option β} (hi : XV mi env t1 (fun c => (xs c).map en) st) (h0 : ∀ c, Q c (s0 c) (st c))
    (hb : ∀ c a s e, Q c s e → ∃ e1, mg (en a) e = some e1 ∧ SV mb e1 (body c a s) (fun s' k e' => (k = .nx ∨ k = .ct) ∧ Q c s' e')) (k : ∀ c s e, Q c s e → SV n e (t2 c s) post) : SV (mSeq (mFor mi mg mb) n) env (t1.bind fun c => (forN (body c) (xs c) (s0 c)).bind (t2 c)) post := fun b hx => by
  cases ht : t1 with
  | none => rw [ht] at hx; cases hx
  | some c => rw [ht] at hx; exact sv_forN (hi c ht) (h0 c) (hb c) (k c) b hx
theorem sv_forR {en : α → PyData} {Q : σ → En → Prop} {body : α → σ → Option (Rs ρ σ)} {mi : ML} {mg : PyData → En → Option En} {mb : MS} {xs : List α} {s0 : σ} {f : ρ → Option β} {t2 : σ → Option β} {PR : ρ → Ctl → En → Prop} (hi : mi env = some (xs.map en, e)) (h0 : Q s0 e)
    (hb : ∀ a s e, Q s e → ∃ e1, mg (en a) e = some e1 ∧ SV mb e1 (body a s) (fun r c e' => match r with | .nx s' => (c = .nx ∨ c = .ct) ∧ Q s' e' | .bk s' => c = .bk ∧ Q s' e' | .rt r => (∃ o, c = .rt o) ∧ PR r c e')) (hr : ∀ r c e b, (∃ o, c = .rt o) → PR r c e → f r = some b → post b c e) (k : ∀ s e, Q s e → SV n e (t2 s) post) :
    SV (mSeq (mFor mi mg mb) n) env ((forR body xs s0).bind fun r => r.on f t2) post := fun b hx => by
  cases ht : forR body xs s0 with
  | none => rw [ht] at hx; cases hx
  | some r =>
    rw [ht] at hx
    obtain ⟨c, e', h1, h2⟩ := sv_goR (PR := PR) hb xs s0 e h0 r ht
    have h3 : mFor mi mg mb env = some (c, e') := (bnd_eq hi).trans h1
    cases r with
    | nx s =>
      obtain ⟨rfl, h2⟩ := h2
      exact sv_nx h3 (k s e' h2) b hx
    | bk s => exact h2.elim
    | rt r =>
      obtain ⟨⟨o, rfl⟩, h2⟩ := h2
      exact sv_exit h3 (fun z => nomatch z) (hr r _ e' b ⟨o, rfl⟩ h2 hx) b rfl
theorem sv_forRV {en : α → PyData} {Q : γ → σ → En → Prop} {body : γ → α → σ → Option (Rs ρ σ)} {mi : ML} {mg : PyData → En → Option En} {mb : MS} {t1 : Option γ} {xs : γ → List α} {st : γ → En} {s0 : γ → σ} {f : γ → ρ → Option β} {t2 : γ → σ → Option β} {PR : γ → ρ → Ctl → En → Prop} (hi : XV mi env t1 (fun c => (xs c).map en) st) (h0 : ∀ c, Q c (s0 c) (st c))
    (hb : ∀ d a s e, Q d s e → ∃ e1, mg (en a) e = some e1 ∧ SV mb e1 (body d a s) (fun r c e' => match r with | .nx s' => (c = .nx ∨ c = .ct) ∧ Q d s' e' | .bk s' => c = .bk ∧ Q d s' e' | .rt r => (∃ o, c = .rt o) ∧ PR d r c e')) (hr : ∀ d r c e b, (∃ o, c = .rt o) → PR d r c e → f d r = some b → post b c e) (k : ∀ d s e, Q d s e → SV n e (t2 d s) post) :
    SV (mSeq (mFor mi mg mb) n) env (t1.bind fun d => (forR (body d) (xs d) (s0 d)).bind fun r => r.on (f d) (t2 d)) post := fun b hx => by
  cases ht : t1 with
  | none => rw [ht] at hx; cases hx
  | some d => rw [ht] at hx; exact sv_forR (hi d ht) (h0 d) (hb d) (hr d) (k d) b hx
/-- at most so many turns -/
def whN (cond : σ → Option (Bool × σ)) (body : σ → Option σ) : Nat → σ → Option σ
  | 0, _ => none
  | n + 1, s => (cond s).bind fun r => if r.1 = true then (body r.2).bind (whN cond body n) else some r.2
def whR (cond : σ → Option (Bool × σ)) (body : σ → Option (Rs ρ σ)) : Nat → σ → Option (Rs ρ σ)
  | 0, _ => none
  | n + 1, s => (cond s).bind fun r => if r.1 = true then (body r.2).bind fun x => match x with
    | .nx s' => whR cond body n s'
    | .bk s' => some (.nx s')
    | .rt r => some (.rt r) else some (.nx r.2)
theorem sv_wgoN {P : σ → En → Prop} {cond : σ → Option (Bool × σ)} {body : σ → Option σ} {mc : MT} {mb : MS} (hc : ∀ s e, P s e → ∀ r, cond s = some r → ∃ e', mc e = some (r.1, e') ∧ P r.2 e') (hb : ∀ s e, P s e → SV mb e (body s) (fun s' c e' => (c = .nx ∨ c = .ct) ∧ P s' e')) :
    ∀ (n : Nat) (s : σ) (e : En), P s e → SV (mWhile mc mb n) e (whN cond body n s) (fun s' c e' => c = .nx ∧ P s' e')
  | 0, s, e, h, s', hs => nomatch hs
  | n + 1, s, e, h, s', hs => by
    unfold whN at hs
    cases h1 : cond s with
    | none => rw [h1] at hs; cases hs
    | some r =>
      rw [h1, Option.bind_some] at hs
      obtain ⟨e1, g1, p1⟩ := hc s e h r h1
      unfold mWhile
      split at hs
      · rename_i hr
        rw [hr] at g1
        cases h2 : body r.2 with
        | none => rw [h2] at hs; cases hs
        | some s2 =>
          rw [h2] at hs
          obtain ⟨c, e2, g2, gc, p2⟩ := hb _ e1 p1 s2 h2
          obtain ⟨c', e3, g3, g4⟩ := sv_wgoN hc hb n s2 e2 p2 s' hs
          refine ⟨c', e3, ?_, g4⟩
          rcases gc with rfl | rfl
          · simp only [g1, g2, g3]
          · simp only [g1, g2, g3]
      · rename_i hr
        have hr' : r.1 = false := by simpa using hr
        rw [hr'] at g1
        cases hs
        exact ⟨.nx, e1, by simp only [g1], rfl, p1⟩
theorem sv_wgoR {P : σ → En → Prop} {PR : ρ → Ctl → En → Prop} {cond : σ → Option (Bool × σ)} {body : σ → Option (Rs ρ σ)} {mc : MT} {mb : MS} (hc : ∀ s e, P s e → ∀ r, cond s = some r → ∃ e', mc e = some (r.1, e') ∧ P r.2 e')
    (hb : ∀ s e, P s e → SV mb e (body s) (fun r c e' => match r with | .nx s' => (c = .nx ∨ c = .ct) ∧ P s' e' | .bk s' => c = .bk ∧ P s' e' | .rt r => (∃ o, c = .rt o) ∧ PR r c e')) :
    ∀ (n : Nat) (s : σ) (e : En), P s e → SV (mWhile mc mb n) e (whR cond body n s) (fun r c e' => match r with | .nx s' => c = .nx ∧ P s' e' | .bk _ => False | .rt r => (∃ o, c = .rt o) ∧ PR r c e')
  | 0, s, e, h, s', hs => nomatch hs
  | n + 1, s, e, h, s', hs => by
    unfold whR at hs
    cases h1 : cond s with
    | none => rw [h1] at hs; cases hs
    | some r =>
      rw [h1, Option.bind_some] at hs
      obtain ⟨e1, g1, p1⟩ := hc s e h r h1
      unfold mWhile
      split at hs
      · rename_i hr
        rw [hr] at g1
        cases h2 : body r.2 with
        | none => rw [h2] at hs; cases hs
        | some x =>
          rw [h2] at hs
          obtain ⟨c, e2, g2, gp⟩ := hb _ e1 p1 x h2
          cases x with
          | nx s1 =>
            obtain ⟨gc, p2⟩ := gp
            obtain ⟨c', e3, g3, g4⟩ := sv_wgoR (PR := PR) hc hb n s1 e2 p2 s' hs
            refine ⟨c', e3, ?_, g4⟩
            rcases gc with rfl | rfl
            · simp only [g1, g2, g3]
            · simp only [g1, g2, g3]
          | bk s1 =>
            obtain ⟨rfl, p2⟩ := gp
            cases hs
            exact ⟨.nx, e2, by simp only [g1, g2], rfl, p2⟩
          | rt r =>
            obtain ⟨⟨o, rfl⟩, p2⟩ := gp
            cases hs
            exact ⟨.rt o, e2, by simp only [g1, g2], ⟨o, rfl⟩, p2⟩
      · rename_i hr
        have hr' : r.1 = false := by simpa using hr
        rw [hr'] at g1
        cases hs
        exact ⟨.nx, e1, by simp only [g1], rfl, p1⟩
theorem sv_whN {Q : σ → En → Prop} {cond : σ → Option (Bool × σ)} {body : σ → Option σ} {mc : MT} {mb : MS} {k : Nat} {s0 : σ} {t2 : σ → Option β} (h0 : Q s0 env) (hc : ∀ s e, Q s e → ∀ r, cond s = some r → ∃ e', mc e = some (r.1, e') ∧ Q r.2 e')
    (hb : ∀ s e, Q s e → SV mb e (body s) (fun s' c e' => (c = .nx ∨ c = .ct) ∧ Q s' e')) (hk : ∀ s e, Q s e → SV n e (t2 s) post) : SV (mSeq (mWhile mc mb k) n) env ((whN cond body k s0).bind t2) post :=
  sv_seq (Q := Q) (sv_wgoN hc hb k s0 env h0) hk
theorem sv_whR {Q : σ → En → Prop} {PR : ρ → Ctl → En → Prop} {cond : σ → Option (Bool × σ)} {body : σ → Option (Rs ρ σ)} {mc : MT} {mb : MS} {k : Nat} {s0 : σ} {f : ρ → Option β} {t2 : σ → Option β} (h0 : Q s0 env) (hc : ∀ s e, Q s e → ∀ r, cond s = some r → ∃ e', mc e = some (r.1, e') ∧ Q r.2 e')
    (hb : ∀ s e, Q s e → SV mb e (body s) (fun r c e' => match r with | .nx s' => (c = .nx ∨ c = .ct) ∧ Q s' e' | .bk s' => c = .bk ∧ Q s' e' | .rt r => (∃ o, c = .rt o) ∧ PR r c e')) (hr : ∀ r c e b, (∃ o, c = .rt o) → PR r c e → f r = some b → post b c e) (hk : ∀ s e, Q s e → SV n e (t2 s) post) :
    SV (mSeq (mWhile mc mb k) n) env ((whR cond body k s0).bind fun r => r.on f t2) post := fun b hx => by
  cases ht : whR cond body k s0 with
  | none => rw [ht] at hx; cases hx
  | some r =>
    rw [ht] at hx
    obtain ⟨c, e', h1, h2⟩ := sv_wgoR (PR := PR) hc hb k s0 env h0 r ht
    cases r with
    | nx s =>
      obtain ⟨rfl, h2⟩ := h2
      exact sv_nx h1 (hk s e' h2) b hx
    | bk s => exact h2.elim
    | rt r =>
      obtain ⟨⟨o, rfl⟩, h2⟩ := h2
      exact sv_exit h1 (fun z => nomatch z) (hr r _ e' b ⟨o, rfl⟩ h2 hx) b rfl
/-! ### defs and calls -/
theorem def_T {N np : Nat} {pn : List Nat} {m : MS} {os : List O} {t : Option β} {ro : β → O} {ios : β → List O} (h1 : os.length = np) (h : SV m (os.map some ++ List.replicate (N - os.length) none) t (fun b c e => (c = .rt (ro b) ∨ (c = .nx ∧ ro b = .fz .none)) ∧ mDef.finL pn os e = some (ios b))) : ∀ b, t = some b → mDef N np pn m os = some (ro b, ios b) := fun b hb => by
  obtain ⟨c, e, h2, h3, h4⟩ := h b hb
  unfold mDef
  rw [if_pos h1, h2]
  rcases h3 with rfl | ⟨rfl, h5⟩
  · show mDef.fin pn os e (ro b) = _
    unfold mDef.fin
    rw [h4]; rfl
  · show mDef.fin pn os e (.fz .none) = _
    unfold mDef.fin
    rw [h4, h5]; rfl
theorem xo_call {pn : List Nat} {mf : MF} {ps : List P} {os os1 : List O} {ls : List (Option Nat)} {e2 : En} {t : Option γ} {ro : γ → O} {ios : γ → List O} {e3 : γ → En} (tk : ∀ c, t = some c → mf os1 = some (ro c, ios c)) (h1 : prepA pn 0 ps env = some (os, ls, e2)) (h2 : lentsOk ls = true) (h3 : lendA ls os e2 = some os1) (h4 : ∀ c, backA ls (ios c) e2 = some (e3 c)) :
    XV (fun e => callP pn mf ps e) env t ro e3 := fun c hc => by
  show callP pn mf ps env = _
  unfold callP
  rw [h1]
  simp only [h2, if_true, h3, tk c hc, h4 c]
end
/-! ### more words -/
section
variable {env : En} {α β γ : Type}
theorem oe_tru {en : α → PyData} {p : P} {xs : List α} (hv : vw env p = some (.list (xs.map en))) : (gTru env p).map (fun r => (r, env)) = some (!xs.isEmpty, env) := by
  unfold gTru
  simp only [hv]
  cases xs <;> rfl
theorem oe_all {p : P} {bs : List Bool} (hs : sq env p = some (bs.map encB)) : (gAll env [p]).map (fun r => (r, env)) = some (.val (.bool (bs.all id)), env) := by
  have e : allB (bs.map encB) = some bs := allB_map bs
  unfold gAll
  simp only [hs, Option.bind_some, e, Option.map_some]
/-- repr of data -/
def reprG (d : PyData) : Option Str := if isTup d = false ∧ reprOk d = true ∧ deepD d ≤ 60 ∧ (reprD d).length ≤ sizeLine then some (reprD d) else none
theorem xo_repr {p : P} {d : PyData} (hv : vw env p = some d) : XV (fun e => (gRepr e [p]).map fun r => (r, e)) env (reprG d) (fun r => .val (.str r)) (fun _ => env) := fun r hr => by
  unfold reprG at hr
  split at hr
  · rename_i h
    cases hr
    show (gRepr env [p]).map _ = _
    unfold gRepr
    simp only [hv]
    rw [if_pos h]
    rfl
  · cases hr
theorem xo_reprV {is : List Nat} {ds : List PyData} (h : vws env is = some ds) (hl : is.length ≤ 1000) : XV (mReprV is) env (reprG (.list ds)) (fun r => .val (.str r)) (fun _ => env) := fun r hr => by
  unfold reprG at hr
  split at hr
  · rename_i hh
    cases hr
    unfold mReprV
    simp only [h]
    rw [if_pos ⟨hh.2.1, hh.2.2.1, hh.2.2.2, hl⟩]
  · cases hr
/-! instances -/
theorem oe_fld {C : Addr} {i : Nat} {f : Str} {fs : List (Str × PyData)} {g : Option (Str × List PyData)} {d : PyData} (h : env[i]? = some (some (.ob C fs g))) (hl : fs.lookup f = some d) : mFld C i f env = some (.val d, env) := by
  unfold mFld
  simp only [h, if_true, hl, Option.map_some]
theorem xv_meth {C : Addr} {m : Str} {i : Nat} {pn : List Nat} {mf : MF} {ma : MA} {fs : List (Str × PyData)} {g : Option (Str × List PyData)} {t : Option β} {av : β → O} {st : β → En} (h : env[i]? = some (some (.ob C fs g))) (hm : fs.lookup m = none) (hg : (g.all fun z => !(m == z.1)) = true) (hx : XV (bnd ma fun ps e => callP pn mf (.var i :: ps) e) env t av st) : XV (mMeth C m i pn mf ma) env t av st := fun b hb => by
  unfold mMeth
  simp only [h]
  rw [if_pos ⟨trivial, hm, hg⟩]
  exact hx b hb
theorem xo_make {C : Addr} {mf : MF} {ma : MA} {ps : List P} {os : List O} {e1 e2 : En} {t : Option β} {o : β → O} {rest : β → List O} (tk : ∀ b, t = some b → mf (.ob C [] none :: os) = some (.fz .none, o b :: rest b)) (hm : ma env = some (ps, e1)) (h : prepX ps e1 = some (os, e2)) :
    XV (mMake C mf ma) env t o (fun _ => e2) := fun b hb => by
  unfold mMake bnd
  simp only [hm, h, tk b hb]
theorem os_setF_0 {C : Addr} {j : Nat} {f : Str} {fs : List (Str × PyData)} {me : ME} {p : P} {d : PyData} {e1 e2 : En} (hm : me env = some (p, e1)) (hf : fzP e1 p = some (d, e2)) (h : e2[j]? = some (some (.ob C fs none))) (hl : fs.length < 1000) : mSetF C j f me env = some (.nx, e2.set j (some (.ob C (putP f d fs) none))) := by
  unfold mSetF bnd
  simp only [hm, hf, h]
  rw [if_pos ⟨trivial, hl⟩]
theorem os_setF {C : Addr} {j : Nat} {f : Str} {fs : List (Str × PyData)} {me : ME} {p : P} {d : PyData} {e1 e2 : En} (hm : me env = some (p, e1)) (hf : fzP e1 p = some (d, e2)) (h : e2[j]? = some (some (.ob C fs none))) (hl : fs.length < 1000) {E0 : En} (hE : e2.set j (some (.ob C (putP f d fs) none)) = E0) : mSetF C j f me env = some (.nx, E0) := by
  subst hE
  exact os_setF_0 hm hf h hl
theorem xv_setF_0 {C : Addr} {j : Nat} {f : Str} {fs : List (Str × PyData)} {me : ME} {t : Option β} {p : β → P} {d : β → PyData} {st e2 : β → En} (hm : XV me env t p st) (hf : ∀ b, fzP (st b) (p b) = some (d b, e2 b)) (h : ∀ b, (e2 b)[j]? = some (some (.ob C fs none))) (hl : fs.length < 1000) : XV (mSetF C j f me) env t (fun _ => .nx) (fun b => (e2 b).set j (some (.ob C (putP f (d b) fs) none))) := fun b hb => os_setF_0 (hm b hb) (hf b) (h b) hl
theorem xv_setF {C : Addr} {j : Nat} {f : Str} {fs : List (Str × PyData)} {me : ME} {t : Option β} {p : β → P} {d : β → PyData} {st e2 : β → En} (hm : XV me env t p st) (hf : ∀ b, fzP (st b) (p b) = some (d b, e2 b)) (h : ∀ b, (e2 b)[j]? = some (some (.ob C fs none))) (hl : fs.length < 1000) {E0 : _ → En} (hE : ∀ b, (e2 b).set j (some (.ob C (putP f (d b) fs) none)) = E0 b) : XV (mSetF C j f me) env t (fun _ => .nx) E0 := by
  obtain rfl : (fun b => (e2 b).set j (some (.ob C (putP f (d b) fs) none))) = E0 := funext hE
  exact xv_setF_0 hm hf h hl
theorem os_setFO_0 {C : Addr} {j : Nat} {g : Str} {fs : List (Str × PyData)} {mo : MO} {ds : List PyData} {e : En} (hm : mo env = some (.ow ds, e)) (h : e[j]? = some (some (.ob C fs none))) (hl : fs.length < 1000) (hg : fs.lookup g = none) : mSetFO C j g mo env = some (.nx, e.set j (some (.ob C fs (some (g, ds))))) := by
  unfold mSetFO bnd
  simp only [hm, h]
  rw [if_pos ⟨trivial, hl, hg⟩]
theorem os_setFO {C : Addr} {j : Nat} {g : Str} {fs : List (Str × PyData)} {mo : MO} {ds : List PyData} {e : En} (hm : mo env = some (.ow ds, e)) (h : e[j]? = some (some (.ob C fs none))) (hl : fs.length < 1000) (hg : fs.lookup g = none) {E0 : En} (hE : e.set j (some (.ob C fs (some (g, ds)))) = E0) : mSetFO C j g mo env = some (.nx, E0) := by
  subst hE
  exact os_setFO_0 hm h hl hg
def appG (xs : List α) (x : α) : Option (List α) := if xs.length < sizeLine then some (xs ++ [x]) else none
theorem xo_appF_0 {C : Addr} {j : Nat} {g : Str} {fs : List (Str × PyData)} {ma : MA} {en : α → PyData} {xs : List α} {x : α} {ps : List P} {ds : List PyData} (h : env[j]? = some (some (.ob C fs (some (g, xs.map en))))) (hg : fs.lookup g = none) (hm : ma env = some (ps, env)) (hv : valsOf ps = some ds) (hx : en x = .tuple ds) : XV (mAppF C j g ma) env (appG xs x) (fun _ => .nx) (fun r => env.set j (some (.ob C fs (some (g, r.map en))))) := fun r hr => by
  unfold appG at hr
  split at hr
  · rename_i hz
    cases hr
    unfold mAppF
    simp only [h]
    rw [if_pos ⟨trivial, trivial, hg, by rw [List.length_map]; exact hz⟩]
    simp only [hm, hv]
    rw [List.map_append]
    show _ = some (Ctl.nx, env.set j (some (O.ob C fs (some (g, xs.map en ++ [en x])))))
    rw [hx]
  · cases hr
theorem xo_appF {C : Addr} {j : Nat} {g : Str} {fs : List (Str × PyData)} {ma : MA} {en : α → PyData} {xs : List α} {x : α} {ps : List P} {ds : List PyData} (h : env[j]? = some (some (.ob C fs (some (g, xs.map en))))) (hg : fs.lookup g = none) (hm : ma env = some (ps, env)) (hv : valsOf ps = some ds) (hx : en x = .tuple ds) {E0 : _ → En} (hE : ∀ r, env.set j (some (.ob C fs (some (g, r.map en)))) = E0 r) : XV (mAppF C j g ma) env (appG xs x) (fun _ => .nx) E0 := by
  obtain rfl : (fun r => env.set j (some (.ob C fs (some (g, r.map en))))) = E0 := funext hE
  exact xo_appF_0 h hg hm hv hx
theorem os_retTp {C : Addr} {i j : Nat} {g : Str} {fs : List (Str × PyData)} {xs ys : List PyData} (h : env[i]? = some (some (.ow xs))) (h' : env[j]? = some (some (.ob C fs (some (g, ys))))) (ij : i ≠ j) (hg : fs.lookup g = none) : mRetTp C i j g env = some (.rt (.tp [xs, ys]), (env.set i none).set j none) := by
  unfold mRetTp
  simp only [h, h']
  rw [if_pos ⟨ij, trivial, trivial, hg⟩]
/-! lists that a name alone holds -/
theorem xo_app_0 {en : α → PyData} {j : Nat} {ma : MA} {xs : List α} {x : α} {p : P} {e1 e2 : En} (h0 : ∃ ds, env[j]? = some (some (.ow ds))) (hm : ma env = some ([p], e1)) (hf : fzP e1 p = some (en x, e2)) (h : e2[j]? = some (some (.ow (xs.map en)))) : XV (mApp j ma) env (appG xs x) (fun _ => .nx) (fun r => e2.set j (some (.ow (r.map en)))) := fun r hr => by
  unfold appG at hr
  split at hr
  · rename_i hz
    cases hr
    obtain ⟨ds, h0⟩ := h0
    unfold mApp
    simp only [h0, hm, hf, h, List.length_map]
    rw [if_pos hz, List.map_append]
    rfl
  · cases hr
theorem xo_app {en : α → PyData} {j : Nat} {ma : MA} {xs : List α} {x : α} {p : P} {e1 e2 : En} (h0 : ∃ ds, env[j]? = some (some (.ow ds))) (hm : ma env = some ([p], e1)) (hf : fzP e1 p = some (en x, e2)) (h : e2[j]? = some (some (.ow (xs.map en)))) {E0 : _ → En} (hE : ∀ r, e2.set j (some (.ow (r.map en))) = E0 r) : XV (mApp j ma) env (appG xs x) (fun _ => .nx) E0 := by
  obtain rfl : (fun r => e2.set j (some (.ow (r.map en)))) = E0 := funext hE
  exact xo_app_0 h0 hm hf h
theorem xv_app_0 {en : α → PyData} {j : Nat} {ma : MA} {t : Option β} {xs : β → List α} {x : β → α} {p : β → P} {e1 e2 : β → En} (h0 : ∃ ds, env[j]? = some (some (.ow ds))) (hm : XV ma env t (fun b => [p b]) e1) (hf : ∀ b, fzP (e1 b) (p b) = some (en (x b), e2 b)) (h : ∀ b, (e2 b)[j]? = some (some (.ow ((xs b).map en)))) : XV (mApp j ma) env (t.bind fun b => (appG (xs b) (x b)).map fun r => (b, r)) (fun _ => .nx) (fun q => (e2 q.1).set j (some (.ow (q.2.map en)))) := fun q hq => by
  cases ht : t with
  | none => rw [ht] at hq; cases hq
  | some b =>
    rw [ht] at hq
    have hq' : (appG (xs b) (x b)).map (fun r => (b, r)) = some q := hq
    cases ha : appG (xs b) (x b) with
    | none => rw [ha] at hq'; cases hq'
    | some r =>
      rw [ha] at hq'
      cases hq'
      exact xo_app_0 h0 (hm b ht) (hf b) (h b) r ha
theorem xv_app {en : α → PyData} {j : Nat} {ma : MA} {t : Option β} {xs : β → List α} {x : β → α} {p : β → P} {e1 e2 : β → En} (h0 : ∃ ds, env[j]? = some (some (.ow ds))) (hm : XV ma env t (fun b => [p b]) e1) (hf : ∀ b, fzP (e1 b) (p b) = some (en (x b), e2 b)) (h : ∀ b, (e2 b)[j]? = some (some (.ow ((xs b).map en)))) {E0 : _ → En} (hE : ∀ q, (e2 q.1).set j (some (.ow (q.2.map en))) = E0 q) : XV (mApp j ma) env (t.bind fun b => (appG (xs b) (x b)).map fun r => (b, r)) (fun _ => .nx) E0 := by
  obtain rfl : (fun q => (e2 q.1).set j (some (.ow (q.2.map en)))) = E0 := funext hE
  exact xv_app_0 h0 hm hf h
def insG (xs : List α) (i : Int) (x : α) : Option (List α) := if xs.length < sizeLine ∧ 0 ≤ i ∧ i < 2 ^ 63 then some (xs.take i.toNat ++ [x] ++ xs.drop i.toNat) else none
theorem xo_ins_0 {en : α → PyData} {j : Nat} {ma : MA} {xs : List α} {x : α} {i : Int} {p : P} {e1 e2 : En} (h0 : ∃ ds, env[j]? = some (some (.ow ds))) (hm : ma env = some ([.val (.int i), p], e1)) (hf : fzP e1 p = some (en x, e2)) (h : e2[j]? = some (some (.ow (xs.map en)))) : XV (mIns j ma) env (insG xs i x) (fun _ => .nx) (fun r => e2.set j (some (.ow (r.map en)))) := fun r hr => by
  unfold insG at hr
  split at hr
  · rename_i hz
    cases hr
    obtain ⟨ds, h0⟩ := h0
    unfold mIns
    simp only [h0, hm, hf, h, List.length_map]
    rw [if_pos hz, List.map_append, List.map_append, List.map_take, List.map_drop]
    rfl
  · cases hr
theorem xo_ins {en : α → PyData} {j : Nat} {ma : MA} {xs : List α} {x : α} {i : Int} {p : P} {e1 e2 : En} (h0 : ∃ ds, env[j]? = some (some (.ow ds))) (hm : ma env = some ([.val (.int i), p], e1)) (hf : fzP e1 p = some (en x, e2)) (h : e2[j]? = some (some (.ow (xs.map en)))) {E0 : _ → En} (hE : ∀ r, e2.set j (some (.ow (r.map en))) = E0 r) : XV (mIns j ma) env (insG xs i x) (fun _ => .nx) E0 := by
  obtain rfl : (fun r => e2.set j (some (.ow (r.map en)))) = E0 := funext hE
  exact xo_ins_0 h0 hm hf h
theorem xv_ins_0 {en : α → PyData} {j : Nat} {ma : MA} {t : Option β} {xs : β → List α} {x : β → α} {i : β → Int} {p : β → P} {e1 e2 : β → En} (h0 : ∃ ds, env[j]? = some (some (.ow ds))) (hm : XV ma env t (fun b => [.val (.int (i b)), p b]) e1) (hf : ∀ b, fzP (e1 b) (p b) = some (en (x b), e2 b)) (h : ∀ b, (e2 b)[j]? = some (some (.ow ((xs b).map en)))) : XV (mIns j ma) env (t.bind fun b => (insG (xs b) (i b) (x b)).map fun r => (b, r)) (fun _ => .nx) (fun q => (e2 q.1).set j (some (.ow (q.2.map en)))) := fun q hq => by
  cases ht : t with
  | none => rw [ht] at hq; cases hq
  | some b =>
    rw [ht] at hq
    have hq' : (insG (xs b) (i b) (x b)).map (fun r => (b, r)) = some q := hq
    cases ha : insG (xs b) (i b) (x b) with
    | none => rw [ha] at hq'; cases hq'
    | some r =>
      rw [ha] at hq'
      cases hq'
      exact xo_ins_0 h0 (hm b ht) (hf b) (h b) r ha
theorem xv_ins {en : α → PyData} {j : Nat} {ma : MA} {t : Option β} {xs : β → List α} {x : β → α} {i : β → Int} {p : β → P} {e1 e2 : β → En} (h0 : ∃ ds, env[j]? = some (some (.ow ds))) (hm : XV ma env t (fun b => [.val (.int (i b)), p b]) e1) (hf : ∀ b, fzP (e1 b) (p b) = some (en (x b), e2 b)) (h : ∀ b, (e2 b)[j]? = some (some (.ow ((xs b).map en)))) {E0 : _ → En} (hE : ∀ q, (e2 q.1).set j (some (.ow (q.2.map en))) = E0 q) : XV (mIns j ma) env (t.bind fun b => (insG (xs b) (i b) (x b)).map fun r => (b, r)) (fun _ => .nx) E0 := by
  obtain rfl : (fun q => (e2 q.1).set j (some (.ow (q.2.map en)))) = E0 := funext hE
  exact xv_ins_0 h0 hm hf h
def remG (xs : List Int) (k : Int) : Option (List Int) := (atFirst k xs).map fun n => xs.eraseIdx n
theorem xo_rem_0 {j : Nat} {ma : MA} {xs : List Int} {k : Int} {e1 : En} (h0 : ∃ ds, env[j]? = some (some (.ow ds))) (hm : ma env = some ([.val (.int k)], e1)) (h : e1[j]? = some (some (.ow (xs.map encI)))) : XV (mRem j ma) env (remG xs k) (fun _ => .nx) (fun r => e1.set j (some (.ow (r.map encI)))) := fun r hr => by
  unfold remG at hr
  cases ha : atFirst k xs with
  | none => rw [ha] at hr; cases hr
  | some n =>
    rw [ha] at hr
    cases hr
    obtain ⟨ds, h0⟩ := h0
    have e : allI (xs.map encI) = some xs := allI_map xs
    unfold mRem
    simp only [h0, hm, h, e, ha]
    rw [erase_map]
theorem xo_rem {j : Nat} {ma : MA} {xs : List Int} {k : Int} {e1 : En} (h0 : ∃ ds, env[j]? = some (some (.ow ds))) (hm : ma env = some ([.val (.int k)], e1)) (h : e1[j]? = some (some (.ow (xs.map encI)))) {E0 : _ → En} (hE : ∀ r, e1.set j (some (.ow (r.map encI))) = E0 r) : XV (mRem j ma) env (remG xs k) (fun _ => .nx) E0 := by
  obtain rfl : (fun r => e1.set j (some (.ow (r.map encI)))) = E0 := funext hE
  exact xo_rem_0 h0 hm h
theorem xo_pop {en : α → PyData} {j : Nat} {xs : List α} (h : env[j]? = some (some (.ow (xs.map en)))) : XV (mPop j) env (xs.getLast?.map fun x => (x, xs.dropLast)) (fun r => .val (en r.1)) (fun r => env.set j (some (.ow (r.2.map en)))) := fun r hr => by
  cases hl : xs.getLast? with
  | none => rw [hl] at hr; cases hr
  | some x =>
    rw [hl] at hr
    cases hr
    unfold mPop
    simp only [h]
    rw [List.length_map, List.getElem?_map, ← List.getLast?_eq_getElem?, hl, List.map_dropLast]
    rfl
/-- xs[i] = x -/
def setG (xs : List α) (i : Int) (x : α) : Option (List α) := (ixN xs.length i).map fun n => xs.set n x
theorem set_map {en : α → PyData} {xs : List α} {n : Nat} {x : α} : (xs.map en).set n (en x) = (xs.set n x).map en := by rw [List.map_set]
theorem xo_setI_0 {en : α → PyData} {j : Nat} {mi me : ME} {xs : List α} {x : α} {i : Int} {p : P} {e1 e2 e3 : En} {ds0 : List PyData} (hm : me env = some (p, e1)) (hf : fzP e1 p = some (en x, e2)) (h0 : e2[j]? = some (some (.ow ds0))) (hi : mi e2 = some (.val (.int i), e3)) (h : e3[j]? = some (some (.ow (xs.map en)))) : XV (mSetI j mi me) env (setG xs i x) (fun _ => .nx) (fun r => e3.set j (some (.ow (r.map en)))) := fun r hr => by
  unfold setG at hr
  cases ha : ixN xs.length i with
  | none => rw [ha] at hr; cases hr
  | some n =>
    rw [ha] at hr
    cases hr
    unfold mSetI bnd
    simp only [hm, hf, h0, hi, h, List.length_map, ha, set_map]
theorem xo_setI {en : α → PyData} {j : Nat} {mi me : ME} {xs : List α} {x : α} {i : Int} {p : P} {e1 e2 e3 : En} {ds0 : List PyData} (hm : me env = some (p, e1)) (hf : fzP e1 p = some (en x, e2)) (h0 : e2[j]? = some (some (.ow ds0))) (hi : mi e2 = some (.val (.int i), e3)) (h : e3[j]? = some (some (.ow (xs.map en)))) {E0 : _ → En} (hE : ∀ r, e3.set j (some (.ow (r.map en))) = E0 r) : XV (mSetI j mi me) env (setG xs i x) (fun _ => .nx) E0 := by
  obtain rfl : (fun r => e3.set j (some (.ow (r.map en)))) = E0 := funext hE
  exact xo_setI_0 hm hf h0 hi h
theorem xv_setI_0 {en : α → PyData} {j : Nat} {mi me : ME} {t : Option β} {xs : β → List α} {x : β → α} {i : β → Int} {p : β → P} {e1 e2 e3 : β → En} {ds0 : β → List PyData} (hm : XV me env t p e1) (hf : ∀ b, fzP (e1 b) (p b) = some (en (x b), e2 b)) (h0 : ∀ b, (e2 b)[j]? = some (some (.ow (ds0 b)))) (hi : ∀ b, mi (e2 b) = some (.val (.int (i b)), e3 b)) (h : ∀ b, (e3 b)[j]? = some (some (.ow ((xs b).map en)))) : XV (mSetI j mi me) env (t.bind fun b => (setG (xs b) (i b) (x b)).map fun r => (b, r)) (fun _ => .nx) (fun q => (e3 q.1).set j (some (.ow (q.2.map en)))) := fun q hq => by
  cases ht : t with
  | none => rw [ht] at hq; cases hq
  | some b =>
    rw [ht] at hq
    have hq' : (setG (xs b) (i b) (x b)).map (fun r => (b, r)) = some q := hq
    cases ha : setG (xs b) (i b) (x b) with
    | none => rw [ha] at hq'; cases hq'
    | some r =>
      rw [ha] at hq'
      cases hq'
      exact xo_setI_0 (hm b ht) (hf b) (h0 b) (hi b) (h b) r ha
theorem xv_setI {en : α → PyData} {j : Nat} {mi me : ME} {t : Option β} {xs : β → List α} {x : β → α} {i : β → Int} {p : β → P} {e1 e2 e3 : β → En} {ds0 : β → List PyData} (hm : XV me env t p e1) (hf : ∀ b, fzP (e1 b) (p b) = some (en (x b), e2 b)) (h0 : ∀ b, (e2 b)[j]? = some (some (.ow (ds0 b)))) (hi : ∀ b, mi (e2 b) = some (.val (.int (i b)), e3 b)) (h : ∀ b, (e3 b)[j]? = some (some (.ow ((xs b).map en)))) {E0 : _ → En} (hE : ∀ q, (e3 q.1).set j (some (.ow (q.2.map en))) = E0 q) : XV (mSetI j mi me) env (t.bind fun b => (setG (xs b) (i b) (x b)).map fun r => (b, r)) (fun _ => .nx) E0 := by
  obtain rfl : (fun q => (e3 q.1).set j (some (.ow (q.2.map en)))) = E0 := funext hE
  exact xv_setI_0 hm hf h0 hi h
/-- xs[i][k] = x -/
def set2G (xs : List (List α)) (i k : Int) (x : α) : Option (List (List α)) := (ixN xs.length i).bind fun n => (xs[n]?).bind fun row => (ixN row.length k).map fun m => xs.set n (row.set m x)
theorem xo_set2_0 {en : α → PyData} {j : Nat} {mi mk me : ME} {xs : List (List α)} {x : α} {i k : Int} {p : P} {e1 e2 e3 e4 : En} (hm : me env = some (p, e1)) (hf : fzP e1 p = some (en x, e2)) (h : e2[j]? = some (some (.ow2 (xs.map fun r => r.map en)))) (hi : mi e2 = some (.val (.int i), e3)) (hk : mk e2 = some (.val (.int k), e4)) : XV (mSet2 j mi mk me) env (set2G xs i k x) (fun _ => .nx) (fun r => e2.set j (some (.ow2 (r.map fun r => r.map en)))) := fun r hr => by
  unfold set2G at hr
  cases ha : ixN xs.length i with
  | none => rw [ha] at hr; cases hr
  | some n =>
    rw [ha, Option.bind_some] at hr
    cases hb : xs[n]? with
    | none => rw [hb] at hr; cases hr
    | some row =>
      rw [hb, Option.bind_some] at hr
      cases hc : ixN row.length k with
      | none => rw [hc] at hr; cases hr
      | some m =>
        rw [hc] at hr
        cases hr
        unfold mSet2 bnd
        simp only [hm, hf, h, hi, hk, List.length_map, ha, List.getElem?_map, hb, Option.map_some, hc]
        rw [set_map, ← List.map_set (f := fun r : List α => r.map en)]
theorem xo_set2 {en : α → PyData} {j : Nat} {mi mk me : ME} {xs : List (List α)} {x : α} {i k : Int} {p : P} {e1 e2 e3 e4 : En} (hm : me env = some (p, e1)) (hf : fzP e1 p = some (en x, e2)) (h : e2[j]? = some (some (.ow2 (xs.map fun r => r.map en)))) (hi : mi e2 = some (.val (.int i), e3)) (hk : mk e2 = some (.val (.int k), e4)) {E0 : _ → En} (hE : ∀ r, e2.set j (some (.ow2 (r.map fun r => r.map en))) = E0 r) : XV (mSet2 j mi mk me) env (set2G xs i k x) (fun _ => .nx) E0 := by
  obtain rfl : (fun r => e2.set j (some (.ow2 (r.map fun r => r.map en)))) = E0 := funext hE
  exact xo_set2_0 hm hf h hi hk
theorem xv_set2_0 {en : α → PyData} {j : Nat} {mi mk me : ME} {t : Option β} {xs : β → List (List α)} {x : β → α} {i k : β → Int} {p : β → P} {e1 e2 e3 e4 : β → En} (hm : XV me env t p e1) (hf : ∀ b, fzP (e1 b) (p b) = some (en (x b), e2 b)) (h : ∀ b, (e2 b)[j]? = some (some (.ow2 ((xs b).map fun r => r.map en)))) (hi : ∀ b, mi (e2 b) = some (.val (.int (i b)), e3 b)) (hk : ∀ b, mk (e2 b) = some (.val (.int (k b)), e4 b)) : XV (mSet2 j mi mk me) env (t.bind fun b => (set2G (xs b) (i b) (k b) (x b)).map fun r => (b, r)) (fun _ => .nx) (fun q => (e2 q.1).set j (some (.ow2 (q.2.map fun r => r.map en)))) := fun q hq => by
  cases ht : t with
  | none => rw [ht] at hq; cases hq
  | some b =>
    rw [ht] at hq
    have hq' : (set2G (xs b) (i b) (k b) (x b)).map (fun r => (b, r)) = some q := hq
    cases ha : set2G (xs b) (i b) (k b) (x b) with
    | none => rw [ha] at hq'; cases hq'
    | some r =>
      rw [ha] at hq'
      cases hq'
      exact xo_set2_0 (hm b ht) (hf b) (h b) (hi b) (hk b) r ha
theorem xv_set2 {en : α → PyData} {j : Nat} {mi mk me : ME} {t : Option β} {xs : β → List (List α)} {x : β → α} {i k : β → Int} {p : β → P} {e1 e2 e3 e4 : β → En} (hm : XV me env t p e1) (hf : ∀ b, fzP (e1 b) (p b) = some (en (x b), e2 b)) (h : ∀ b, (e2 b)[j]? = some (some (.ow2 ((xs b).map fun r => r.map en)))) (hi : ∀ b, mi (e2 b) = some (.val (.int (i b)), e3 b)) (hk : ∀ b, mk (e2 b) = some (.val (.int (k b)), e4 b)) {E0 : _ → En} (hE : ∀ q, (e2 q.1).set j (some (.ow2 (q.2.map fun r => r.map en))) = E0 q) : XV (mSet2 j mi mk me) env (t.bind fun b => (set2G (xs b) (i b) (k b) (x b)).map fun r => (b, r)) (fun _ => .nx) E0 := by
  obtain rfl : (fun q => (e2 q.1).set j (some (.ow2 (q.2.map fun r => r.map en)))) = E0 := funext hE
  exact xv_set2_0 hm hf h hi hk
/-- xs[i][k] of rows that a name alone holds -/
def ix2G (xs : List (List α)) (i k : Int) : Option α := (atI xs i).bind fun row => atI row k
theorem xo_ix2 {en : α → PyData} {j : Nat} {ma mb : ME} {xs : List (List α)} {i k : Int} (h : env[j]? = some (some (.ow2 (xs.map fun r => r.map en)))) (hi : ma env = some (.val (.int i), env)) (hk : mb env = some (.val (.int k), env)) : XV (mIx2 j ma mb) env (ix2G xs i k) (fun a => .val (en a)) (fun _ => env) := fun r hr => by
  unfold ix2G at hr
  cases ha : atI xs i with
  | none => rw [ha] at hr; cases hr
  | some row =>
    rw [ha, Option.bind_some] at hr
    have e : atI (xs.map fun r => r.map en) i = some (row.map en) := by
      unfold atI at ha ⊢
      rw [List.length_map]
      cases hx : ixN xs.length i with
      | none => rw [hx] at ha; cases ha
      | some n =>
        rw [hx] at ha
        show (xs.map _)[n]? = _
        rw [List.getElem?_map, show xs[n]? = some row from ha]
        rfl
    unfold mIx2 bnd
    simp only [h, hi, e, hk, atI_map, hr, Option.map_some]
/-- a, b = xs[i], ..: xs[i], xs[k] = x, y -/
def swapG (xs : List α) (i k : Int) (x y : α) : Option (List α) := (setG xs i x).bind fun ys => setG ys k y
theorem xo_swap_0 {en : α → PyData} {j : Nat} {mi mk : ME} {ma : MA} {xs : List α} {x y : α} {i k : Int} {ds0 : List PyData} (h0 : env[j]? = some (some (.ow ds0))) (hm : ma env = some ([.val (en x), .val (en y)], env)) (hi : mi env = some (.val (.int i), env)) (h : env[j]? = some (some (.ow (xs.map en)))) (hk : ∀ ys : List α, mk (env.set j (some (.ow (ys.map en)))) = some (.val (.int k), env.set j (some (.ow (ys.map en))))) : XV (mSwap j mi mk ma) env (swapG xs i k x y) (fun _ => .nx) (fun r => env.set j (some (.ow (r.map en)))) := fun r hr => by
  have hj : j < env.length := (List.getElem?_eq_some_iff.mp h).1
  unfold swapG setG at hr
  cases ha : ixN xs.length i with
  | none => rw [ha] at hr; cases hr
  | some n =>
    rw [ha, Option.map_some, Option.bind_some] at hr
    cases hb : ixN (xs.set n x).length k with
    | none => rw [hb] at hr; cases hr
    | some m =>
      rw [hb] at hr
      cases hr
      unfold mSwap
      simp only [h, hm, hi, List.length_map, ha, set_map, hk, List.getElem?_set_self hj, hb, List.set_set]
theorem xo_swap {en : α → PyData} {j : Nat} {mi mk : ME} {ma : MA} {xs : List α} {x y : α} {i k : Int} {ds0 : List PyData} (h0 : env[j]? = some (some (.ow ds0))) (hm : ma env = some ([.val (en x), .val (en y)], env)) (hi : mi env = some (.val (.int i), env)) (h : env[j]? = some (some (.ow (xs.map en)))) (hk : ∀ ys : List α, mk (env.set j (some (.ow (ys.map en)))) = some (.val (.int k), env.set j (some (.ow (ys.map en))))) {E0 : _ → En} (hE : ∀ r, env.set j (some (.ow (r.map en))) = E0 r) : XV (mSwap j mi mk ma) env (swapG xs i k x y) (fun _ => .nx) E0 := by
  obtain rfl : (fun r => env.set j (some (.ow (r.map en)))) = E0 := funext hE
  exact xo_swap_0 h0 hm hi h hk
/-- xs.index(x) -/
theorem atEqv_I {k : Int} : ∀ xs : List Int, atEqv (.int k) (xs.map encI) = atFirst k xs
  | [] => rfl
  | x :: xs => by
    show (if PyData.eqv (encI x) (.int k) = true then some 0 else (atEqv (.int k) (xs.map encI)).map (· + 1)) = if x = k then some 0 else (atFirst k xs).map (· + 1)
    rw [atEqv_I xs]
    by_cases h : x = k
    · rw [if_pos h, if_pos (show PyData.eqv (encI x) (.int k) = true from (eo_I.eq x k).mpr h)]
    · rw [if_neg h, if_neg (show ¬ PyData.eqv (encI x) (.int k) = true from fun z => h ((eo_I.eq x k).mp z))]
theorem xo_idx {p : P} {xs : List Int} {k : Int} (hs : sq env p = some (xs.map encI)) : XV (fun e => (gIdx e p (.val (.int k))).map fun r => (r, e)) env (atFirst k xs) (fun j => .val (.int (j : Nat))) (fun _ => env) := fun j hj => by
  show (gIdx env p (.val (.int k))).map _ = _
  unfold gIdx
  simp only [hs]
  rw [if_pos ⟨rfl, flat_I⟩, atEqv_I, hj]
  rfl
theorem xv_idx {me ma : ME} {p : P} {q : P} {ds : List PyData} {t : Option β} {av : β → P} {st : β → En} (hm : me env = some (p, env)) (hs : sq env p = some ds) (h : XV (bnd ma fun q e2 => (gIdx e2 p q).map fun r => (r, e2)) env t av st) : XV (mIdx me ma) env t av st := fun b hb => by
  have e : mIdx me ma env = bnd ma (fun q e2 => (gIdx e2 p q).map fun r => (r, e2)) env := by
    rw [show mIdx me ma env = bnd me (fun p e => match sq e p with | some _ => bnd ma (fun q e2 => (gIdx e2 p q).map fun r => (r, e2)) e | none => none) env from rfl, bnd_eq hm]
    simp only [hs]
  rw [e]
  exact h b hb
theorem os_aug_0 {i : Nat} {f : Int → Int → Int} {me : ME} {x y : Int} {e1 : En} (h : env[i]? = some (some (.fz (.int x)))) (hm : me env = some (.val (.int y), e1)) : mAug i f me env = some (.nx, e1.set i (some (.fz (.int (f x y))))) := by
  unfold mAug
  simp only [h, hm]
theorem os_aug {i : Nat} {f : Int → Int → Int} {me : ME} {x y : Int} {e1 : En} (h : env[i]? = some (some (.fz (.int x)))) (hm : me env = some (.val (.int y), e1)) {E0 : En} (hE : e1.set i (some (.fz (.int (f x y)))) = E0) : mAug i f me env = some (.nx, E0) := by
  subst hE
  exact os_aug_0 h hm
theorem xv_act {i s k : Nat} {tab : List (Str × MF)} {pn : List Nat} {ma : MA} {z : Str} {mf : MF} {t : Option β} {av : β → O} {st E : β → En} (hz : env[s]? = some (some (.fz (.str z)))) (ht : tab.lookup z = some mf) (hi : i < env.length) (hx : XV (bnd ma fun ps e => callP pn mf ps e) (env.set i none) t av st) (hE : ∀ b, (st b).set k (some (av b)) = E b) : XV (mAct i s k tab pn ma) env t (fun _ => .nx) E := fun b hb => by
  unfold mAct
  simp only [hz, ht]
  rw [if_pos hi]
  simp only [hx b hb, hE b]
/-- a cut of the script -/
theorem xo_slS {K : PySem.W.Frag} {i : Nat} {ml mh : MP} {ns : List Int} {lo hi : Option Int} (h : env[i]? = some (some (.sc K ns))) (hl : ml env = some (lo, env)) (hh : mh env = some (hi, env)) : mSlS K i ml mh env = some ((cutG ns lo hi).map encI, env) := by
  unfold mSlS bnd
  simp only [h, hl, hh, if_true]
  rw [show (ns.map PyData.int) = ns.map encI from rfl, cut_map]
theorem oe_zip {ea : α → PyData} {eb : β → PyData} {p q : P} {xs : List α} {ys : List β} {e1 e2 : En} (hp : fzP env p = some (.list (xs.map ea), e1)) (hq : fzP e1 q = some (.list (ys.map eb), e2)) : (match [p, q] with | [p, q] => (match fzP env p with | some (.list ds, e1) => (match fzP e1 q with | some (.list es, e2) => some (zipD ds es, e2) | _ => none) | _ => none) | _ => none : Option (List PyData × En)) = some ((xs.zip ys).map (encT ea eb), e2) := by
  simp only [hp, hq, zip_map]
theorem xo_lrg2 {i j : Int} : XV (fun e => (match P.val (.int i), P.val (.int j) with | .val (.int a), .val (.int b) => if okRg a b = true then some (rgD a (b - a).toNat, e) else none | _, _ => none : Option (List PyData × En))) env (rngV i j) (fun r => r.map encI) (fun _ => env) := fun r hr => by
  unfold rngV at hr
  split at hr
  · rename_i h
    cases hr
    show (if _ then _ else _) = _
    rw [if_pos (show okRg i j = true from decide_eq_true ⟨h.1.1, h.1.2.1, h.1.2.2.1, h.1.2.2.2, h.2⟩), range_map]
  · cases hr
theorem xv_swap_0 {en : α → PyData} {j : Nat} {mi mk : ME} {ma : MA} {t : Option β} {xs : List α} {x y : β → α} {i k : Int} (hm : XV ma env t (fun b => [.val (en (x b)), .val (en (y b))]) (fun _ => env)) (hi : mi env = some (.val (.int i), env)) (h : env[j]? = some (some (.ow (xs.map en)))) (hk : ∀ ys : List α, mk (env.set j (some (.ow (ys.map en)))) = some (.val (.int k), env.set j (some (.ow (ys.map en))))) : XV (mSwap j mi mk ma) env (t.bind fun b => (swapG xs i k (x b) (y b)).map fun r => (b, r)) (fun _ => .nx) (fun q => env.set j (some (.ow (q.2.map en)))) := fun q hq => by
  cases ht : t with
  | none => rw [ht] at hq; cases hq
  | some b =>
    rw [ht] at hq
    have hq' : (swapG xs i k (x b) (y b)).map (fun r => (b, r)) = some q := hq
    cases ha : swapG xs i k (x b) (y b) with
    | none => rw [ha] at hq'; cases hq'
    | some r =>
      rw [ha] at hq'
      cases hq'
      exact xo_swap_0 h (hm b ht) hi h hk r ha
theorem xv_swap {en : α → PyData} {j : Nat} {mi mk : ME} {ma : MA} {t : Option β} {xs : List α} {x y : β → α} {i k : Int} (hm : XV ma env t (fun b => [.val (en (x b)), .val (en (y b))]) (fun _ => env)) (hi : mi env = some (.val (.int i), env)) (h : env[j]? = some (some (.ow (xs.map en)))) (hk : ∀ ys : List α, mk (env.set j (some (.ow (ys.map en)))) = some (.val (.int k), env.set j (some (.ow (ys.map en))))) {E0 : _ → En} (hE : ∀ q, env.set j (some (.ow (q.2.map en))) = E0 q) : XV (mSwap j mi mk ma) env (t.bind fun b => (swapG xs i k (x b) (y b)).map fun r => (b, r)) (fun _ => .nx) E0 := by
  obtain rfl : (fun q => env.set j (some (.ow (q.2.map en)))) = E0 := funext hE
  exact xv_swap_0 hm hi h hk
/-- rows that a name alone holds -/
theorem lc_2 {mg : PyData → En → Option En} {mo : MO} {vs : List Nat} {en : γ → PyData} {en' : β → PyData} {elt : γ → Option (List β)} {E1 : γ → En} {xs : List γ} {e0 : En} (hw0 : wipeE e0 vs = env) (hg : ∀ a, mg (en a) env = some (E1 a)) (he : ∀ a, XV mo (E1 a) (elt a) (fun y => .ow (y.map en')) (fun _ => E1 a)) (hw : ∀ a, wipeE (E1 a) vs = env) :
    XV (fun e => (mLc2Go mg mYes mo vs (xs.map en) [] (wipeE e vs)).map fun r => (O.ow2 r.1, r.2)) e0 (cmpO (fun _ => some true) elt xs) (fun r => O.ow2 (r.map fun y => y.map en')) (fun _ => env) := fun r hr => by
  have go : ∀ (xs : List γ) (acc : List (List PyData)) (r : List (List β)), acc.length + xs.length ≤ sizeLine → cmpOGo (fun _ => some true) elt xs = some r → mLc2Go mg mYes mo vs (xs.map en) acc env = some (acc ++ r.map fun y => y.map en', env) := by
    intro xs
    induction xs with
    | nil => intro acc r _ h; cases h; simp [mLc2Go]
    | cons a as ih =>
      intro acc r hz h
      rw [List.length_cons] at hz
      unfold cmpOGo at h
      simp only [Option.bind_some, if_true] at h
      cases hy : elt a with
      | none => rw [hy] at h; cases h
      | some y =>
        rw [hy, Option.bind_some] at h
        cases hys : cmpOGo (fun _ => some true) elt as with
        | none => rw [hys] at h; cases h
        | some ys =>
          rw [hys] at h
          cases h
          have h3 := he a y hy
          show mLc2Go mg mYes mo vs (en a :: as.map en) acc env = _
          unfold mLc2Go mYes
          simp only [hg, h3, hw]
          have ih' := ih (acc ++ [y.map en']) ys (by rw [List.length_append, List.length_singleton]; omega) hys
          unfold mYes at ih'
          rw [if_pos (by omega), ih', List.append_assoc]
          rfl
  unfold cmpO at hr
  split at hr
  · rename_i hz
    show (mLc2Go _ _ _ _ _ _ (wipeE e0 vs)).map _ = _
    rw [hw0, go xs [] r (by simpa using hz) hr]
    rfl
  · cases hr
theorem os_ret2 {en : α → PyData} {i : Nat} {xs : List (List α)} {e2 : En} (h : env[i]? = some (some (.ow2 (xs.map fun r => r.map en)))) (he : env.set i (some (.fz (encL (encL en) xs))) = e2) : mRet (mVar i) env = some (Ctl.rt (.fz (encL (encL en) xs)), e2) := by
  have e : (xs.map fun r => r.map en).map PyData.list = xs.map (encL en) := by rw [List.map_map]; rfl
  subst he
  unfold mRet mVar bnd fzP
  simp only [h, e]
  rfl
theorem xo_appD {j : Nat} {ma : MA} {ds : List PyData} {d : PyData} {p : P} {e1 e2 : En} (h0 : ∃ ds, env[j]? = some (some (.ow ds))) (hm : ma env = some ([p], e1)) (hf : fzP e1 p = some (d, e2)) (h : e2[j]? = some (some (.ow ds))) {E0 : _ → En} (hE : ∀ r, e2.set j (some (.ow r)) = E0 r) : XV (mApp j ma) env (appG ds d) (fun _ => .nx) E0 := by
  have hid : ∀ l : List PyData, l.map encD = l := fun l => (List.map_congr_left (fun x _ => rfl)).trans (List.map_id l)
  exact xo_app (en := encD) (xs := ds) (x := d) h0 hm hf (by rw [hid]; exact h) (fun r => by rw [hid]; exact hE r)
end
end Tr
namespace Tr
open PySem PySem.Spec PyProof.Rows L2
/-! ### more typed words -/
section
variable {α β γ δ : Type} {env : En}
theorem zip_M {ea : α → PyData} {eb : β → PyData} {ma : MA} {p q : P} {xs : List α} {ys : List β} {e0 e1 e2 : En} (ha : ma env = some ([p, q], e0)) (hp : fzP e0 p = some (.list (xs.map ea), e1)) (hq : fzP e1 q = some (.list (ys.map eb), e2)) : mZip ma env = some ((List.zip xs ys).map (encT ea eb), e2) := by
  unfold mZip bnd
  simp only [ha, hp, hq, zip_map]
theorem oe_sortI {p : P} {xs : List Int} (hs : sq env p = some (xs.map encI)) : (gSortI env [p]).map (fun r => (r, env)) = some ((srtI xs).map encI, env) := by
  unfold gSortI
  have e : allI (xs.map encI) = some xs := allI_map xs
  simp only [hs, Option.bind_some, e, Option.map_some]
  rfl
theorem allPP_map : ∀ xs : List (Int × Int), allPP (xs.map (encT encI encI)) = some xs
  | [] => rfl
  | x :: xs => by
    show allPP (PyData.tuple [.int x.1, .int x.2] :: xs.map (encT encI encI)) = _
    simp only [allPP, allPP_map xs, isPP]
theorem oe_sortP {p : P} {xs : List (Int × Int)} (hs : sq env p = some (xs.map (encT encI encI))) : (gSortP env [p]).map (fun r => (r, env)) = some ((srtPP xs).map (encT encI encI), env) := by
  unfold gSortP
  simp only [hs, Option.bind_some, allPP_map, Option.map_some]
  rfl
/-! a comprehension over two -/
def cmp2Go (inner : γ → Option (List δ)) (cond : γ → δ → Option Bool) (elt : γ → δ → Option β) : Nat → List γ → Option (List β)
  | _, [] => some []
  | k, a :: as => (inner a).bind fun ds => if k + ds.length ≤ sizeLine then (cmpOGo (cond a) (elt a) ds).bind fun r => (cmp2Go inner cond elt (k + r.length) as).map fun r' => r ++ r' else none
def cmp2 (inner : γ → Option (List δ)) (cond : γ → δ → Option Bool) (elt : γ → δ → Option β) (xs : List γ) : Option (List β) := cmp2Go inner cond elt 0 xs
theorem lc2_O {mg mg1 : PyData → En → Option En} {mi1 : ML} {mt1 : MT} {me : ME} {vs vs1 : List Nat} {en : γ → PyData} {en1 : δ → PyData} {en' : β → PyData} {inner : γ → Option (List δ)} {cond : γ → δ → Option Bool} {elt : γ → δ → Option β} {E1 : γ → En} {E2 : γ → δ → En} {xs : List γ} {e0 : En}
    (hw0 : wipeE e0 vs = env) (hg : ∀ a, mg (en a) env = some (E1 a)) (hi : ∀ a, XV mi1 (E1 a) (inner a) (fun ds => ds.map en1) (fun _ => E1 a)) (hw1 : ∀ a, wipeE (E1 a) vs1 = E1 a) (hg1 : ∀ a d, mg1 (en1 d) (E1 a) = some (E2 a d)) (ht : ∀ a d, XV mt1 (E2 a d) (cond a d) (fun c => c) (fun _ => E2 a d))
    (he : ∀ a d, XV me (E2 a d) (elt a d) (fun y => .val (en' y)) (fun _ => E2 a d)) (hw2 : ∀ a d, wipeE (E2 a d) vs1 = E1 a) (hw : ∀ a, wipeE (E1 a) vs = env) :
    XV (fun e => mLccGo mg mYes mi1 mg1 mt1 me vs vs1 (xs.map en) [] (wipeE e vs)) e0 (cmp2 inner cond elt xs) (fun r => r.map en') (fun _ => env) := fun r hr => by
  have go : ∀ (xs : List γ) (acc : List PyData) (r : List β), cmp2Go inner cond elt acc.length xs = some r → mLccGo mg mYes mi1 mg1 mt1 me vs vs1 (xs.map en) acc env = some (acc ++ r.map en', env) := by
    intro xs
    induction xs with
    | nil => intro acc r h; cases h; simp [mLccGo]
    | cons a as ih =>
      intro acc r h
      unfold cmp2Go at h
      cases h1 : inner a with
      | none => rw [h1] at h; cases h
      | some ds =>
        rw [h1, Option.bind_some] at h
        split at h
        · rename_i hz
          cases h2 : cmpOGo (cond a) (elt a) ds with
          | none => rw [h2] at h; cases h
          | some r1 =>
            rw [h2, Option.bind_some] at h
            cases h3 : cmp2Go inner cond elt (acc.length + r1.length) as with
            | none => rw [h3] at h; cases h
            | some r2 =>
              rw [h3] at h
              cases h
              have i1 := hi a ds h1
              have l := lc_go (σ := Unit) (mg := mg1) (mt := mt1) (me := me) (vs := vs1) (en := en1) (en' := en') (cond := fun d s => (cond a d).map fun c => (c, s)) (elt := fun d s => (elt a d).map fun y => (y, s)) (E := fun _ => E1 a) (E1 := fun d _ => E2 a d) (fun d _ => hg1 a d) (fun d s => xv_map (ht a d)) (fun d s => xv_map (he a d)) (fun d _ => hw2 a d) ds () acc hz (r1, ()) (by rw [cmpO_G, h2]; rfl)
              have i2 := ih (acc ++ r1.map en') r2 (by rw [List.length_append, List.length_map]; exact h3)
              show mLccGo mg mYes mi1 mg1 mt1 me vs vs1 (en a :: as.map en) acc env = _
              unfold mLccGo
              simp only [hg, mYes, i1, hw1, l, hw, i2]
              rw [List.map_append, List.append_assoc]
        · cases h
  show mLccGo _ _ _ _ _ _ _ _ _ _ (wipeE e0 vs) = _
  rw [hw0, go xs [] r hr]
  rfl
/-! a range that has a name -/
def rgN (lo hi : Int) : Option (List Int) := if -(2 ^ 62) ≤ lo ∧ lo < 2 ^ 62 ∧ -(2 ^ 62) ≤ hi ∧ hi < 2 ^ 62 then some (rangeL lo (hi - lo).toNat) else none
theorem xo_rgv {i : Nat} {lo hi : Int} (h : env[i]? = some (some (.rg lo hi))) : XV (mRgv i) env (rgN lo hi) (fun r => r.map encI) (fun _ => env) := fun r hr => by
  unfold rgN at hr
  split at hr
  · rename_i hb
    cases hr
    unfold mRgv
    simp only [h]
    rw [if_pos hb, range_map]
  · cases hr
end
/-! what may not be there -/
theorem eo_O {α : Type} {en : α → PyData} {n : Nat} (h : EncOk en n) (hn : ∀ a, isN (en a) = false) : EncOk (encO en) n := by
  refine ⟨fun a b => ?_, fun a => ?_, fun a => ?_⟩
  · cases a with
    | none =>
      cases b with
      | none => simp [encO, PyData.eqv]
      | some b =>
        have := hn b
        constructor
        · intro e
          exfalso
          show False
          have e : PyData.eqv .none (en b) = true := e
          cases hb : en b <;> rw [hb] at e this <;> first | (simp [isN] at this; done) | (simp [PyData.eqv] at e; done)
        · intro e; cases e
    | some a =>
      cases b with
      | none =>
        have := hn a
        constructor
        · intro e
          exfalso
          have e : PyData.eqv (en a) .none = true := e
          cases hb : en a <;> rw [hb] at e this <;> first | (simp [isN] at this; done) | (simp [PyData.eqv] at e; done)
        · intro e; cases e
      | some b =>
        show PyData.eqv (en a) (en b) = true ↔ _
        rw [h.eq]
        constructor
        · intro e; rw [e]
        · intro e; exact Option.some.inj e
  · cases a with
    | none => rfl
    | some a => exact h.can a
  · cases a with
    | none => exact Nat.zero_le _
    | some a => exact h.dep a
/-! in, over pairs and the like -/
theorem units1 {k : Nat} {A : Around} (r : Room k A) : A.units + 65 < cLine := by have := r.un; omega
theorem inDK {X : Cx} {K : PySem.W.Frag} (hu : X.A.units + 65 < cLine) (h : X.K = K := by rfl) : OpR X (compareOp .In) (rInD K) := by subst h; exact op_inD hu
theorem ninDK {X : Cx} {K : PySem.W.Frag} (hu : X.A.units + 65 < cLine) (h : X.K = K := by rfl) : OpR X (compareOp .NotIn) (rNotInD K) := by subst h; exact op_notInD hu
def gInD (neg : Bool) : En → P → P → Option P := fun env p q => match vw env p, vw env q with
  | some d, some (.list ds) => if SeqAt.shaped d && SeqAt.shaped (.list ds) then some (.val (.bool (neg ^^ ds.any fun z => PyData.eqv z d))) else none
  | _, _ => none
theorem b_inD {K : PySem.W.Frag} : BinK (rInD K) (gInD false) := by
  intro F H σ env Sl x y p1 p2 p R h1 h2 e Q q
  unfold gInD at e
  split at e
  · rename_i d ds e1 e2
    split at e
    · rename_i hs
      cases e
      rw [Bool.and_eq_true] at hs
      exact ⟨d, ds, vw_dp R h1 e1 (SeqAt.canLay_of_shaped hs.1), vw_dp R h2 e2 (SeqAt.canLay_of_shaped hs.2), hs.1, hs.2, q _ F H (Ex.refl F) (Ex.refl H) R.ex (fun _ _ z => .inl z) (by show V.bl _ = V.bl _; rw [Bool.false_xor])⟩
    · cases e
  · cases e
theorem b_ninD {K : PySem.W.Frag} : BinK (rNotInD K) (gInD true) := by
  intro F H σ env Sl x y p1 p2 p R h1 h2 e Q q
  unfold gInD at e
  split at e
  · rename_i d ds e1 e2
    split at e
    · rename_i hs
      cases e
      rw [Bool.and_eq_true] at hs
      exact ⟨d, ds, vw_dp R h1 e1 (SeqAt.canLay_of_shaped hs.1), vw_dp R h2 e2 (SeqAt.canLay_of_shaped hs.2), hs.1, hs.2, q _ F H (Ex.refl F) (Ex.refl H) R.ex (fun _ _ z => .inl z) (by show V.bl _ = V.bl _; rw [Bool.true_xor])⟩
    · cases e
  · cases e
theorem oe_inD {α : Type} [BEq α] [LawfulBEq α] {en : α → PyData} {n : Nat} {env : En} {neg : Bool} {p q : P} {a : α} {xs : List α} (h : EncOk en n) (hp : vw env p = some (en a)) (hq : vw env q = some (.list (xs.map en))) (hn : n + 1 ≤ 64 := by decide) : (gInD neg env p q).map (fun r => (r, env)) = some (.val (.bool (sg neg (decide (a ∈ xs)))), env) := by
  unfold gInD
  simp only [hp, hq]
  rw [if_pos (by rw [shaped_enc h (by omega), Bool.true_and]; exact shaped_enc (eo_L h) hn xs)]
  rw [show ((xs.map en).any fun y => PyData.eqv y (en a)) = decide (a ∈ xs) from by
    rw [Bool.eq_iff_iff, List.any_eq_true, decide_eq_true_eq]
    constructor
    · rintro ⟨d, hd, h'⟩
      obtain ⟨y, hy, rfl⟩ := List.mem_map.mp hd
      rw [← (h.eq y a).mp h']; exact hy
    · intro h'
      exact ⟨_, List.mem_map.mpr ⟨a, h', rfl⟩, (h.eq a a).mpr rfl⟩]
  rw [sg_xor]
  rfl
/-! places that are looked up -/
section
variable {α : Type} {env : En}
theorem xv_ix2 {en : α → PyData} {j : Nat} {ma mb : ME} {xs : List (List α)} {t1 t2 : Option Int} (h : env[j]? = some (some (.ow2 (xs.map fun r => r.map en)))) (hi : XV ma env t1 (fun i => .val (.int i)) (fun _ => env)) (hk : XV mb env t2 (fun i => .val (.int i)) (fun _ => env)) : XV (mIx2 j ma mb) env (t1.bind fun i => t2.bind fun k => ix2G xs i k) (fun a => .val (en a)) (fun _ => env) := fun r hr => by
  cases h1 : t1 with
  | none => rw [h1] at hr; cases hr
  | some i =>
    cases h2 : t2 with
    | none => rw [h1, h2] at hr; cases hr
    | some k =>
      rw [h1, h2] at hr
      exact xo_ix2 h (hi i h1) (hk k h2) r hr
theorem xw_set2 {en : α → PyData} {j : Nat} {mi mk me : ME} {xs : List (List α)} {x : α} {t1 t2 : Option Int} {p : P} {e1 e2 : En} (hm : me env = some (p, e1)) (hf : fzP e1 p = some (en x, e2)) (h : e2[j]? = some (some (.ow2 (xs.map fun r => r.map en)))) (hi : XV mi e2 t1 (fun i => .val (.int i)) (fun _ => e2)) (hk : XV mk e2 t2 (fun i => .val (.int i)) (fun _ => e2)) {E0 : _ → En} (hE : ∀ r, e2.set j (some (.ow2 (r.map fun r => r.map en))) = E0 r) : XV (mSet2 j mi mk me) env (t1.bind fun i => t2.bind fun k => set2G xs i k x) (fun _ => .nx) E0 := fun r hr => by
  cases h1 : t1 with
  | none => rw [h1] at hr; cases hr
  | some i =>
    cases h2 : t2 with
    | none => rw [h1, h2] at hr; cases hr
    | some k =>
      rw [h1, h2] at hr
      exact xo_set2 hm hf h (hi i h1) (hk k h2) hE r hr
theorem xv_set2w {β : Type} {en : α → PyData} {j : Nat} {mi mk me : ME} {t : Option β} {xs : β → List (List α)} {x : β → α} {t1 t2 : β → Option Int} {p : β → P} {e1 e2 : β → En} (hm : XV me env t p e1) (hf : ∀ b, fzP (e1 b) (p b) = some (en (x b), e2 b)) (h : ∀ b, (e2 b)[j]? = some (some (.ow2 ((xs b).map fun r => r.map en)))) (hi : ∀ b, XV mi (e2 b) (t1 b) (fun i => .val (.int i)) (fun _ => e2 b)) (hk : ∀ b, XV mk (e2 b) (t2 b) (fun i => .val (.int i)) (fun _ => e2 b)) {E0 : _ → En} (hE : ∀ q, (e2 q.1).set j (some (.ow2 (q.2.map fun r => r.map en))) = E0 q) : XV (mSet2 j mi mk me) env (t.bind fun b => ((t1 b).bind fun i => (t2 b).bind fun k => set2G (xs b) i k (x b)).map fun r => (b, r)) (fun _ => .nx) E0 := fun q hq => by
  cases ht : t with
  | none => rw [ht] at hq; cases hq
  | some b =>
    rw [ht] at hq
    have hq' : (((t1 b).bind fun i => (t2 b).bind fun k => set2G (xs b) i k (x b)).map fun r => (b, r)) = some q := hq
    cases ha : ((t1 b).bind fun i => (t2 b).bind fun k => set2G (xs b) i k (x b)) with
    | none => rw [ha] at hq'; cases hq'
    | some r =>
      rw [ha] at hq'
      cases hq'
      exact (xw_set2 (E0 := fun r => (e2 b).set j (some (.ow2 (r.map fun r => r.map en)))) (hm b ht) (hf b) (h b) (hi b) (hk b) (fun _ => rfl) r ha).trans (congrArg (fun z => some (Ctl.nx, z)) (hE (b, r)))
end
/-! names of ranges, lists unpacked, tuple(..) -/
section
variable {env : En}
theorem os_rg {i : Nat} {ma : MA} {j : Int} {e1 E0 : En} (h : ma env = some ([.val (.int j)], e1)) (hE : e1.set i (some (.rg 0 j)) = E0) : mAsgO i (mRg1 ma) env = some (.nx, E0) := by
  unfold mAsgO mRg1 bnd
  simp only [h]
  rw [← hE]
def un2 {α : Type} : List α → Option (α × α)
  | [a, b] => some (a, b)
  | _ => none
def un3 {α : Type} : List α → Option (α × α × α)
  | [a, b, c] => some (a, b, c)
  | _ => none
theorem xo_un3 {α : Type} {en : α → PyData} {me : ME} {i j k : Nat} {xs : List α} {p : P} {e1 e2 : En} {E : α × α × α → En} (h : me env = some (p, e1)) (hf : fzP e1 p = some (.list (xs.map en), e2)) (hE : ∀ q, ((e2.set i (some (.fz (en q.1)))).set j (some (.fz (en q.2.1)))).set k (some (.fz (en q.2.2))) = E q) : XV (mAsg me (mgL [i, j, k])) env (un3 xs) (fun _ => .nx) E := fun q hq => by
  match xs, hq with
  | [a, b, c], hq =>
    cases hq
    rw [← hE]
    unfold mAsg bnd
    simp only [h, hf]
    rfl
theorem xo_un2 {α : Type} {en : α → PyData} {me : ME} {i j : Nat} {xs : List α} {p : P} {e1 e2 : En} {E : α × α → En} (h : me env = some (p, e1)) (hf : fzP e1 p = some (.list (xs.map en), e2)) (hE : ∀ q, (e2.set i (some (.fz (en q.1)))).set j (some (.fz (en q.2))) = E q) : XV (mAsg me (mgL [i, j])) env (un2 xs) (fun _ => .nx) E := fun q hq => by
  match xs, hq with
  | [a, b], hq =>
    cases hq
    rw [← hE]
    unfold mAsg bnd
    simp only [h, hf]
    rfl
theorem oe_tuple {α : Type} {en : α → PyData} {p : P} {xs : List α} (hs : sq env p = some (xs.map en)) : (gTupleOf env [p]).map (fun r => (r, env)) = some (.val (.tuple (xs.map en)), env) := by
  unfold gTupleOf
  simp only [hs]
  rfl
end
/-- `x is None`, `x is not None` of a name that may hold nothing -/
theorem sv_optN {α β : Type} {n mA mB : MS} {mc : MT} {post : β → Ctl → En → Prop} {x : Option α} {E : Option α → En} {tA : Option β} {tB : α → Option β}
    (hc : ∀ x : Option α, mc (E x) = some (Option.isNone x, E x)) (hN : SV (mSeq mA n) (E none) tA post) (hS : ∀ v, SV (mSeq mB n) (E (some v)) (tB v) post) : SV (mSeq (mIf mc mA mB) n) (E x) (Option.elim x tA tB) post := by
  cases x with
  | none => exact fun b hb => sv_if (c := true) (tB := none) (hc none) hN sv_never b hb
  | some v => exact fun b hb => sv_if (c := false) (tA := none) (hc (some v)) sv_never (hS v) b hb
theorem sv_optS {α β : Type} {n mA mB : MS} {mc : MT} {post : β → Ctl → En → Prop} {x : Option α} {E : Option α → En} {tA : Option β} {tB : α → Option β}
    (hc : ∀ x : Option α, mc (E x) = some (!(Option.isNone x), E x)) (hN : SV (mSeq mB n) (E none) tA post) (hS : ∀ v, SV (mSeq mA n) (E (some v)) (tB v) post) : SV (mSeq (mIf mc mA mB) n) (E x) (Option.elim x tA tB) post := by
  cases x with
  | none => exact fun b hb => sv_if (c := false) (tA := none) (hc none) sv_never hN b hb
  | some v => exact fun b hb => sv_if (c := true) (tB := none) (hc (some v)) (hS v) sv_never b hb
end Tr
namespace Tr
open PySem PySem.Spec PyProof.Rows L2
/-! ### a property, read -/
section
variable {X : Cx} {k : Nat} {g C p : Addr} {fd : FuncData} {ps : List Str} {sp : Sp} {m : Str} {apos : Pos} {o : Expr} {te : TE} {ds : List Value} {dvs : List V}
theorem getpropG_ok {pins : List (Addr × Obj)} {σ : L2.St} {H : Hp} {s : Shared} {Q : VK} {b : Bool} {E' : Value → Shared → Prop} {a dx : Addr} {fs : List (Str × V)} (I : Inv X pins σ H s) (ea : H a = some (.ins C dx fs)) (c : Cls X.K C) (hp : PropOf X.K C m p g)
    (F : FnG X.prog X.w X.K X.mg X.base k g fd ps sp) (hr : Room (k + 1) X.A) (gu : X.A.guards = some []) (hb : Binds X.K fd ps ds) (hd : Vals dvs ds) (h : sp (.ref a :: dvs) H Q E0) :
    wpAny (model X.prog X.w) X.A (getAttr (.ref a) m b) (EP X pins σ Q) E' s := by
  obtain ⟨mA, O, _, _, _, _⟩ := ins_get I.hok ea
  obtain ⟨od, J, _⟩ := O.look
  obtain ⟨rest, hrec⟩ := hp.rec_
  have I1 := I.tok (s.toks + 1)
  have hl : ([Value.ref a] ++ ds).length = ps.length := by
    rw [← F.len _ _ _ _ h]
    show ds.length + 1 = dvs.length + 1
    rw [hd.length]
  have hc : (PySem.W.clsIn X.K C).isSome = true := by
    obtain ⟨cd, hc, _⟩ := PySem.W.any_some c.hd
    rw [hc]
    rfl
  refine PySem.W.get_bind I.kIn J (PySem.W.plainGet_of (c.get m)).1 (PySem.W.findObj_data hc hp.at_ hp.get hp.tak) (PySem.W.plainGet_of (c.get m)).2 (wpAny_call (PySem.W.prop_get (s := { s with toks := s.toks + 1 }) I.kIn hrec ?_))
  refine codeAny_mono (F.go X.A.in1 X.stack { s with toks := s.toks + 1 } H ⟨[.ref a], []⟩ (.ref a :: ds) (.ref a :: dvs) Q E0 hr.in1 gu I1.env0.in1 (hb _ [.ref a] I1.kIn hl) (.cons rfl hd) h) fun r s' hq => ?_
  match r, hq with
  | .error _, hq => exact hq.elim
  | .ok (.ret u), hq =>
    obtain ⟨v, H', I3, rv, q3⟩ := I1.after hq
    show wpAny _ _ (handedOut u) _ _ _
    rw [PySem.W.handedOut_of (handed_of rv)]
    exact wpAny_pure ⟨v, H', I3, rv, q3⟩
  | .ok .next, hq => exact hq.elim
  | .ok .brk, hq => exact hq.elim
  | .ok .cont, hq => exact hq.elim
theorem pe_propG (he : PE X o te) (c : Cls X.K C) (hp : PropOf X.K C m p g) (F : FnG X.prog X.w X.K X.mg X.base k g fd ps sp) (hr : Room (k + 1) X.A) (gu : X.A.guards = some []) (hb : Binds X.K fd ps ds) (hd : Vals dvs ds)
    (hab : attributeBase o m X.env (eval o X.env) = eval o X.env := by rfl) : PE X (.Attribute o m apos) (tProp C sp dvs E0 te) := by
  refine ⟨fun pins s σ H Q I h => ?_⟩
  refine attr_of hab (thn (he.run pins s σ H _ I h) fun u s1 ⟨x, H1, I1, rx, a, dx, fs, ex, ea, q⟩ => ?_)
  subst ex
  obtain rfl : u = Value.ref a := rx
  exact getpropG_ok I1 ea c hp F hr gu hb hd q
end
theorem ro_prop {pn : List Nat} {mf : MF} {C : Addr} {m : Str} {i : Nat} {E : XK} : RO (tProp C (spOf pn mf) [] E (tVar i)) (mMeth C m i pn mf mNil) := by
  intro F H σ env Sl R o env' e Q q
  obtain ⟨x, hx, a, dx, fs, rfl, hH, hl, hq⟩ := ro_meth (pu := true) (ta := tNil) (E := E) ra_nil F H σ env Sl R o env' e Q q
  exact ⟨_, hx, a, dx, fs, rfl, hH, hq⟩
/-! ### trees -/
inductive Tre where
  | nil
  | node (l : Tre) (x : Int) (r : Tre)
  deriving DecidableEq
def encTr : Tre → PyData
  | .nil => .none
  | .node l x r => .tuple [encTr l, .int x, encTr r]
def Tre.isNil : Tre → Bool
  | .nil => true
  | _ => false
def Tre.un : Tre → Option (Tre × Int × Tre)
  | .nil => none
  | .node l x r => some (l, x, r)
def Tre.el {β : Type} (t : Tre) (a : β) (b : Tre → Int → Tre → β) : β := match t with
  | .nil => a
  | .node l x r => b l x r
theorem isN_tr {t : Tre} : isN (encTr t) = Tre.isNil t := by cases t <;> rfl
theorem oe_isT {env : En} {neg : Bool} {t : Tre} : (gIsN neg env (.val (encTr t)) (.val .none)).map (fun r => (r, env)) = some (.val (.bool (sg neg (Tre.isNil t))), env) := by
  rw [sg_xor]
  show (some (P.val (.bool (neg ^^ isN (encTr t))))).map _ = _
  rw [isN_tr]
  rfl
theorem xo_unT {env : En} {me : ME} {i j k : Nat} {t : Tre} {p : P} {e1 e2 : En} {E : Tre × Int × Tre → En} (h : me env = some (p, e1)) (hf : fzP e1 p = some (encTr t, e2)) (hE : ∀ q, ((e2.set i (some (.fz (encTr q.1)))).set j (some (.fz (encI q.2.1)))).set k (some (.fz (encTr q.2.2))) = E q) : XV (mAsg me (mgT [i, j, k])) env (Tre.un t) (fun _ => .nx) E := fun q hq => by
  cases t with
  | nil => cases hq
  | node l x r =>
    cases hq
    rw [← hE]
    unfold mAsg bnd
    simp only [h, hf]
    rfl
theorem sv_treN {β : Type} {n mA mB : MS} {mc : MT} {post : β → Ctl → En → Prop} {t : Tre} {E : Tre → En} {tA : Option β} {tB : Tre → Int → Tre → Option β}
    (hc : ∀ t : Tre, mc (E t) = some (Tre.isNil t, E t)) (hN : SV (mSeq mA n) (E .nil) tA post) (hS : ∀ l x r, SV (mSeq mB n) (E (.node l x r)) (tB l x r) post) : SV (mSeq (mIf mc mA mB) n) (E t) (Tre.el t tA tB) post := by
  cases t with
  | nil => exact fun b hb => sv_if (c := true) (tB := none) (hc .nil) hN sv_never b hb
  | node l x r => exact fun b hb => sv_if (c := false) (tA := none) (hc (.node l x r)) sv_never (hS l x r) b hb
theorem sv_treS {β : Type} {n mA mB : MS} {mc : MT} {post : β → Ctl → En → Prop} {t : Tre} {E : Tre → En} {tA : Option β} {tB : Tre → Int → Tre → Option β}
    (hc : ∀ t : Tre, mc (E t) = some (!(Tre.isNil t), E t)) (hN : SV (mSeq mB n) (E .nil) tA post) (hS : ∀ l x r, SV (mSeq mA n) (E (.node l x r)) (tB l x r) post) : SV (mSeq (mIf mc mA mB) n) (E t) (Tre.el t tA tB) post := by
  cases t with
  | nil => exact fun b hb => sv_if (c := false) (tA := none) (hc .nil) sv_never hN b hb
  | node l x r => exact fun b hb => sv_if (c := true) (tB := none) (hc (.node l x r)) (hS l x r) sv_never b hb
end Tr
namespace Tr
open PySem PySem.Spec PyProof.Rows L2
/-! ### in a list, or in a tuple of texts of the top -/
noncomputable def gInB (K : PySem.W.Frag) (neg : Bool) : En → P → P → Option P := fun env p q => match q with
  | .k K' xs => gInK K neg env p (.k K' xs)
  | .val d => gIn neg env p (.val d)
  | .var i => gIn neg env p (.var i)
theorem b_inB {K : PySem.W.Frag} (neg : Bool) : BinK (rIn K neg) (gInB K neg) := by
  intro F H σ env Sl x y p1 p2 p R h1 h2 e Q q
  cases p2 with
  | k K' xs => exact b_inK neg F H σ env Sl x y p1 _ p R h1 h2 e Q q
  | val d => exact b_in neg F H σ env Sl x y p1 _ p R h1 h2 e Q q
  | var i => exact b_in neg F H σ env Sl x y p1 _ p R h1 h2 e Q q
theorem oe_inSB {K : PySem.W.Frag} {env : En} {neg : Bool} {x : Str} {xs : List Str} : (gInB K neg env (.val (.str x)) (.val (encL encS xs))).map (fun r => (r, env)) = some (.val (.bool (sg neg (decide (x ∈ xs)))), env) := oe_inS (neg := neg) (x := x) (p := .val (encL encS xs)) rfl
theorem any_S {x : Str} {xs : List Str} : ((xs.map PyData.str).any fun y => PyData.eqv y (.str x)) = decide (x ∈ xs) := by
  rw [Bool.eq_iff_iff, List.any_eq_true, decide_eq_true_eq]
  constructor
  · rintro ⟨d, hd, h⟩
    obtain ⟨y, hy, rfl⟩ := List.mem_map.mp hd
    have : y = x := by simpa [PyData.eqv] using h
    rw [← this]; exact hy
  · intro h
    exact ⟨_, List.mem_map.mpr ⟨x, h, rfl⟩, by simp [PyData.eqv]⟩
theorem oe_inSK {K : PySem.W.Frag} {env : En} {neg : Bool} {x : Str} {xs : List Str} : (gInB K neg env (.val (.str x)) (.k K xs)).map (fun r => (r, env)) = some (.val (.bool (sg neg (decide (x ∈ xs)))), env) := by
  show (gInK K neg env (.val (.str x)) (.k K xs)).map _ = _
  unfold gInK
  simp only [any_S]
  rw [if_pos ⟨trivial, rfl⟩, sg_xor]
  rfl
/-! ### xs.pop(i) -/
section
variable {α β : Type} {env : En}
def popI (xs : List α) (i : Int) : Option (α × List α) := if -(2 ^ 63) ≤ i ∧ i < 2 ^ 63 then (seqIndex? i xs.length).bind fun k => (xs[k]?).map fun x => (x, xs.eraseIdx k) else none
theorem erase_mapG {en : α → PyData} : ∀ (xs : List α) (k : Nat), (xs.map en).eraseIdx k = (xs.eraseIdx k).map en
  | [], k => by simp
  | x :: xs, 0 => rfl
  | x :: xs, k + 1 => by
    show en x :: (xs.map en).eraseIdx k = en x :: (xs.eraseIdx k).map en
    rw [erase_mapG xs k]
theorem xo_popAt {en : α → PyData} {j : Nat} {ma : MA} {i : Int} {e1 : En} {xs : List α} (h0 : ∃ ds, env[j]? = some (some (.ow ds))) (hm : ma env = some ([.val (.int i)], e1)) (h : e1[j]? = some (some (.ow (xs.map en)))) {E0 : α × List α → En} (hE : ∀ q : α × List α, e1.set j (some (.ow (q.2.map en))) = E0 q) : XV (mPopAt j ma) env (popI xs i) (fun q => .val (en q.1)) E0 := fun r hr => by
  obtain ⟨ds, h0⟩ := h0
  unfold popI at hr
  split at hr
  · rename_i hi
    cases hk : seqIndex? i xs.length with
    | none => rw [hk] at hr; cases hr
    | some k =>
      rw [hk, Option.bind_some] at hr
      cases hx : xs[k]? with
      | none => rw [hx] at hr; cases hr
      | some x =>
        rw [hx] at hr
        cases hr
        unfold mPopAt
        simp only [h0, hm, h, List.length_map, hk, List.getElem?_map, hx, Option.map_some]
        rw [if_pos hi, ← hE, erase_mapG]
  · cases hr
theorem xv_popAt {en : α → PyData} {j : Nat} {ma : MA} {t : Option β} {i : β → Int} {e1 : β → En} {xs : β → List α} (h0 : ∃ ds, env[j]? = some (some (.ow ds))) (hm : XV ma env t (fun b => [.val (.int (i b))]) e1) (h : ∀ b, (e1 b)[j]? = some (some (.ow ((xs b).map en)))) {E0 : β × α × List α → En} (hE : ∀ q : β × α × List α, (e1 q.1).set j (some (.ow (q.2.2.map en))) = E0 q) :
    XV (mPopAt j ma) env (t.bind fun b => (popI (xs b) (i b)).map fun r => (b, r)) (fun q => .val (en q.2.1)) E0 := fun q hq => by
  cases ht : t with
  | none => rw [ht] at hq; cases hq
  | some b =>
    rw [ht, Option.bind_some] at hq
    cases hp : popI (xs b) (i b) with
    | none => rw [hp] at hq; cases hq
    | some r =>
      rw [hp] at hq
      cases hq
      exact (xo_popAt (E0 := fun r => (e1 b).set j (some (.ow (r.2.map en)))) h0 (hm b ht) (h b) (fun _ => rfl) r hp).trans (congrArg (fun z => some (_, z)) (hE (b, r)))
end
/-! ### a loop over lists that the loop alone holds -/
section
variable {α β γ σ ρ : Type} {env e : En} {n : MS} {post : β → Ctl → En → Prop}
theorem lc_2g {mg : PyData → En → Option En} {mo : MO} {vs : List Nat} {en : γ → PyData} {enr : β → List PyData} {elt : γ → Option β} {E1 : γ → En} {xs : List γ} {e0 : En} (hw0 : wipeE e0 vs = env) (hg : ∀ a, mg (en a) env = some (E1 a)) (he : ∀ a, XV mo (E1 a) (elt a) (fun y => .ow (enr y)) (fun _ => E1 a)) (hw : ∀ a, wipeE (E1 a) vs = env) :
    XV (fun e => (mLc2Go mg mYes mo vs (xs.map en) [] (wipeE e vs)).map fun r => (O.ow2 r.1, r.2)) e0 (cmpO (fun _ => some true) elt xs) (fun r => O.ow2 (r.map enr)) (fun _ => env) := fun r hr => by
  have go : ∀ (xs : List γ) (acc : List (List PyData)) (r : List β), acc.length + xs.length ≤ sizeLine → cmpOGo (fun _ => some true) elt xs = some r → mLc2Go mg mYes mo vs (xs.map en) acc env = some (acc ++ r.map enr, env) := by
    intro xs
    induction xs with
    | nil => intro acc r _ h; cases h; simp [mLc2Go]
    | cons a as ih =>
      intro acc r hz h
      rw [List.length_cons] at hz
      unfold cmpOGo at h
      simp only [Option.bind_some, if_true] at h
      cases hy : elt a with
      | none => rw [hy] at h; cases h
      | some y =>
        rw [hy, Option.bind_some] at h
        cases hys : cmpOGo (fun _ => some true) elt as with
        | none => rw [hys] at h; cases h
        | some ys =>
          rw [hys] at h
          cases h
          have h3 := he a y hy
          show mLc2Go mg mYes mo vs (en a :: as.map en) acc env = _
          unfold mLc2Go mYes
          simp only [hg, h3, hw]
          have ih' := ih (acc ++ [enr y]) ys (by rw [List.length_append, List.length_singleton]; omega) hys
          unfold mYes at ih'
          rw [if_pos (by omega), ih', List.append_assoc]
          rfl
  unfold cmpO at hr
  split at hr
  · rename_i hz
    show (mLc2Go _ _ _ _ _ _ (wipeE e0 vs)).map _ = _
    rw [hw0, go xs [] r (by simpa using hz) hr]
    rfl
  · cases hr
theorem sv_goMR {enr : α → List PyData} {P : σ → En → Prop} {PR : ρ → Ctl → En → Prop} {body : α → σ → Option (Rs ρ σ)} {i : Nat} {mb : MS} (hb : ∀ a s e, P s e → SV mb (e.set i (some (.ow (enr a)))) (body a s) (fun r c e' => match r with | .nx s' => (c = .nx ∨ c = .ct) ∧ P s' e' | .bk s' => c = .bk ∧ P s' e' | .rt r => (∃ o, c = .rt o) ∧ PR r c e')) :
    ∀ (xs : List α) (s : σ) (e : En), P s e → SV (mForMGo i mb (xs.map enr)) e (forR body xs s) (fun r c e' => match r with | .nx s' => c = .nx ∧ P s' e' | .bk _ => False | .rt r => (∃ o, c = .rt o) ∧ PR r c e')
  | [], s, e, h, s', hs => by cases hs; exact ⟨.nx, e, rfl, rfl, h⟩
  | a :: as, s, e, h, s', hs => by
    unfold forR at hs
    cases h1 : body a s with
    | none => rw [h1] at hs; cases hs
    | some r =>
      rw [h1] at hs
      obtain ⟨c, e2, g2, gp⟩ := hb a s e h r h1
      cases r with
      | nx s1 =>
        obtain ⟨gc, p2⟩ := gp
        obtain ⟨c', e3, g3, g4⟩ := sv_goMR (PR := PR) hb as s1 e2 p2 s' hs
        refine ⟨c', e3, ?_, g4⟩
        show mForMGo i mb (enr a :: as.map enr) e = _
        unfold mForMGo
        rcases gc with rfl | rfl
        · simp only [g2, g3]
        · simp only [g2, g3]
      | bk s1 =>
        obtain ⟨rfl, p2⟩ := gp
        cases hs
        refine ⟨.nx, e2, ?_, rfl, p2⟩
        show mForMGo i mb (enr a :: as.map enr) e = _
        unfold mForMGo
        simp only [g2]
      | rt r =>
        obtain ⟨⟨o, rfl⟩, p2⟩ := gp
        cases hs
        refine ⟨.rt o, e2, ?_, ⟨o, rfl⟩, p2⟩
        show mForMGo i mb (enr a :: as.map enr) e = _
        unfold mForMGo
        simp only [g2]
theorem sv_forMR {enr : α → List PyData} {Q : σ → En → Prop} {body : α → σ → Option (Rs ρ σ)} {mo : MO} {i : Nat} {mb : MS} {xs : List α} {s0 : σ} {f : ρ → Option β} {t2 : σ → Option β} {PR : ρ → Ctl → En → Prop} (hi : mo env = some (.ow2 (xs.map enr), e)) (h0 : Q s0 e)
    (hb : ∀ a s e, Q s e → SV mb (e.set i (some (.ow (enr a)))) (body a s) (fun r c e' => match r with | .nx s' => (c = .nx ∨ c = .ct) ∧ Q s' e' | .bk s' => c = .bk ∧ Q s' e' | .rt r => (∃ o, c = .rt o) ∧ PR r c e')) (hr : ∀ r c e b, (∃ o, c = .rt o) → PR r c e → f r = some b → post b c e) (k : ∀ s e, Q s e → SV n e (t2 s) post) :
    SV (mSeq (mForM mo i mb) n) env ((forR body xs s0).bind fun r => r.on f t2) post := fun b hx => by
  cases ht : forR body xs s0 with
  | none => rw [ht] at hx; cases hx
  | some r =>
    rw [ht] at hx
    obtain ⟨c, e', h1, h2⟩ := sv_goMR (PR := PR) hb xs s0 e h0 r ht
    have h3 : mForM mo i mb env = some (c, e') := (bnd_eq hi).trans h1
    cases r with
    | nx s =>
      obtain ⟨rfl, h2⟩ := h2
      exact sv_nx h3 (k s e' h2) b hx
    | bk s => exact h2.elim
    | rt r =>
      obtain ⟨⟨o, rfl⟩, h2⟩ := h2
      exact sv_exit h3 (fun z => nomatch z) (hr r _ e' b ⟨o, rfl⟩ h2 hx) b rfl
theorem sv_forMRV {enr : α → List PyData} {Q : γ → σ → En → Prop} {body : γ → α → σ → Option (Rs ρ σ)} {mo : MO} {i : Nat} {mb : MS} {t1 : Option γ} {xs : γ → List α} {st : γ → En} {s0 : γ → σ} {f : γ → ρ → Option β} {t2 : γ → σ → Option β} {PR : γ → ρ → Ctl → En → Prop} (hi : XV mo env t1 (fun c => .ow2 ((xs c).map enr)) st) (h0 : ∀ c, Q c (s0 c) (st c))
    (hb : ∀ d a s e, Q d s e → SV mb (e.set i (some (.ow (enr a)))) (body d a s) (fun r c e' => match r with | .nx s' => (c = .nx ∨ c = .ct) ∧ Q d s' e' | .bk s' => c = .bk ∧ Q d s' e' | .rt r => (∃ o, c = .rt o) ∧ PR d r c e')) (hr : ∀ d r c e b, (∃ o, c = .rt o) → PR d r c e → f d r = some b → post b c e) (k : ∀ d s e, Q d s e → SV n e (t2 d s) post) :
    SV (mSeq (mForM mo i mb) n) env (t1.bind fun d => (forR (body d) (xs d) (s0 d)).bind fun r => r.on (f d) (t2 d)) post := fun b hx => by
  cases ht : t1 with
  | none => rw [ht] at hx; cases hx
  | some d => rw [ht] at hx; exact sv_forMR (hi d ht) (h0 d) (hb d) (hr d) (k d) b hx
end
section
variable {α β : Type} {env : En}
theorem xv_un3 {en : α → PyData} {me : ME} {i j k : Nat} {t : Option β} {xs : β → List α} {p : β → P} {e1 e2 : β → En} {E : β × α × α × α → En} (h : XV me env t p e1) (hf : ∀ b, fzP (e1 b) (p b) = some (.list ((xs b).map en), e2 b)) (hE : ∀ q : β × α × α × α, (((e2 q.1).set i (some (.fz (en q.2.1)))).set j (some (.fz (en q.2.2.1)))).set k (some (.fz (en q.2.2.2))) = E q) : XV (mAsg me (mgL [i, j, k])) env (t.bind fun b => (un3 (xs b)).map fun r => (b, r)) (fun _ => .nx) E := fun q hq => by
  cases ht : t with
  | none => rw [ht] at hq; cases hq
  | some b =>
    rw [ht, Option.bind_some] at hq
    cases hu : un3 (xs b) with
    | none => rw [hu] at hq; cases hq
    | some r =>
      rw [hu] at hq
      cases hq
      exact (xo_un3 (E := fun r => (((e2 b).set i (some (.fz (en r.1)))).set j (some (.fz (en r.2.1)))).set k (some (.fz (en r.2.2)))) (h b ht) (hf b) (fun _ => rfl) r hu).trans (congrArg (fun z => some (Ctl.nx, z)) (hE (b, r)))
theorem xv_un2 {en : α → PyData} {me : ME} {i j : Nat} {t : Option β} {xs : β → List α} {p : β → P} {e1 e2 : β → En} {E : β × α × α → En} (h : XV me env t p e1) (hf : ∀ b, fzP (e1 b) (p b) = some (.list ((xs b).map en), e2 b)) (hE : ∀ q : β × α × α, ((e2 q.1).set i (some (.fz (en q.2.1)))).set j (some (.fz (en q.2.2))) = E q) : XV (mAsg me (mgL [i, j])) env (t.bind fun b => (un2 (xs b)).map fun r => (b, r)) (fun _ => .nx) E := fun q hq => by
  cases ht : t with
  | none => rw [ht] at hq; cases hq
  | some b =>
    rw [ht, Option.bind_some] at hq
    cases hu : un2 (xs b) with
    | none => rw [hu] at hq; cases hq
    | some r =>
      rw [hu] at hq
      cases hq
      exact (xo_un2 (E := fun r => ((e2 b).set i (some (.fz (en r.1)))).set j (some (.fz (en r.2)))) (h b ht) (hf b) (fun _ => rfl) r hu).trans (congrArg (fun z => some (Ctl.nx, z)) (hE (b, r)))
end
end Tr
namespace Tr
open PySem PySem.Spec PyProof.Rows L2
/-! ### zip, each pair in one name -/
section
variable {prog : Program} {w : World} {A : Around} {E : Value → Shared → Prop} {s : Shared}
/-- a zip object with anything in its first two fields -/
abbrev ZAny (h : Heap) (z TI TO : Addr) (u v : Value) : Prop := h.get? z = some { cls := .type "zip", dict := none, data := .fields #[u, v, .bool false, .ref TI, .ref TO], slots := #[] }
def Lent (h : Heap) (u : Value) : Prop := u = .none ∨ ∃ T : Nat, u = rawInt T ∧ h.get? T = none
theorem seen_ {a : Addr} {o : Option Obj} {Q : Option Obj → Shared → Prop} (ho : s.heap.get? a = o) (h : Q o s) : wpAny (model prog w) A (loadIfAlive a) Q E s := by
  subst ho
  exact fun _ _ _ => h
theorem lent_ {z TI TO : Addr} {u v : Value} {Q : Bool → Shared → Prop} (hz : ZAny s.heap z TI TO u v) (hu : Lent s.heap u) (h : Q true s) : wpAny (model prog w) A (Builtin.SmallTypes.ownedTupleIsFree (.ref z)) Q E s := by
  unfold Builtin.SmallTypes.ownedTupleIsFree
  rcases hu with rfl | ⟨T, rfl, hT⟩
  · exact wpAny_bind (wpAny_field hz rfl (x := Value.none) rfl (wpAny_pure h))
  · refine wpAny_bind (wpAny_field hz rfl (x := rawInt (T : Int)) rfl ?_)
    show wpAny (model prog w) A (loadIfAlive ((T : Int).toNat) >>= _) Q E s
    rw [Int.toNat_natCast]
    refine wpAny_bind (seen_ hT ?_)
    rw [if_pos (show (none : Option Obj).isNone = true from rfl)]
    exact wpAny_pure h
theorem znext_item {z TI TO i1 i2 l1 l2 : Addr} {k1 k2 : Nat} {xs ys : Array Value} {x y a b u v : Value} {Q : Value → Shared → Prop} (D : ZipApart z TI TO i1 i2 l1 l2)
    (hz : ZAny s.heap z TI TO u v) (hu : Lent s.heap u) (pI : IsPair s.heap TI (.ref i1) (.ref i2)) (pO : IsPair s.heap TO a b)
    (j1 : s.heap.IsListIter i1 l1 k1) (j2 : s.heap.IsListIter i2 l2 k2) (m1 : s.heap.IsList l1 xs) (m2 : s.heap.IsList l2 ys) (gx : xs[k1]? = some x) (gy : ys[k2]? = some y)
    (q : ∀ g, ZAny g z TI TO (rawInt s.heap.objs.size) (.bool false) → IsPair g TO x y → g.IsListIter i1 l1 (k1 + 1) → g.IsListIter i2 l2 (k2 + 1) → IsPair g s.heap.objs.size x y → g.objs.size = s.heap.objs.size + 1 →
      (∀ c o, c ≠ z ∧ c ≠ TO ∧ c ≠ i1 ∧ c ≠ i2 → s.heap.get? c = some o → g.get? c = some o) → Q (.ref s.heap.objs.size) { s with heap := g }) :
    wpAny (model prog w) A (Builtin.«zip.__next__» ⟨[.ref z], []⟩) (fun r t => ∃ c, r = .done (.ret c) ∧ Q c t) E s := by
  show wpAny (model prog w) A (field (.ref z) 2 >>= _) _ E s
  refine wpAny_bind (wpAny_field hz rfl (x := Value.bool false) rfl ?_)
  show wpAny (model prog w) A (field (.ref z) 3 >>= _) _ E s
  refine wpAny_bind (wpAny_field hz rfl (x := Value.ref TI) rfl (wpAny_bind (wpAny_seqItems pI rfl ?_)))
  show wpAny (model prog w) A (Builtin.SmallTypes.ownedTupleIsFree (.ref z) >>= _) _ E s
  refine wpAny_bind (lent_ hz hu ?_)
  rw [if_pos rfl]
  refine wpAny_bind (wpAny_rule (wpAny_bind (wpAny_field hz rfl (x := Value.ref TO) rfl (wpAny_bind (wpAny_setField_rec hz (by simp) fun g1 z1 n1 => wpAny_bind ?_)))))
  replace z1 : ZAny g1 z TI TO .ellipsis v := z1
  simp only [List.forIn_cons, List.forIn_nil, List.zipIdx_cons, List.zipIdx_nil]
  refine wpAny_bind (wpAny_bind (wpAny_onRaise ?_))
  show wpAny (model prog w) A (Builtin.SmallTypes.nextOf (.ref i1) >>= _) _ _ _
  refine wpAny_bind (wpAny_nextOf_list_item (j1.extBut n1.extBut D.i1z) (m1.extBut n1.extBut D.l1z) gx fun g2 j1' n2 => wpAny_pure ?_)
  have o2 : IsPair g2 TO a b := n2.extBut _ _ D.TOi1 (n1.extBut _ _ D.TOz pO)
  refine wpAny_bind (wpAny_seqItems o2 rfl (wpAny_bind (wpAny_updateSeq_pair o2 fun g3 o3 n3 => ?_)))
  replace o3 : IsPair g3 TO x b := o3
  refine wpAny_bind (wpAny_letGo (wpAny_pure (wpAny_bind (wpAny_bind (wpAny_onRaise ?_)))))
  show wpAny (model prog w) A (Builtin.SmallTypes.nextOf (.ref i2) >>= _) _ _ _
  have j2' := ((j2.extBut n1.extBut D.i2z).extBut n2.extBut D.i12.symm).extBut n3.extBut D.TOi2.symm
  have m2' := ((m2.extBut n1.extBut D.l2z).extBut n2.extBut D.l2i1).extBut n3.extBut D.l2TO
  refine wpAny_bind (wpAny_nextOf_list_item j2' m2' gy fun g4 j24 n4 => wpAny_pure ?_)
  have o4 : IsPair g4 TO x b := n4.extBut _ _ D.TOi2 o3
  refine wpAny_bind (wpAny_seqItems o4 rfl (wpAny_bind (wpAny_updateSeq_pair o4 fun g5 o5 n5 => ?_)))
  replace o5 : IsPair g5 TO x y := o5
  refine wpAny_bind (wpAny_letGo (wpAny_pure (wpAny_pure (wpAny_bind (wpAny_seqItems o5 rfl (wpAny_bind (wpAny_newTuple ?_)))))))
  have sz : g5.objs.size = s.heap.objs.size := by rw [n5.1, n4.1, n3.1, n2.1, n1.1]
  have z5 : ZAny g5 z TI TO .ellipsis v := n5.extBut _ _ D.TOz.symm (n4.extBut _ _ D.i2z.symm (n3.extBut _ _ D.TOz.symm (n2.extBut _ _ D.i1z.symm z1)))
  have k5 : ∀ c o, c ≠ z ∧ c ≠ TO ∧ c ≠ i1 ∧ c ≠ i2 → s.heap.get? c = some o → g5.get? c = some o := fun c o hc e =>
    n5.extBut _ _ hc.2.1 (n4.extBut _ _ hc.2.2.2 (n3.extBut _ _ hc.2.1 (n2.extBut _ _ hc.2.2.1 (n1.extBut _ _ hc.1 e))))
  have j15 := ((j1'.extBut n3.extBut D.TOi1.symm).extBut n4.extBut D.i12).extBut n5.extBut D.TOi1.symm
  have j25 := j24.extBut n5.extBut D.TOi2.symm
  have lz : z < g5.objs.size := Heap.lt_size z5
  show wpAny (model prog w) A (Builtin.SmallTypes.ownedTupleHandOut (.ref z) (.ref g5.objs.size) >>= _) _ _ _
  refine wpAny_bind ?_
  unfold Builtin.SmallTypes.ownedTupleHandOut
  have z6 : ZAny (g5.push { cls := .type "tuple", data := .seq #[x, y] }) z TI TO .ellipsis v := Heap.get?_push_of_some _ z5
  refine wpAny_bind (wpAny_setField_rec z6 (by simp) fun g7 z7 n7 => ?_)
  replace z7 : ZAny g7 z TI TO (rawInt g5.objs.size) v := z7
  refine wpAny_setField_rec z7 (by simp) fun g8 z8 n8 => wpAny_pure ⟨_, rfl, ?_⟩
  replace z8 : ZAny g8 z TI TO (rawInt g5.objs.size) (.bool false) := z8
  have up : ∀ c o, c ≠ z → g5.get? c = some o → g8.get? c = some o := fun c o c1 e => n8.extBut _ _ c1 (n7.extBut _ _ c1 (Heap.get?_push_of_some _ e))
  have t8 : IsPair g8 g5.objs.size x y := n8.extBut _ _ (Nat.ne_of_gt lz) (n7.extBut _ _ (Nat.ne_of_gt lz) (Heap.get?_push_size _ rfl))
  have s8 : g8.objs.size = g5.objs.size + 1 := by rw [n8.1, n7.1, Heap.size_push]
  rw [sz] at z8 t8 s8
  show Q (.ref g5.objs.size) { s with heap := g8 }
  rw [sz]
  exact q g8 z8 (up _ _ D.TOz o5) (j15.at fun o e => up _ o D.i1z e) (j25.at fun o e => up _ o D.i2z e) t8 s8 fun c o hc e => up c o hc.1 (k5 c o hc e)
theorem znext_end {z TI TO i1 i2 l1 l2 : Addr} {k1 k2 : Nat} {xs ys : Array Value} {a b u v : Value} {Q : Fin → Shared → Prop} (hh : A.handled = none) (D : ZipApart z TI TO i1 i2 l1 l2)
    (hz : ZAny s.heap z TI TO u v) (hu : Lent s.heap u) (pI : IsPair s.heap TI (.ref i1) (.ref i2)) (pO : IsPair s.heap TO a b)
    (j1 : s.heap.IsListIter i1 l1 k1) (j2 : s.heap.IsListIter i2 l2 k2) (m1 : s.heap.IsList l1 xs) (m2 : s.heap.IsList l2 ys) (hend : xs[k1]? = none ∨ ys[k2]? = none)
    (q : ∀ g e, (∀ c o, c ≠ z ∧ c ≠ TO ∧ c ≠ i1 ∧ c ≠ i2 → s.heap.get? c = some o → g.get? c = some o) → (∃ o, g.get? e = some o ∧ o.cls = .type "StopIteration") → E (.ref e) { s with heap := g }) :
    wpAny (model prog w) A (Builtin.«zip.__next__» ⟨[.ref z], []⟩) Q E s := by
  show wpAny (model prog w) A (field (.ref z) 2 >>= _) _ E s
  refine wpAny_bind (wpAny_field hz rfl (x := Value.bool false) rfl ?_)
  show wpAny (model prog w) A (field (.ref z) 3 >>= _) _ E s
  refine wpAny_bind (wpAny_field hz rfl (x := Value.ref TI) rfl (wpAny_bind (wpAny_seqItems pI rfl ?_)))
  show wpAny (model prog w) A (Builtin.SmallTypes.ownedTupleIsFree (.ref z) >>= _) _ E s
  refine wpAny_bind (lent_ hz hu ?_)
  rw [if_pos rfl]
  refine wpAny_bind (wpAny_rule (wpAny_bind (wpAny_field hz rfl (x := Value.ref TO) rfl (wpAny_bind (wpAny_setField_rec hz (by simp) fun g1 z1 n1 => wpAny_bind ?_)))))
  replace z1 : ZAny g1 z TI TO .ellipsis v := z1
  simp only [List.forIn_cons, List.forIn_nil, List.zipIdx_cons, List.zipIdx_nil]
  refine wpAny_bind (wpAny_bind (wpAny_onRaise ?_))
  show wpAny (model prog w) A (Builtin.SmallTypes.nextOf (.ref i1) >>= _) _ _ _
  cases gx : xs[k1]? with
  | none =>
    refine wpAny_bind (wpAny_nextOf_list_end hh (j1.extBut n1.extBut D.i1z) (m1.extBut n1.extBut D.l1z) gx fun g2 e n2 he => ?_)
    obtain ⟨oe, h1, h2⟩ := he
    have z2 : ZAny g2 z TI TO .ellipsis v := n2 _ _ D.i1z.symm z1
    have ne : e ≠ z := fun r => by subst r; rw [z2] at h1; cases h1; simp at h2
    exact wpAny_setField_rec z2 (by simp) fun g3 _ n3 => q g3 e (fun c o hc r => n3.extBut _ _ hc.1 (n2 _ _ hc.2.2.1 (n1.extBut _ _ hc.1 r))) ⟨oe, n3.extBut _ _ ne h1, h2⟩
  | some x =>
    have gy : ys[k2]? = none := by
      rcases hend with r | r
      · rw [gx] at r; cases r
      · exact r
    refine wpAny_bind (wpAny_nextOf_list_item (j1.extBut n1.extBut D.i1z) (m1.extBut n1.extBut D.l1z) gx fun g2 j1' n2 => wpAny_pure ?_)
    have o2 : IsPair g2 TO a b := n2.extBut _ _ D.TOi1 (n1.extBut _ _ D.TOz pO)
    refine wpAny_bind (wpAny_seqItems o2 rfl (wpAny_bind (wpAny_updateSeq_pair o2 fun g3 o3 n3 => ?_)))
    refine wpAny_bind (wpAny_letGo (wpAny_pure (wpAny_bind (wpAny_bind (wpAny_onRaise ?_)))))
    show wpAny (model prog w) A (Builtin.SmallTypes.nextOf (.ref i2) >>= _) _ _ _
    have j2' := ((j2.extBut n1.extBut D.i2z).extBut n2.extBut D.i12.symm).extBut n3.extBut D.TOi2.symm
    have m2' := ((m2.extBut n1.extBut D.l2z).extBut n2.extBut D.l2i1).extBut n3.extBut D.l2TO
    refine wpAny_bind (wpAny_nextOf_list_end hh j2' m2' gy fun g4 e n4 he => ?_)
    obtain ⟨oe, h1, h2⟩ := he
    have z4 : ZAny g4 z TI TO .ellipsis v := n4 _ _ D.i2z.symm (n3.extBut _ _ D.TOz.symm (n2.extBut _ _ D.i1z.symm z1))
    have ne : e ≠ z := fun r => by subst r; rw [z4] at h1; cases h1; simp at h2
    exact wpAny_setField_rec z4 (by simp) fun g5 _ n5 => q g5 e (fun c o hc r => n5.extBut _ _ hc.1 (n4 _ _ hc.2.2.2 (n3.extBut _ _ hc.2.1 (n2.extBut _ _ hc.2.2.1 (n1.extBut _ _ hc.1 r))))) ⟨oe, n5.extBut _ _ ne h1, h2⟩
theorem zpy_item {z TI TO i1 i2 l1 l2 : Addr} {k1 k2 : Nat} {xs ys : Array Value} {x y a b u v : Value} {Q : Option Value → Shared → Prop} (D : ZipApart z TI TO i1 i2 l1 l2)
    (hz : ZAny s.heap z TI TO u v) (hu : Lent s.heap u) (pI : IsPair s.heap TI (.ref i1) (.ref i2)) (pO : IsPair s.heap TO a b)
    (j1 : s.heap.IsListIter i1 l1 k1) (j2 : s.heap.IsListIter i2 l2 k2) (m1 : s.heap.IsList l1 xs) (m2 : s.heap.IsList l2 ys) (gx : xs[k1]? = some x) (gy : ys[k2]? = some y)
    (q : ∀ g, ZAny g z TI TO (rawInt s.heap.objs.size) (.bool false) → IsPair g TO x y → g.IsListIter i1 l1 (k1 + 1) → g.IsListIter i2 l2 (k2 + 1) → IsPair g s.heap.objs.size x y → g.objs.size = s.heap.objs.size + 1 →
      (∀ c o, c ≠ z ∧ c ≠ TO ∧ c ≠ i1 ∧ c ≠ i2 → s.heap.get? c = some o → g.get? c = some o) → Q (some (.ref s.heap.objs.size)) { s with heap := g }) : wpAny (model prog w) A (pyNext (.ref z)) Q E s := by
  have ty : s.TypeIs (.ref z) "zip" := ⟨_, hz, rfl⟩
  unfold pyNext
  exact wpAny_bind (wpAny_attempt (wpAny_callSpecial?_slot (name := Str.ofString "__next__") ty F.slot_zip_next (wpAny_call_entry F.slot_zip_next ty F.entry_zip_next (znext_item D hz hu pI pO j1 j2 m1 m2 gx gy fun g a1 a2 a3 a4 a5 a6 a7 => wpAny_pure (q g a1 a2 a3 a4 a5 a6 a7)) (F.args_zip_next_1 _))))
theorem zpy_end {z TI TO i1 i2 l1 l2 : Addr} {k1 k2 : Nat} {xs ys : Array Value} {a b u v : Value} {Q : Option Value → Shared → Prop} (hh : A.handled = none) (D : ZipApart z TI TO i1 i2 l1 l2)
    (hz : ZAny s.heap z TI TO u v) (hu : Lent s.heap u) (pI : IsPair s.heap TI (.ref i1) (.ref i2)) (pO : IsPair s.heap TO a b)
    (j1 : s.heap.IsListIter i1 l1 k1) (j2 : s.heap.IsListIter i2 l2 k2) (m1 : s.heap.IsList l1 xs) (m2 : s.heap.IsList l2 ys) (hend : xs[k1]? = none ∨ ys[k2]? = none)
    (q : ∀ g, (∀ c o, c ≠ z ∧ c ≠ TO ∧ c ≠ i1 ∧ c ≠ i2 → s.heap.get? c = some o → g.get? c = some o) → Q none { s with heap := g }) : wpAny (model prog w) A (pyNext (.ref z)) Q E s := by
  have ty : s.TypeIs (.ref z) "zip" := ⟨_, hz, rfl⟩
  unfold pyNext
  refine wpAny_bind (wpAny_attempt (wpAny_callSpecial?_slot (name := Str.ofString "__next__") ty F.slot_zip_next (wpAny_call_entry F.slot_zip_next ty F.entry_zip_next (znext_end hh D hz hu pI pO j1 j2 m1 m2 hend fun g e hk he => ?_) (F.args_zip_next_1 _))))
  obtain ⟨o, h1, h2⟩ := he
  exact wpAny_bind (wpAny_isInstance (T := "StopIteration") (b := true) ⟨o, h1, h2⟩ isSubtype_stop (wpAny_pure (q _ hk)))
end

theorem turn_zipN {P : Program} {w : World} {K : PySem.W.Frag} {nm : Str} {tpos : Pos} {a b z TI TO i1 i2 : Addr} (D : ZipApart z TI TO i1 i2 a b) :
    Turn P w K (.Name nm tpos) (Itz K a b) [z, TI, TO, i1, i2] z (fun i h => (∃ u v, ZAny h z TI TO u v ∧ (u = .none ∨ ∃ T : Nat, u = rawInt T) ∧ ∃ f : Bool, v = .bool f) ∧ IsPair h TI (.ref i1) (.ref i2) ∧ (∃ x y, IsPair h TO x y) ∧ h.IsListIter i1 a i ∧ h.IsListIter i2 b i) where
  mem := by simp
  obj := fun i h st c hc => by
    obtain ⟨⟨u, v, hz, _⟩, hI, ⟨x, y, hO⟩, ⟨o1, e1, _, d1⟩, ⟨o2, e2, _, d2⟩⟩ := st
    have e' : c = z ∨ c = TI ∨ c = TO ∨ c = i1 ∨ c = i2 := by simpa using hc
    rcases e' with q | q | q | q | q
    · rw [q]; exact ⟨_, hz, fun v q => nomatch q⟩
    · rw [q]; exact ⟨_, hI, fun v q => nomatch q⟩
    · rw [q]; exact ⟨_, hO, fun v q => nomatch q⟩
    · rw [q]; exact ⟨o1, e1, fun v q => by rw [d1] at q; cases q⟩
    · rw [q]; exact ⟨o2, e2, fun v q => by rw [d2] at q; cases q⟩
  keep := fun i h h' st k => by
    obtain ⟨⟨u, v, hz, hu⟩, hI, ⟨x, y, hO⟩, h1, h2⟩ := st
    exact ⟨⟨u, v, k z (by simp) _ hz, hu⟩, k TI (by simp) _ hI, ⟨x, y, k TO (by simp) _ hO⟩, h1.at fun o q => k i1 (by simp) o q, h2.at fun o q => k i2 (by simp) o q⟩
  item := by
    intro X hP hw hK hc i pins s σ H E I hf st hg
    subst hP hw hK
    obtain ⟨⟨u, v, hz, hu, hv⟩, hI, ⟨x0, y0, hO⟩, h1, h2⟩ := st
    obtain ⟨xs, ys, x, y, hqx, hqy, hx, hy⟩ := hg
    obtain ⟨its, rv, p, _⟩ := I.list hqx
    obtain ⟨its2, rv2, p2, _⟩ := I.list hqy
    obtain ⟨c1, hc1, rc1⟩ := rv.get hx
    obtain ⟨c2, hc2, rc2⟩ := rv2.get hy
    have lz : z < s.heap.objs.size := Heap.lt_size hz
    have lI : TI < s.heap.objs.size := Heap.lt_size hI
    have lO : TO < s.heap.objs.size := Heap.lt_size hO
    have l1 : i1 < s.heap.objs.size := by obtain ⟨_, e1, _⟩ := h1; exact Heap.lt_size e1
    have l2 : i2 < s.heap.objs.size := by obtain ⟨_, e1, _⟩ := h2; exact Heap.lt_size e1
    have mh : ∀ c : Addr, c ∈ [z, TI, TO, i1, i2] → c < s.heap.objs.size := fun c hcm => by
      have e' : c = z ∨ c = TI ∨ c = TO ∨ c = i1 ∨ c = i2 := by simpa using hcm
      rcases e' with q | q | q | q | q <;> (rw [q]; assumption)
    have fin : ∀ g : Heap, (∃ u v, ZAny g z TI TO u v ∧ (u = .none ∨ ∃ T : Nat, u = rawInt T) ∧ ∃ f : Bool, v = .bool f) → IsPair g TI (.ref i1) (.ref i2) → (∃ x y, IsPair g TO x y) → g.IsListIter i1 a (i + 1) → g.IsListIter i2 b (i + 1) → IsPair g s.heap.objs.size c1 c2 → (∀ c o, c ∉ [z, TI, TO, i1, i2] → s.heap.get? c = some o → g.get? c = some o) →
        ∃ uu, some (Value.ref s.heap.objs.size) = some uu ∧ wpAny (model X.prog X.w) X.A (letOwnedTupleGo (.Name nm tpos) (.ref z) uu) (fun _ s2 => ∃ x H', Inv X pins σ H' s2 ∧ RelV x uu ∧ (Itz X.K a b).yld i H x H' ∧ ((∃ u v, ZAny s2.heap z TI TO u v ∧ (u = .none ∨ ∃ T : Nat, u = rawInt T) ∧ ∃ f : Bool, v = .bool f) ∧ IsPair s2.heap TI (.ref i1) (.ref i2) ∧ (∃ x y, IsPair s2.heap TO x y) ∧ s2.heap.IsListIter i1 a (i + 1) ∧ s2.heap.IsListIter i2 b (i + 1)) ∧ ∀ b ∈ [z, TI, TO, i1, i2], H' b = none) E { s with heap := g } := fun g q1 q2 q3 q4 q5 q6 q7 => by
      refine ⟨_, rfl, wpAny_pure ?_⟩
      have new : ObjOk X.prog X.w (upd H s.heap.objs.size (.tup [x, y])) g s.heap.objs.size (.tup [x, y]) :=
        ⟨by show 2 ≤ sizeLine; decide, [c1, c2], .cons rc1 (.cons rc2 .nil), ⟨_, q6, rfl, _, rfl⟩⟩
      have I1 : Inv X pins σ (upd H s.heap.objs.size (.tup [x, y])) { s with heap := g } := I.turnedNew (t' := s.toks) (ch := [z, TI, TO, i1, i2]) q7 hf (Nat.le_refl _) new
      refine ⟨.ref s.heap.objs.size, _, I1, rfl, ⟨_, x, y, rfl, I.hok.fresh (Nat.le_refl _), rfl, fun l hl => by rw [I.list_inj hl hqx]; exact hx, fun l hl => by rw [I.list_inj hl hqy]; exact hy⟩, ⟨q1, q2, q3, q4, q5⟩, fun c hcm => ?_⟩
      rw [upd_ne (Nat.ne_of_lt (mh c hcm))]
      exact (hf c hcm).1
    by_cases hl : Lent s.heap u
    · exact zpy_item D hz hl hI hO h1 h2 p.isList p2.isList (x := c1) (y := c2) (by simpa using hc1) (by simpa using hc2) fun g b1 b2 b3 b4 b5 b6 b7 =>
        fin g ⟨_, _, b1, .inr ⟨_, rfl⟩, false, rfl⟩ (b7 _ _ ⟨D.TIz, D.TITO, D.TIi1, D.TIi2⟩ hI) ⟨_, _, b2⟩ b3 b4 b5 fun c o hcm q => b7 c o ⟨fun r => hcm (by simp [r]), fun r => hcm (by simp [r]), fun r => hcm (by simp [r]), fun r => hcm (by simp [r])⟩ q
    · have hT : ∃ (T : Nat) (oT : Obj), u = rawInt T ∧ s.heap.get? T = some oT := by
        rcases hu with rfl | ⟨T, rfl⟩
        · exact absurd (.inl rfl) hl
        · cases hT : s.heap.get? T with
          | none => exact absurd (.inr ⟨T, rfl, hT⟩) hl
          | some oT => exact ⟨T, oT, rfl, hT⟩
      obtain ⟨T, oT, rfl, hT⟩ := hT
      obtain ⟨f, rfl⟩ := hv
      exact wpAny_pyNext_zip_item_held D hz hT hI h1 h2 p.isList p2.isList (x := c1) (y := c2) (by simpa using hc1) (by simpa using hc2) fun g b1 b3 b4 b5 b6 b7 =>
        fin g ⟨_, _, b1, .inr ⟨_, rfl⟩, true, rfl⟩ (b7 _ _ D.TIz D.TIi1 D.TIi2 hI) ⟨_, _, b7 _ _ D.TOz D.TOi1 D.TOi2 hO⟩ b3 b4 b5 fun c o hcm q => b7 c o (fun r => hcm (by simp [r])) (fun r => hcm (by simp [r])) (fun r => hcm (by simp [r])) q
  done := by
    intro X hP hw hK hc i pins s σ H E I hf st hg
    subst hP hw hK
    obtain ⟨⟨u, v, hz, hu, hv⟩, hI, ⟨x0, y0, hO⟩, h1, h2⟩ := st
    obtain ⟨xs, ys, hqx, hqy, hend⟩ := hg
    obtain ⟨its, rv, p, _⟩ := I.list hqx
    obtain ⟨its2, rv2, p2, _⟩ := I.list hqy
    have l1 := rv.length
    have l2 := rv2.length
    have he : its.toArray[i]? = none ∨ its2.toArray[i]? = none := by
      rcases hend with q | q
      · exact .inl (by simp; omega)
      · exact .inr (by simp; omega)
    by_cases hl : Lent s.heap u
    · exact zpy_end (I.ok.hd hc) D hz hl hI hO h1 h2 p.isList p2.isList he fun g hk => ⟨rfl, I.turnedL (t' := s.toks) (ch := [z, TI, TO, i1, i2]) (fun c o hcm q => hk c o ⟨fun r => hcm (by simp [r]), fun r => hcm (by simp [r]), fun r => hcm (by simp [r]), fun r => hcm (by simp [r])⟩ q) hf⟩
    · have hT : ∃ (T : Nat) (oT : Obj), u = rawInt T ∧ s.heap.get? T = some oT := by
        rcases hu with rfl | ⟨T, rfl⟩
        · exact absurd (.inl rfl) hl
        · cases hT : s.heap.get? T with
          | none => exact absurd (.inr ⟨T, rfl, hT⟩) hl
          | some oT => exact ⟨T, oT, rfl, hT⟩
      obtain ⟨T, oT, rfl, hT⟩ := hT
      obtain ⟨f, rfl⟩ := hv
      exact wpAny_pyNext_zip_end_held (I.ok.hd hc) D hz hT hI h1 h2 p.isList p2.isList he fun g hk => ⟨rfl, I.turnedL (t' := s.toks) (ch := [z, TI, TO, i1, i2]) (fun c o hcm q => hk c o (fun r => hcm (by simp [r])) (fun r => hcm (by simp [r])) (fun r => hcm (by simp [r])) q) hf⟩
  self := fun A i s Q E st h => by
    obtain ⟨⟨u, v, hz, _⟩, _⟩ := st
    have ty : s.TypeIs (.ref z) "zip" := ⟨_, hz, rfl⟩
    refine wpAny_pyIter_slot ty F.slot_zip_iter (wpAny_call_entry F.slot_zip_iter ty F.entry_zip_iter ?_ (F.args_zip_iter_1 _))
    exact wpAny_pure ⟨_, rfl, "zip", _, ty, F.slot_zip_next.lookup, h⟩
theorem pi_zipN {X : Cx} {K : PySem.W.Frag} {e e2 : Expr} {ta : TA} {p pos tpos : Pos} {nm : Str} (hg : Gl X "zip") (hm : X.mg "zip" = none) (ha : PA X [e, e2] ta)
    (hs : starEach [e, e2] X.env = (false, eval e X.env) :: starEach [e2] X.env := by rfl) (hpl : (backTo pos (starEach [e2] X.env)).any (·.1) = false := by rfl) (h : X.K = K := by rfl) :
    PI X (.Name nm tpos) (.Call (.Name "zip" p) [e, e2] [] pos) (iZip K ta) := by
  subst h
  refine ⟨fun pins s σ H R I h => ?_⟩
  refine Call_ (ld_blt I hg hm PyProof.Rows.boot_zip (PyProof.Rows.callWith_type1 (thn (ha.run pos pins s σ H _ I h) fun us s1 ⟨vs, H1, I1, r1, q1⟩ => ?_) hs hpl))
  obtain ⟨a, b, xs, ys, ex, hqx, hqy, q⟩ := q1
  subst ex
  cases r1 with
  | cons r rr =>
    cases rr with
    | cons r' rr =>
      cases rr
      cases r
      cases r'
      obtain ⟨its, rv, p1, _⟩ := I1.list hqx
      obtain ⟨its2, rv2, p2, _⟩ := I1.list hqy
      refine call_zip_2 p1.isList p2.isList fun g hz hI hO h1 h2 hsz hk => wpAny_pyIter_zip hz ?_
      have I2 : Inv X pins σ H1 { s1 with heap := g } := I1.kept (t' := s1.toks) hk
      refine ⟨s1.heap.objs.size + 4, [s1.heap.objs.size + 4, s1.heap.objs.size + 2, s1.heap.objs.size + 3, s1.heap.objs.size, s1.heap.objs.size + 1], _, _, H1, rfl, I2, turn_zipN (PySem.W.ktu_apart s1.heap.objs.size a b p1.lt p2.lt), ⟨⟨_, _, hz, .inl rfl, false, rfl⟩, hI, ⟨_, _, hO⟩, h1, h2⟩, fun c hcm => ?_, q⟩
      have le : s1.heap.objs.size ≤ c := by
        have e' : c = s1.heap.objs.size + 4 ∨ c = s1.heap.objs.size + 2 ∨ c = s1.heap.objs.size + 3 ∨ c = s1.heap.objs.size ∨ c = s1.heap.objs.size + 1 := by simpa using hcm
        rcases e' with z | z | z | z | z <;> (rw [z]; first | exact Nat.le_refl _ | exact Nat.le_add_right _ _)
      exact I1.fpOk le (I1.hok.fresh le)

/-! ### t[::-1] of a pair -/
section
variable {prog : Program} {w : World} {A : Around} {E : Value → Shared → Prop} {s : Shared}
theorem two_back {t sl : Addr} {x y u v st : Value} {Q : Value → Shared → Prop} (ht : IsTup s.heap t #[x, y]) (hs : s.heap.IsSliceOf sl u v st) (pu : IsPart u none) (pv : IsPart v none) (ps : IsPart st (some (-1)))
    (h : Q (.ref s.heap.objs.size) { s with heap := s.heap.push { cls := .type "tuple", data := .seq #[y, x] } }) : wpAny (model prog w) A (getItem (.ref t) (.ref sl)) Q E s := by
  obtain ⟨os, ho, hc, hd⟩ := id hs
  have ty : s.TypeIs (.ref sl) "slice" := ⟨os, ho, hc⟩
  unfold getItem
  try with_reducible refine wpAny_holding ?_
  try refine wpAny_bind (wpAny_pure ?_)
  refine wpAny_bind (wpAny_sequenceKey (ht.typeIs) (by decide) (wpAny_bind (wpAny_callSpecial?_slot (name := Str.ofString "__getitem__") ht.typeIs PyProof.Rows.slot_tuple_getitem (wpAny_call_entry PyProof.Rows.slot_tuple_getitem ht.typeIs PyProof.Rows.entry_tuple_getitem ?_ (PyProof.Rows.args_tuple_getitem _ _)))))
  show wpAny (model prog w) _ (Builtin.Tuple.tupleItemsOf (.ref t) >>= _) _ E s
  refine wpAny_bind (tupleItemsOf_ ht (wpAny_bind (wpAny_typeOf ty ?_)))
  rw [if_pos (by decide)]
  refine wpAny_bind ?_
  unfold Builtin.Slice.sliceApplied Builtin.Slice.sliceFields
  refine wpAny_bind (wpAny_bind (wpAny_field ho hd (x := u) rfl (wpAny_bind (wpAny_field ho hd (x := v) rfl (wpAny_bind (wpAny_field ho hd (x := st) rfl (wpAny_pure ?_)))))))
  refine wpAny_bind (HT.slicePart_ ps ?_)
  show wpAny (model prog w) _ (if ((-1 : Int) == 0) = true then _ else _) _ E s
  rw [if_neg (by decide)]
  refine wpAny_bind (HT.slicePart_ pu (wpAny_bind (HT.slicePart_ pv (wpAny_bind (wpAny_pure ?_)))))
  have e1 : Builtin.Slice.sliceAdjust none none (-1) (2 : Int) = (1, -1) := by decide
  have e2 : Builtin.Slice.slicePlaces 1 (-1) (-1) = 2 := by decide
  have e3 : ((List.range 2).filterMap fun (k : Nat) => (#[x, y] : Array Value)[((1 : Int) + (k : Int) * (-1)).toNat]?).toArray = #[y, x] := rfl
  show wpAny (model prog w) _ (match Builtin.Slice.sliceAdjust none none (-1) (2 : Int) with | (lo, hi) => pure (lo, (-1 : Int), Builtin.Slice.slicePlaces lo hi (-1))) _ E s
  rw [e1]
  show wpAny (model prog w) _ (pure ((1 : Int), (-1 : Int), Builtin.Slice.slicePlaces 1 (-1) (-1))) _ E s
  rw [e2]
  refine wpAny_pure ?_
  show wpAny (model prog w) _ (if ((1 : Int) == 0 && (-1 : Int) == 1 && (2 : Nat) == 2) = true then _ else _) _ E s
  rw [if_neg (by decide), e3]
  have hz : sizeOk (.seq #[y, x]) := by show 2 ≤ sizeLine; decide
  first
    | exact wpAny_bind (m := Builtin.Tuple.tupleExact _) (wpAny_newObj_type (wpAny_pure ⟨_, rfl, wpAny_pure h⟩) hz)
    | exact wpAny_bind (m := Builtin.Tuple.tupleExact _) (wpAny_newObj_type (wpAny_bind (wpAny_pure (wpAny_pure ⟨_, rfl, wpAny_pure h⟩))) hz)
    | exact wpAny_bind (wpAny_bind (m := Builtin.Tuple.tupleExact _) (wpAny_newObj_type (wpAny_pure (wpAny_pure ⟨_, rfl, wpAny_pure h⟩)) hz))
    | exact wpAny_bind (wpAny_bind (m := Builtin.Tuple.tupleExact _) (wpAny_newObj_type (wpAny_pure ⟨_, rfl, wpAny_pure h⟩) hz))
end
def tRevT (K : PySem.W.Frag) (te : TE) : TE := fun σ H Q => te σ H fun x H1 => ∃ a v w, x = .ref a ∧ SqT K H1 a [v, w] ∧ ∀ p, H1 p = none → Q (.ref p) (upd H1 p (.tup [w, v]))
theorem pe_revT {X : Cx} {K : PySem.W.Frag} {e : Expr} {te : TE} {k : Nat} {p1 p2 p3 pos : Pos} (he : PE X e te) (h : X.K = K := by rfl) : PE X (.Subscript e (.Slice none none (some (.UnaryOp .USub (.Constant (.int 1) k p1) p2)) p3) pos) (tRevT K te) := by
  subst h
  refine ⟨fun pins s σ H Q I h => ?_⟩
  refine Subscript_ (thn (he.run pins s σ H _ I h) fun v s1 ⟨x, H1, I1, r1, q1⟩ => ?_)
  obtain ⟨a, v0, w0, ex, hx, q⟩ := q1
  subst ex
  cases r1
  have hst : PO X (some (.UnaryOp .USub (.Constant (.int 1) k p1) p2)) (tPart (tUn (rU fun i => .int (-i)) (tC (.int 1)))) := po_some (pe_un un_neg pe_int)
  refine wpAny_Slice (thn (po_none.run pins s1 σ H1 (fun o g => o = none ∧ g = H1) I1 ⟨rfl, rfl⟩) fun vl s2 ⟨l, H2, I2, pl, el, e2⟩ => ?_)
  subst el e2
  refine thn (po_none.run pins s2 σ H2 (fun o g => o = none ∧ g = H2) I2 ⟨rfl, rfl⟩) fun vu s3 ⟨u, H3, I3, pu, eu, e3⟩ => ?_
  subst eu e3
  refine thn (hst.run pins s3 σ H3 (fun o g => o = some (-1) ∧ g = H3) I3 ⟨1, rfl, -1, rfl, rfl, rfl⟩) fun vs s4 ⟨o, H4, I4, ps, eo, e4⟩ => ?_
  subst eo e4
  have I5 : Inv X pins σ H4 { s4 with heap := s4.heap.push { cls := .type "slice", data := .fields #[vl, vu, vs] } } := I4.kept (t' := s4.toks) fun b ob g => Heap.get?_push_of_some _ g
  obtain ⟨its, r, ht, hz⟩ := I5.tuple hx
  obtain ⟨c1, c2, rfl, k1, k2⟩ : ∃ c1 c2, its = [c1, c2] ∧ RelV v0 c1 ∧ RelV w0 c2 := by
    cases r with
    | cons r1 r =>
      cases r with
      | cons r2 r =>
        cases r
        exact ⟨_, _, rfl, r1, r2⟩
  show wpAny (model X.prog X.w) X.A (subscriptTail e (.Slice none none (some (.UnaryOp .USub (.Constant (.int 1) k p1) p2)) p3) (.ref a) (.ref s4.heap.objs.size)) (EP X pins σ Q) X.xe { s4 with heap := s4.heap.push { cls := .type "slice", data := .fields #[vl, vu, vs] } }
  refine tail_any (ops := [.ref a, .ref s4.heap.objs.size]) ht.typeIs (PyProof.Rows.slot_tuple_getitem.lookup) ?_ (by with_unfolding_all rfl)
  refine two_back (show IsTup _ a #[c1, c2] from ht) (Heap.IsSliceOf.new _ vl vu vs) pl pu ps ?_
  refine ⟨.ref _, _, I5.laid (t' := s4.toks) (o := .tup [w0, v0]) (fun b ob g => Heap.get?_push_of_some _ g) (Nat.le_refl _) ?_, rfl, q _ (I5.hok.fresh (Nat.le_refl _))⟩
  exact ⟨by show 2 ≤ sizeLine; decide, [c2, c1], .cons k2 (.cons k1 .nil), _, Heap.get?_push_size _ rfl, rfl, _, rfl⟩
def gRevT (p : P) (e : En) : Option (P × En) := match fzP e p with
  | some (.tuple [a, b], e2) => some (.val (.tuple [b, a]), e2)
  | _ => none
def mRevT (me : ME) : ME := bnd me gRevT
theorem oe_revT {α β : Type} {env : En} {p : P} {ea : α → PyData} {eb : β → PyData} {x : α × β} (h : fzP env p = some (encT ea eb x, env)) : gRevT p env = some (.val (encT eb ea (x.2, x.1)), env) := by
  unfold gRevT
  rw [h]
  rfl
theorem re_revT {K : PySem.W.Frag} {pu : Bool} {te : TE} {me : ME} (he : RE pu te me) : RE false (tRevT K te) (mRevT me) := by
  intro F H σ env Sl R p env' e Q q
  obtain ⟨p1, e1, h1, h2⟩ := bnd_of e
  unfold gRevT at h2
  split at h2
  · rename_i a b e2 h3
    cases h2
    refine he F H σ env Sl R p1 _ h1 _ fun r F1 H1 Sl1 s1 pu1 R1 r1 => ?_
    obtain ⟨F2, Sl2, s2, R2, r2⟩ := fz_ok R1 r1 h3
    obtain ⟨ad, vs, rfl, hF, rr⟩ := rp_tuple.mp r2
    cases rr with
    | cons x1 rr =>
      cases rr with
      | cons x2 rr =>
        cases rr
        refine ⟨ad, _, _, rfl, SqT.of (R2.ex _ _ hF), fun np na => ?_⟩
        obtain ⟨x, y, z, w, rt⟩ := new_tup (ds := [b, a]) R2.ex na (.cons x2 (.cons x1 .nil))
        exact q _ _ _ Sl2 (s1.trans (s2.trans (Step.grow x y w))) (fun z => nomatch z) (R2.grow x y z w) rt
  · cases h2

/-! ### is, is not of bools -/
def gIsB (neg : Bool) : En → P → P → Option P
  | _, .val (.bool a), .val (.bool b) => some (.val (.bool (neg ^^ decide (a = b))))
  | _, _, _ => none
theorem b_isBl : BinK rIsB (gIsB false) := by
  intro F H σ env Sl x y p1 p2 p R h1 h2 e Q q
  unfold gIsB at e
  split at e
  · rename_i a b
    cases e
    refine ⟨a, b, h1, h2, q _ F H (Ex.refl F) (Ex.refl H) R.ex (fun _ _ z => .inl z) ?_⟩
    rw [Bool.false_xor]
    rfl
  · cases e
theorem b_notBl : BinK rNotB (gIsB true) := by
  intro F H σ env Sl x y p1 p2 p R h1 h2 e Q q
  unfold gIsB at e
  split at e
  · rename_i a b
    cases e
    refine ⟨a, b, h1, h2, q _ F H (Ex.refl F) (Ex.refl H) R.ex (fun _ _ z => .inl z) ?_⟩
    rw [Bool.true_xor]
    rfl
  · cases e
theorem oe_isB {env : En} {neg a b : Bool} : (gIsB neg env (.val (encB a)) (.val (encB b))).map (fun r => (r, env)) = some (.val (encB (neg ^^ decide (a = b))), env) := rfl
end Tr
namespace Tr
open PySem PySem.Spec PyProof.Rows L2
/-! ### a dict that a name alone holds: keys are ints or texts -/
abbrev DPr (F : Hp) : Key × PyData → Key × V → Prop := fun p q => p.1 = q.1 ∧ Rp F p.2 q.2
def lookK {α : Type} (kvs : List (Key × α)) (k : Key) : Option α := (kvs.find? fun kv => decide (kv.1 = k)).map (·.2)
def hasK {α : Type} (kvs : List (Key × α)) (k : Key) : Bool := kvs.any fun kv => decide (kv.1 = k)
def stoK {α : Type} (kvs : List (Key × α)) (k : Key) (v : α) : List (Key × α) := if hasK kvs k = true then kvs.map (fun kv => if kv.1 = k then (kv.1, v) else kv) else kvs ++ [(k, v)]
theorem look_ok {F : Hp} {k : Key} : ∀ {kvs : List (Key × PyData)} {kws : List (Key × V)} {d : PyData}, All2 (DPr F) kvs kws → lookK kvs k = some d → ∃ v, valV kws k = some v ∧ Rp F d v
  | _, _, d, .nil, h => nomatch h
  | _, _, d, .cons (a := p) (b := q) (as := ps) (bs := qs) x t, h => by
    by_cases e : p.1 = k
    · have e2 : q.1 = k := x.1.symm.trans e
      refine ⟨q.2, valV_pos e2, ?_⟩
      unfold lookK at h
      rw [List.find?_cons, decide_eq_true e] at h
      have : p.2 = d := Option.some.inj h
      rw [← this]
      exact x.2
    · have e2 : ¬ q.1 = k := fun z => e (x.1.trans z)
      rw [valV_neg e2]
      refine look_ok t ?_
      unfold lookK at h ⊢
      rw [List.find?_cons, decide_eq_false e] at h
      exact h
theorem has_ok {F : Hp} {k : Key} : ∀ {kvs : List (Key × PyData)} {kws : List (Key × V)}, All2 (DPr F) kvs kws → (kws.any fun kv => decide (kv.1 = k)) = hasK kvs k
  | _, _, .nil => rfl
  | _, _, .cons (a := p) (b := q) (as := ps) (bs := qs) x t => by
    show (decide (q.1 = k) || qs.any fun kv => decide (kv.1 = k)) = (decide (p.1 = k) || hasK ps k)
    rw [has_ok t, x.1]
theorem sto_ok {F : Hp} {k : Key} {d : PyData} {v : V} {kvs : List (Key × PyData)} {kws : List (Key × V)} (h : All2 (DPr F) kvs kws) (r : Rp F d v) : All2 (DPr F) (stoK kvs k d) (putK kws k v) := by
  unfold stoK putK
  rw [has_ok h]
  split
  · rename_i z
    clear z
    induction h with
    | nil => exact .nil
    | cons x t ih =>
      rename_i p q ps qs
      refine .cons ?_ ih
      show DPr F (if p.1 = k then (p.1, d) else p) (if q.1 = k then (q.1, v) else q)
      rw [x.1]
      split
      · exact ⟨rfl, r⟩
      · exact ⟨x.1, x.2⟩
  · rename_i z
    clear z
    induction h with
    | nil => exact .cons ⟨rfl, r⟩ .nil
    | cons x t ih => exact .cons x ih
theorem len_ok {F : Hp} {kvs : List (Key × PyData)} {kws : List (Key × V)} (h : All2 (DPr F) kvs kws) : kvs.length = kws.length := h.len
theorem REnv.heldD {F H : Hp} {σ : L2.St} {env : En} {Sl : Nat → Addr → Prop} {j : Nat} {kvs : List (Key × PyData)} (R : REnv F H σ env Sl) (hj : env[j]? = some (some (.dk kvs))) : ∃ a kws, σ[j]? = some (some (.ref a)) ∧ H a = some (.dK kws) ∧ All2 (DPr F) kvs kws := by
  obtain ⟨v, e1, a, kws, e2, sa, hH, r⟩ := R.at_ j _ hj
  subst e2
  exact ⟨a, kws, e1, hH, r⟩
theorem REnv.writeD {F H : Hp} {σ : L2.St} {env : En} {Sl : Nat → Addr → Prop} {j : Nat} {a : Addr} {kws' : List (Key × V)} {kvs kvs' : List (Key × PyData)} (R : REnv F H σ env Sl) (hj : env[j]? = some (some (.dk kvs))) (hv : σ[j]? = some (some (.ref a))) (r : All2 (DPr F) kvs' kws') :
    Step F H Sl F (upd H a (.dK kws')) Sl ∧ REnv F (upd H a (.dK kws')) σ (env.set j (some (.dk kvs'))) Sl := by
  obtain ⟨v, e1, a', ws, e2, sa, hH, _⟩ := R.at_ j _ hj
  rw [hv] at e1
  cases e1
  cases e2
  have ns : ∀ i, i ≠ j → ¬ Sl i a := fun i n z => n (R.dj i j a z sa)
  have fa := (R.tr j a sa).1
  refine ⟨⟨Ex.refl F, fun b o h n => ?_, fun b o h => ?_, fun _ _ z => .inl z, fun _ _ z => .inl z⟩, ⟨fun b o h => ?_, by rw [List.length_set]; exact R.len, fun i o h => ?_, R.dj, fun i b z => ?_⟩⟩
  · rw [upd_ne (fun z => n j (by rw [z]; exact sa))]; exact h
  · by_cases z : b = a
    · subst z; exact ⟨_, upd_same⟩
    · exact ⟨o, by rw [upd_ne z]; exact h⟩
  · rw [upd_ne (fun z => by rw [z, fa] at h; cases h)]; exact R.ex b o h
  · rcases set_at h with ⟨rfl, e2, _⟩ | ⟨ne, h'⟩
    · cases e2
      exact ⟨_, hv, a, kws', rfl, sa, upd_same, r⟩
    · obtain ⟨v2, e2, w2⟩ := R.at_ i o h'
      exact ⟨v2, e2, w2.ext (Ex.refl F) fun b u s q => by rw [upd_ne (fun z => ns i ne (by rw [← z]; exact s))]; exact q⟩
  · obtain ⟨y1, u, y2⟩ := R.tr i b z
    refine ⟨y1, ?_⟩
    by_cases e : b = a
    · subst e; exact ⟨_, upd_same⟩
    · exact ⟨u, by rw [upd_ne e]; exact y2⟩
def keyP : P → Option Key
  | .val (.int i) => some (.inl i)
  | .val (.str x) => some (.inr x)
  | _ => none
theorem key_ok {F : Hp} {σ : L2.St} {v : V} {p : P} {k : Key} (h : RP F σ v p) (e : keyP p = some k) : v = kV k := by
  unfold keyP at e
  split at e
  · cases e; exact pint h
  · cases e; exact pstr h
  · cases e
/-- {} -/
def mDNew : MO := fun e => some (.dk [], e)
theorem ro_dnew : RO tDNewK mDNew := by
  intro F H σ env Sl R o env' e Q q
  cases e
  intro p np
  have ex : Ex H (upd H p (.dK [])) := Ex.new np
  have n : ∀ b o, F b = some o → F b = some o ∨ H b = none := fun _ _ z => .inl z
  refine q _ F _ Sl (fun a => a = p) (Step.grow (Ex.refl F) ex n) (R.grow (Ex.refl F) ex (R.ex.trans ex) n) ⟨⟨p, [], rfl, rfl, upd_same, .nil⟩, fun i a e s => ?_, fun a e => ?_, fun a e => ?_⟩
  · subst e
    obtain ⟨_, o, z⟩ := R.tr i a s
    rw [np] at z
    cases z
  · subst e
    exact ⟨R.ex.none np, _, upd_same⟩
  · subst e
    exact np
/-- d[k] -/
def mDGet (j : Nat) (mi : ME) : ME := fun env => match env[j]? with
  | some (some (.dk _)) => (bnd mi fun p e => match e[j]?, keyP p with
    | some (some (.dk kvs)), some k => (lookK kvs k).map fun d => (.val d, e)
    | _, _ => none) env
  | _ => none
theorem re_dget {pu : Bool} {j : Nat} {ti : TE} {mi : ME} (hi : RE pu ti mi) : RE false (tDGet (tVar j) ti) (mDGet j mi) := by
  intro F H σ env Sl R p env' e Q q
  unfold mDGet at e
  split at e
  · rename_i kvs0 h0
    obtain ⟨v, hv, _⟩ := R.at_ j _ h0
    obtain ⟨p1, e1, h1, h2⟩ := bnd_of e
    split at h2
    · rename_i kvs k h3 h4
      cases h5 : lookK kvs k with
      | none => rw [h5] at h2; cases h2
      | some d =>
        rw [h5] at h2
        cases h2
        refine ⟨v, hv, ?_⟩
        refine hi F H σ env Sl R _ _ h1 _ fun x F1 H1 Sl1 s1 pu1 R1 r1 => ?_
        obtain ⟨a, kws, ha, hA, rr⟩ := R1.heldD h3
        rw [hv] at ha
        cases ha
        obtain ⟨w, hw, rw_⟩ := look_ok rr h5
        refine ⟨a, w, rfl, ?_, q w F1 H1 Sl1 s1 (fun z => nomatch z) R1 rw_⟩
        rw [key_ok r1 h4, ← hw]
        exact DGet.k hA
    · cases h2
  · cases e
/-- d[k] = v -/
def mDPut (j : Nat) (mi me : ME) : MS := bnd me fun p e1 => match fzP e1 p with
  | some (d, e2) => match e2[j]? with
    | some (some (.dk _)) => match mi e2 with
      | some (p', e3) => match e3[j]?, keyP p' with
        | some (some (.dk kvs)), some k => if kvs.length < sizeLine then some (.nx, e3.set j (some (.dk (stoK kvs k d)))) else none
        | _, _ => none
      | _ => none
    | _ => none
  | none => none
theorem rs_dput {pn : List Nat} {pu pv : Bool} {te ti : TE} {me mi : ME} {j : Nat} (h : RE pu te me) (hi : RE pv ti mi) : RS pn (sDPut (tVar j) ti te) (mDPut j mi me) := by
  intro F H σ env Sl R c env' e D q
  obtain ⟨p, e1, h1, h2⟩ := bnd_of e
  split at h2
  · rename_i d e2 h3
    split at h2
    · rename_i kvs0 h0
      split at h2
      · rename_i p' e3 h4
        split at h2
        · rename_i kvs k h5 h6
          split at h2
          · rename_i hl
            cases h2
            refine h F H σ env Sl R p _ h1 _ fun r F1 H1 Sl1 s1 pu1 R1 r1 => ?_
            obtain ⟨F2, Sl2, s2, R2, r2⟩ := fz_ok R1 r1 h3
            obtain ⟨a, _, ha, _⟩ := R2.heldD h0
            refine ⟨_, ha, ?_⟩
            refine hi F2 H1 σ e2 Sl2 R2 _ _ h4 _ fun r' F3 H3 Sl3 s3 pu3 R3 r3 => ?_
            obtain ⟨a', kws, ha', hH, rr⟩ := R3.heldD h5
            rw [ha] at ha'
            cases ha'
            obtain ⟨s4, R4⟩ := R3.writeD h5 ha (sto_ok (k := k) rr (Rp.mono s3.exF r2))
            refine ⟨a, _, rfl, ?_, q _ _ σ _ (s1.trans (s2.trans (s3.trans s4))) R4 fun _ _ => rfl⟩
            rw [key_ok r3 h6]
            exact DPut.k hH (by rw [← len_ok rr]; exact hl)
          · cases h2
        · cases h2
      · cases h2
    · cases h2
  · cases h2
end Tr
namespace Tr
open PySem PySem.Spec PyProof.Rows L2
theorem pe_dgetU {X : Cx} {o i : Expr} {td ty : TE} {pos : Pos} (hu : X.A.units + 65 < cLine) (ho : PE X o td) (hi : PE X i ty) (hs : NoSl i := by exact fun _ _ => rfl) : PE X (.Subscript o i pos) (tDGet td ty) := pe_dget (by omega) ho hi hs
theorem ps_dputU {X : Cx} {o i value : Expr} {td ty tv : TE} {pos pos' : Pos} (hu : X.A.units + 65 < cLine) (ho : PE X o td) (hi : PE X i ty) (hv : PE X value tv) (hs : swapsWith value (some (.Subscript o i pos')) pos.line X.env = pure false := by rfl) :
    PS X (.Assign [.Subscript o i pos'] value pos) (sDPut td ty tv) := ps_dput (by omega) ho hi hv hs
end Tr
namespace Tr
open PySem PySem.Spec PyProof.Rows L2
section
variable {α β : Type} {env : En}
def encK (en : α → PyData) : Int × α → Key × PyData := fun p => (Sum.inl p.1, en p.2)
def dgetI (xs : List (Int × α)) (k : Int) : Option α := (xs.find? fun p => decide (p.1 = k)).map (·.2)
def dhasI (xs : List (Int × α)) (k : Int) : Bool := xs.any fun p => decide (p.1 = k)
def dstoI (xs : List (Int × α)) (k : Int) (v : α) : List (Int × α) := if dhasI xs k = true then xs.map (fun p => if p.1 = k then (p.1, v) else p) else xs ++ [(k, v)]
def dputI (xs : List (Int × α)) (k : Int) (v : α) : Option (List (Int × α)) := if xs.length < sizeLine then some (dstoI xs k v) else none
theorem inl_iff {i k : Int} : ((Sum.inl i : Key) = Sum.inl k) ↔ i = k := ⟨fun h => Sum.inl.inj h, fun h => by rw [h]⟩
theorem look_map {en : α → PyData} {k : Int} : ∀ xs : List (Int × α), lookK (xs.map (encK en)) (.inl k) = (dgetI xs k).map en
  | [] => rfl
  | p :: xs => by
    have ih := look_map (en := en) (k := k) xs
    unfold lookK dgetI at ih ⊢
    rw [List.map_cons, List.find?_cons, List.find?_cons]
    by_cases e : p.1 = k
    · rw [decide_eq_true e, decide_eq_true (show (encK en p).1 = (Sum.inl k : Key) from inl_iff.mpr e)]
      rfl
    · rw [decide_eq_false e, decide_eq_false (show ¬ (encK en p).1 = (Sum.inl k : Key) from fun z => e (inl_iff.mp z))]
      exact ih
theorem has_map {en : α → PyData} {k : Int} : ∀ xs : List (Int × α), hasK (xs.map (encK en)) (.inl k) = dhasI xs k
  | [] => rfl
  | p :: xs => by
    show (decide ((Sum.inl p.1 : Key) = Sum.inl k) || hasK (xs.map (encK en)) (.inl k)) = (decide (p.1 = k) || dhasI xs k)
    rw [has_map xs, decide_eq_decide.mpr inl_iff]
theorem sto_map {en : α → PyData} {k : Int} {v : α} {xs : List (Int × α)} : stoK (xs.map (encK en)) (.inl k) (en v) = (dstoI xs k v).map (encK en) := by
  unfold stoK dstoI
  rw [has_map]
  split
  · rw [List.map_map, List.map_map]
    refine List.map_congr_left fun p _ => ?_
    show (if (Sum.inl p.1 : Key) = Sum.inl k then ((Sum.inl p.1 : Key), en v) else encK en p) = encK en (if p.1 = k then (p.1, v) else p)
    by_cases e : p.1 = k
    · rw [if_pos e, if_pos (inl_iff.mpr e)]
      rfl
    · rw [if_neg e, if_neg (fun z => e (inl_iff.mp z))]
  · rw [List.map_append]
    rfl
theorem xo_dget {en : α → PyData} {j : Nat} {mi : ME} {xs : List (Int × α)} {k : Int} (h : env[j]? = some (some (.dk (xs.map (encK en))))) (hi : mi env = some (.val (.int k), env)) : XV (mDGet j mi) env (dgetI xs k) (fun d => .val (en d)) (fun _ => env) := fun d hd => by
  unfold mDGet
  simp only [h]
  refine (bnd_eq hi).trans ?_
  show (match env[j]?, (some (Sum.inl k) : Option Key) with
    | some (some (.dk kvs)), some k => (lookK kvs k).map fun d => (P.val d, env)
    | _, _ => none) = _
  simp only [h]
  rw [look_map, hd]
  rfl
theorem xo_dput {en : α → PyData} {j : Nat} {me mi : ME} {xs : List (Int × α)} {x : α} {k : Int} {p : P} {e1 e2 e3 : En} {ds0 : List (Key × PyData)} (hm : me env = some (p, e1)) (hf : fzP e1 p = some (en x, e2)) (h0 : e2[j]? = some (some (.dk ds0))) (hi : mi e2 = some (.val (.int k), e3)) (h : e3[j]? = some (some (.dk (xs.map (encK en))))) {E0 : List (Int × α) → En} (hE : ∀ r, e3.set j (some (.dk (r.map (encK en)))) = E0 r) : XV (mDPut j mi me) env (dputI xs k x) (fun _ => .nx) E0 := fun r hr => by
  unfold dputI at hr
  split at hr
  · rename_i hl
    cases hr
    refine (bnd_eq hm).trans ?_
    simp only [hf, h0, hi, h]
    show (match (some (Sum.inl k) : Option Key) with
      | some k => if (xs.map (encK en)).length < sizeLine then some (Ctl.nx, e3.set j (some (.dk (stoK (xs.map (encK en)) k (en x))))) else none
      | _ => none) = _
    simp only []
    rw [if_pos (by rw [List.length_map]; exact hl), sto_map, hE]
  · cases hr
theorem oe_sum {p : P} {xs : List Int} (h : sq env p = some (xs.map encI)) : (gSum env [p]).map (fun r => (r, env)) = some (.val (.int xs.sum), env) := by
  have e : allI (xs.map encI) = some xs := allI_map xs
  unfold gSum
  simp only [h, Option.bind_some, e, Option.map_some]
end
end Tr
namespace Tr
open PySem PySem.Spec PyProof.Rows L2 TS
/-! ### sorted(d), d a dict whose keys are tuples of ints -/
section
variable {prog : Program} {w : World} {A : Around} {E : Value → Shared → Prop} {s : Shared}
theorem kdl_raw {d : Addr} {es : Array DictEntry} {ep : Nat} (lo : (d == sysModules) = false) : PySem.W.KdlSrc prog w "dict" d d es.size (fun i v => ∃ hi : i < es.size, v = es[i].key) (fun h => Heap.DictRaw h d es ep) :=
  { type := fun _ h => h.typeIs
    there := fun _ h => by obtain ⟨o, ho, _⟩ := h; exact ⟨Heap.lt_size ho, Heap.lt_size ho⟩
    keep := fun _ _ h k => Heap.DictRaw.at h fun o e => k d (.inl rfl) o e
    notList := by decide
    notTuple := by decide
    hint := fun _ _ _ _ h q => PySem.W.kdl_hint_dict h.typeIs q
    iter := fun _ s hh h => ⟨_, _, (fun _ _ q => wpAny_pyIter_dict_raw lo h q), Walks.rawKeys hh _ d (by obtain ⟨o, ho, _⟩ := h; exact Nat.ne_of_lt (Heap.lt_size ho)) es ep, ⟨⟨_, Heap.get?_push_size _ rfl, rfl, rfl⟩, Heap.DictRaw.at h fun o e => Heap.get?_push_of_some _ e⟩⟩ }
abbrev ltC (h : Heap) (v u : Value) : Bool := decide (code 16 (intsOf h v) < code 16 (intsOf h u))
theorem swoC (h : Heap) : SrtO.Swo (ltC h) := by
  refine ⟨fun x y e => ?_, fun x y z e1 e2 => ?_⟩
  · have := of_decide_eq_true e
    exact decide_eq_false (by omega)
  · have a := of_decide_eq_false e1
    have b := of_decide_eq_false e2
    exact decide_eq_false (by omega)
theorem tups_sortableO {a : Addr} {vs : List Value} {d : Nat} (hd : 1 ≤ d) (h2 : 2 ≤ vs.length) (x : TupsOk s.heap d 16 vs) (ha : ∀ o, s.heap.get? a = some o → o.cls ≠ .type "tuple") : SrtO.SortableO prog w A s a vs (ltC s.heap) := by
  intro h' keep
  have kp : ∀ b o, s.heap.get? b = some o → o.cls = .type "tuple" → h'.get? b = some o := fun b o e c => keep b o (fun z => ha o (by rw [← z]; exact e) c) e
  have x' : TupsOk h' d 16 vs := x.keeps kp
  obtain ⟨fs, k, hl, hi⟩ := TS.firsts_of hd vs x'
  refine ⟨tuples' true, fun Q E hq => ?_, fun p q hp hq => ?_⟩
  · refine PySem.W.kat_kind (s := { s with heap := h' }) (T := .type "int") k (by omega) (fun f hf => ?_) rfl ?_
    · obtain ⟨n, t, rfl⟩ := hi f hf; exact PySem.W.Looks.of_pure rfl
    · have e : (Value.type "int" != Value.type "tuple") = true := by decide +kernel
      rw [e]; exact hq
  · obtain ⟨ns, tp, lp, bp⟩ := x _ hp
    obtain ⟨ms, tq, lq, bq⟩ := x _ hq
    have e1 : SrtO.lt2 (ltC s.heap) p q = decide (code 16 ns < code 16 ms) := by
      show ltC s.heap p.1 q.1 = _
      unfold ltC
      rw [tp.ints, tq.ints]
    have tp' := tp.keeps kp
    have tq' := tq.keeps kp
    obtain ⟨b, xs, c1, ⟨o, ho, hc, n, hdt⟩, i⟩ := tp'
    obtain ⟨b', ys, c2, ⟨o', ho', hc', n', hdt'⟩, i'⟩ := tq'
    rw [c1, c2]
    refine PySem.W.kat_lt (s := { s with heap := h' }) ho hdt ho' hdt' ?_
    have sz : decide (xs.size < ys.size) = false := by
      have l1 := i.length
      have l2 := i'.length
      rw [Array.length_toList] at l1 l2
      exact decide_eq_false (by omega)
    rw [sz]
    exact TS.lex_ints 0 i i' (by omega) bp bq ⟨rfl, e1.symm⟩
theorem collect_raw {r : Addr} {es : Array DictEntry} {ep : Nat} {R : List Value → Shared → Prop} (hh : A.handled = none) (lo : (r == sysModules) = false) (hm : Heap.DictRaw s.heap r es ep) (hn : es.size ≤ sizeLine)
    (h : ∀ (h' : Heap) (tk : Nat) (acc : Array Value), (∀ b o, s.heap.get? b = some o → h'.get? b = some o) → s.heap.objs.size < h'.objs.size → ItemsOf (fun i v => ∃ hi : i < es.size, v = es[i].key) acc es.size → R acc.toList { s with heap := h', toks := tk }) :
    wpAny (model prog w) A (collect (.ref r)) R E s := by
  have K := kdl_raw (prog := prog) (w := w) (es := es) (ep := ep) lo
  have hlt := K.there _ hm
  have e1 : entryFor table "proto.collect" = some Builtin.«proto.collect» := PySem.F.entry_proto_collect
  unfold collect
  refine wpAny_bind (wpAny_runValue (codeAny_builtin e1 ?_)); rw [Around.under_plainId PySem.F.plain_proto_collect _]
  show wpAny _ A.in1 (newList [] >>= fun l => again (.builtin "list.__iadd__" ⟨[l, .ref r], []⟩)) _ _ s
  refine wpAny_bind (wpAny_newObj_type ?_)
  refine wpAny_pure ⟨plainId_quiet PySem.F.plain_list_iadd _, codeAny_builtin PySem.F.entry_list_iadd ?_⟩; rw [Around.under_plainId PySem.F.plain_list_iadd _]
  have hS : (s.heap.push { cls := .type "list", data := .seq ([] : List Value).toArray }).get? s.heap.objs.size = some { cls := .type "list", data := .seq #[] } := Heap.get?_push_size _ rfl
  show wpAny _ A.in1 (Builtin.List.listExtendWith (.ref s.heap.objs.size) (.ref r) (.ref s.heap.objs.size)) _ _ _
  have key := PySem.W.kdl_extend (A := A) (s := { s with heap := s.heap.push { cls := .type "list", data := .seq ([] : List Value).toArray } })
    (R := fun (q : Result) (s' : Shared) => q = .ok (.ret (.ref s.heap.objs.size)) ∧ ∃ (h' : Heap) (tk : Nat) (acc : Array Value) (c : Nat), s' = { s with heap := h', toks := tk } ∧ (∀ b o, s.heap.get? b = some o → h'.get? b = some o) ∧
      h'.get? s.heap.objs.size = some { cls := .type "list", dict := none, data := .seq acc c, slots := #[] } ∧ ItemsOf (fun i v => ∃ hi : i < es.size, v = es[i].key) acc es.size)
    K hh (K.keep _ _ hm fun b _ o e => Heap.get?_push_of_some _ e) s.heap.objs.size (Nat.ne_of_gt hlt.1) (Nat.ne_of_gt hlt.2) (.ref s.heap.objs.size) 0 hS
    (fun h' tk acc c hk hS' ha => ⟨rfl, h', tk, acc, c, rfl, fun b o e => hk b o (Nat.ne_of_lt (Heap.lt_size e)) (Heap.get?_push_of_some _ e), hS', ha⟩) hn
  refine wpAny_mono key (fun fin s' x => ?_) fun e s' x => nomatch x.1
  cases fin with
  | done f =>
    obtain ⟨e, h', tk, acc, c, rfl, hk, hS', ha⟩ := x
    cases e
    show wpAny _ A (load s.heap.objs.size >>= _) _ _ _
    exact wpAny_bind (wpAny_load hS' (wpAny_pure (h h' tk acc hk (Heap.lt_size hS') ha)))
  | again c₁ =>
    refine ⟨x.1, codeAny_mono x.2 fun q s₂ y => ?_⟩
    obtain ⟨e, h', tk, acc, c, rfl, hk, hS', ha⟩ := y
    cases e
    show wpAny _ A (load s.heap.objs.size >>= _) _ _ _
    exact wpAny_bind (wpAny_load hS' (wpAny_pure (h h' tk acc hk (Heap.lt_size hS') ha)))
theorem sorted_raw {r : Addr} {es : Array DictEntry} {ep d : Nat} {Q : Value → Shared → Prop} (hh : A.handled = none) (lo : (r == sysModules) = false) (hm : Heap.DictRaw s.heap r es ep) (hn : es.size ≤ sizeLine)
    (hd : 1 ≤ d ∨ es.size < 2) (x : TupsOk s.heap d 16 (es.toList.map (·.key)))
    (h : ∀ (h' : Heap) (tk : Nat) (D : Addr) (out : List Value) (ep' : Nat), (∀ b o, s.heap.get? b = some o → h'.get? b = some o) → s.heap.objs.size ≤ D → h'.get? D = some (seqObj "list" out.toArray ep') →
      out.Pairwise (fun u v => code 16 (intsOf s.heap u) ≤ code 16 (intsOf s.heap v)) → out.Perm (es.toList.map (·.key)) → Q (.ref D) { s with heap := h', toks := tk }) :
    wpAny (model prog w) A (call (.builtin "sorted") [.ref r]) Q E s := by
  refine PySem.Calls.call_function_entry kind_sorted plain_sorted entry_sorted (args_sorted1 _) ?_
  unfold Builtin.«sorted»
  refine wpAny_bind (m := checkCount "sorted" 1 1 _) (wpAny_pure ?_)
  refine wpAny_bind (collect_raw (A := A.in1) hh lo hm hn fun h' tk acc hk hsz hacc => ?_)
  have hlen : acc.toList.length = es.size := by rw [Array.length_toList]; exact hacc.1
  have eqv : acc.toList = es.toList.map (·.key) := by
    apply List.ext_getElem?
    intro i
    by_cases hi : i < es.size
    · have hi2 : i < acc.size := by rw [hacc.1]; exact hi
      obtain ⟨_, e⟩ := hacc.2 i acc[i] (by rw [Array.getElem?_eq_getElem hi2])
      rw [Array.getElem?_toList, Array.getElem?_eq_getElem hi2, List.getElem?_map, Array.getElem?_toList, Array.getElem?_eq_getElem hi, e]
      rfl
    · rw [List.getElem?_eq_none (by omega), List.getElem?_eq_none (by rw [List.length_map, Array.length_toList]; omega)]
  rw [← eqv] at x
  refine wpAny_bind (wpAny_newList ?_ (by rw [hlen]; exact hn))
  have hoL : (h'.push { cls := .type "list", data := .seq acc.toList.toArray }).get? h'.objs.size = some (seqObj "list" acc.toList.toArray 0) := Heap.get?_push_size _ rfl
  have kb : ∀ b o, s.heap.get? b = some o → (h'.push { cls := .type "list", data := .seq acc.toList.toArray }).get? b = some o := fun b o e => Heap.get?_push_of_some _ (hk b o e)
  have ne0 : ∀ b o, s.heap.get? b = some o → b ≠ h'.objs.size := fun b o e => Nat.ne_of_lt (Heap.lt_size (hk b o e))
  have hle : s.heap.objs.size ≤ h'.objs.size := Nat.le_of_lt hsz
  have io : ∀ v ∈ acc.toList, intsOf (h'.push { cls := .type "list", data := .seq acc.toList.toArray }) v = intsOf s.heap v := fun v hv => by
    obtain ⟨ns, t, _⟩ := x v hv
    rw [t.ints, (t.keeps fun b o e _ => kb b o e).ints]
  refine wpAny_bind (wpAny_holding (wpAny_call_entry slot_list_sort ⟨_, hoL, rfl⟩ entry_list_sort (SrtO.list_sort_ord (s := { s with heap := h'.push { cls := .type "list", data := .seq acc.toList.toArray }, toks := tk }) (swoC (h'.push { cls := .type "list", data := .seq acc.toList.toArray })) hoL (by rw [hlen]; exact hn)
    (fun h2 => tups_sortableO (d := d) (hd.resolve_right (by omega)) h2 (x.keeps fun b o e _ => kb b o e) fun o e => ?_) fun out o1 o2 => ⟨_, rfl, ?_⟩) (args_list_sort _)))
  · have e' : some o = some (seqObj "list" acc.toList.toArray 0) := e.symm.trans hoL
    cases e'
    intro c
    exact absurd (Value.type.inj c) (by decide)
  · obtain ⟨e1, he1⟩ := PyProof.Rows.sortedHeap_at (vs := acc.toList) (out := out.toArray) hoL
    have pm : out.Perm acc.toList := o2.perm
    refine wpAny_pure ⟨_, rfl, h _ _ _ out e1 (fun b o e => (PyProof.Rows.sortedHeap_old (ne0 b o e) (Heap.lt_size (kb b o e))).trans (kb b o e)) hle he1 ?_ (by rw [← eqv]; exact pm)⟩
    refine List.Pairwise.imp_of_mem (fun {u v} hu hv z => ?_) o1
    have z' := of_decide_eq_false z
    rw [io u (pm.mem_iff.mp hu), io v (pm.mem_iff.mp hv)] at z'
    omega
end
end Tr
namespace Tr
open PySem PySem.Spec PyProof.Rows L2 TS
theorem code_bnd {B : Int} : ∀ {ns : List Int}, Bd B ns → 0 ≤ code B ns
  | [], _ => Int.le_refl _
  | d :: r, h => (code_bd (d :: r) h).1
theorem code_one {B : Int} : ∀ {a b : List Int}, a.length = b.length → Bd B a → Bd B b → code B a = code B b → a = b
  | [], [], _, _, _, _ => rfl
  | [], _ :: _, h, _, _, _ => nomatch h
  | _ :: _, [], h, _, _, _ => nomatch h
  | d :: r, e :: q, h, h1, h2, h3 => by
    have hl : r.length = q.length := Nat.succ.inj h
    rcases Int.lt_trichotomy d e with y | y | y
    · have := code_lt hl h1.tail h2.tail y
      omega
    · subst y
      have z : code B r = code B q := by
        have := (code_same (B := B) (d := d) hl)
        have := (code_same (B := B) (d := d) hl.symm)
        omega
      rw [code_one hl h1.tail h2.tail z]
    · have := code_lt hl.symm h2.tail h1.tail y
      omega
def adV : Value → Addr
  | .ref a => a
  | _ => 0
def rSortDT : List V → Hp → VK → Prop := fun vs H Q => ∃ (a : Addr) (kvs : List (List Key × V)) (d : Nat), vs = [.ref a] ∧ H a = some (.dT kvs) ∧ (1 ≤ d ∨ kvs.length < 2) ∧ (∀ p ∈ kvs, ∃ ns : List Int, p.1 = ns.map Sum.inl ∧ ns.length = d ∧ Bd 16 ns) ∧
  ∀ (xs : List (Addr × List Int)) (p : Addr), (xs.map Prod.snd).Pairwise (fun m n => code 16 m ≤ code 16 n) → (xs.map fun x => x.2.map Sum.inl).Perm (kvs.map (·.1)) → (∀ x ∈ xs, H x.1 = some (.tup (x.2.map V.int))) → H p = none →
    Q (.ref p) (upd H p (.lst (xs.map fun x => V.ref x.1)))
theorem kt_mem {H : Hp} : ∀ {kvs : List (List Key × V)} {xs : List (List Key × Addr × Value)}, L2.KT H kvs xs → ∀ y ∈ xs, ∃ p ∈ kvs, p.1 = y.1 ∧ H y.2.1 = some (.tup (p.1.map kV))
  | _, _, .nil, y, h => nomatch h
  | _, _, .cons (a := p) (b := q) r t, y, h => by
    rcases List.mem_cons.mp h with e | h
    · subst e; exact ⟨p, List.mem_cons_self .., r.1, r.2.1⟩
    · obtain ⟨p', m, z⟩ := kt_mem t y h
      exact ⟨p', List.mem_cons_of_mem _ m, z⟩
theorem kt_fst {H : Hp} : ∀ {kvs : List (List Key × V)} {xs : List (List Key × Addr × Value)}, L2.KT H kvs xs → kvs.map (·.1) = xs.map (·.1)
  | _, _, .nil => rfl
  | _, _, .cons r t => by rw [List.map_cons, List.map_cons, kt_fst t, r.1]
theorem kV_int (ns : List Int) : (ns.map (Sum.inl : Int → Key)).map kV = ns.map V.int := by
  rw [List.map_map]
  exact List.map_congr_left fun _ _ => rfl
theorem inl_inj' {a b : List Int} (h : a.map (Sum.inl : Int → Key) = b.map Sum.inl) : a = b := by
  induction a generalizing b with
  | nil => cases b with
    | nil => rfl
    | cons y b => exact nomatch h
  | cons x a ih => cases b with
    | nil => exact nomatch h
    | cons y b =>
      rw [List.map_cons, List.map_cons] at h
      rw [ih (List.tail_eq_of_cons_eq h), Sum.inl.inj (List.head_eq_of_cons_eq h)]
theorem cr_sortDT {X : Cx} (hc : X.calm = true) : CallR X (.builtin "sorted") rSortDT := by
  intro pins s σ H vs us Q I r h
  obtain ⟨a, kvs, d, rfl, ha, hd, hk, q⟩ := h
  rw [Vals.ref1 r]
  obtain ⟨hz, lo, xs', rel, dd⟩ := dt_of I.hok ha
  obtain ⟨es, ep, hm, hs, hat⟩ := Heap.DictOfH.raw dd
  have l1 : kvs.length = xs'.length := Paired.length rel
  have hkeys : es.toList.map (·.key) = xs'.map fun y => Value.ref y.2.1 := by
    apply List.ext_getElem?
    intro i
    rw [List.getElem?_map, List.getElem?_map, Array.getElem?_toList]
    by_cases hi : i < es.size
    · obtain ⟨y, e1, e2, _⟩ := hat i hi
      rw [Array.getElem?_eq_getElem hi, e1, Option.map_some, Option.map_some, e2]
    · rw [Array.getElem?_eq_none (by omega), List.getElem?_eq_none (by omega)]
      rfl
  have at_ : ∀ y ∈ xs', ∃ ns : List Int, y.1 = ns.map Sum.inl ∧ ns.length = d ∧ Bd 16 ns ∧ H y.2.1 = some (.tup (ns.map V.int)) ∧ TupInts s.heap (.ref y.2.1) ns := fun y hy => by
    obtain ⟨p, hp, e1, e2⟩ := kt_mem rel y hy
    obtain ⟨ns, n1, n2, n3⟩ := hk p hp
    have e3 : H y.2.1 = some (.tup (ns.map V.int)) := by rw [e2, n1, kV_int]
    obtain ⟨_, its, rv, pt⟩ := (show ObjOk X.prog X.w H s.heap y.2.1 (.tup (ns.map V.int)) from I.hok _ _ e3)
    exact ⟨ns, by rw [← e1]; exact n1, n2, n3, e3, _, its.toArray, rfl, pt, by simpa using ints_of_vals rv⟩
  have x : TupsOk s.heap d 16 (es.toList.map (·.key)) := fun v hv => by
    rw [hkeys] at hv
    obtain ⟨y, hy, rfl⟩ := List.mem_map.mp hv
    obtain ⟨ns, _, n2, n3, _, t⟩ := at_ y hy
    exact ⟨ns, t, n2, n3⟩
  refine sorted_raw (d := d) (I.ok.hd hc) lo hm (by omega) (hd.imp id fun z => by omega) x fun h' tk D out ep' kk hle hob srt pm => ?_
  rw [hkeys] at pm
  have ov : ∀ v ∈ out, ∃ (y : List Key × Addr × Value) (ns : List Int), y ∈ xs' ∧ v = .ref y.2.1 ∧ y.1 = ns.map Sum.inl ∧ H y.2.1 = some (.tup (ns.map V.int)) ∧ intsOf s.heap v = ns := fun v hv => by
    obtain ⟨y, hy, rfl⟩ := List.mem_map.mp (pm.mem_iff.mp hv)
    obtain ⟨ns, n1, _, _, n4, t⟩ := at_ y hy
    exact ⟨y, ns, hy, rfl, n1, n4, t.ints⟩
  have rv : Vals (out.map fun v => V.ref (adV v)) out := by
    have g : ∀ l : List Value, (∀ v ∈ l, v ∈ out) → Vals (l.map fun v => V.ref (adV v)) l := fun l => by
      induction l with
      | nil => intro _; exact .nil
      | cons v l ih =>
        intro hl
        obtain ⟨y, ns, _, e, _⟩ := ov v (hl v (List.mem_cons_self ..))
        refine .cons ?_ (ih fun u hu => hl u (List.mem_cons_of_mem _ hu))
        rw [e]
        exact (show RelV (.ref y.2.1) (.ref y.2.1) from rfl)
    exact g out fun _ h => h
  have em : (out.map fun v => (adV v, intsOf s.heap v)).map (fun x => V.ref x.1) = out.map fun v => V.ref (adV v) := by
    rw [List.map_map]; exact List.map_congr_left fun _ _ => rfl
  have lo' : out.length = kvs.length := by rw [pm.length_eq, List.length_map, l1]
  refine ⟨.ref D, upd H D (.lst ((out.map fun v => (adV v, intsOf s.heap v)).map fun x => V.ref x.1)), ?_, rfl, q _ D ?_ ?_ ?_ (I.hok.fresh hle)⟩
  · refine I.laid (t' := tk) kk hle ⟨by rw [em, List.length_map, lo']; exact hz, out, ep', by rw [em]; exact rv, hob⟩
  · rw [List.map_map, List.pairwise_map]
    exact srt
  · rw [List.map_map, kt_fst rel]
    have e2 : out.map ((fun x : Addr × List Int => x.2.map (Sum.inl : Int → Key)) ∘ fun v => (adV v, intsOf s.heap v)) = out.map fun v => (intsOf s.heap v).map (Sum.inl : Int → Key) := List.map_congr_left fun _ _ => rfl
    rw [e2]
    have e3 := pm.map fun v => (intsOf s.heap v).map (Sum.inl : Int → Key)
    rw [List.map_map] at e3
    refine e3.trans (List.Perm.of_eq (List.map_congr_left fun y hy => ?_))
    obtain ⟨ns, n1, _, _, _, t⟩ := at_ y hy
    show (intsOf s.heap (.ref y.2.1)).map Sum.inl = y.1
    rw [t.ints, n1]
  · intro z hz
    obtain ⟨v, hv, rfl⟩ := List.mem_map.mp hz
    obtain ⟨y, ns, _, e, _, e4, e5⟩ := ov v hv
    show H (adV v) = some (.tup ((intsOf s.heap v).map V.int))
    rw [e5, e]
    exact e4
abbrev DPrT (F : Hp) : List Key × PyData → List Key × V → Prop := fun p q => p.1 = q.1 ∧ Rp F p.2 q.2
def hasT {α : Type} (kvs : List (List Key × α)) (k : List Key) : Bool := kvs.any fun kv => decide (kv.1 = k)
def stoT {α : Type} (kvs : List (List Key × α)) (k : List Key) (v : α) : List (List Key × α) := if hasT kvs k = true then kvs.map (fun kv => if kv.1 = k then (kv.1, v) else kv) else kvs ++ [(k, v)]
theorem hasT_ok {F : Hp} {k : List Key} : ∀ {kvs : List (List Key × PyData)} {kws : List (List Key × V)}, All2 (DPrT F) kvs kws → (kws.any fun kv => decide (kv.1 = k)) = hasT kvs k
  | _, _, .nil => rfl
  | _, _, .cons (a := p) (b := q) (as := ps) (bs := qs) x t => by
    show (decide (q.1 = k) || qs.any fun kv => decide (kv.1 = k)) = (decide (p.1 = k) || hasT ps k)
    rw [hasT_ok t, x.1]
theorem stoT_ok {F : Hp} {k : List Key} {d : PyData} {v : V} {kvs : List (List Key × PyData)} {kws : List (List Key × V)} (h : All2 (DPrT F) kvs kws) (r : Rp F d v) : All2 (DPrT F) (stoT kvs k d) (putK kws k v) := by
  unfold stoT putK
  rw [hasT_ok h]
  split
  · rename_i z
    clear z
    induction h with
    | nil => exact .nil
    | cons x t ih =>
      rename_i p q ps qs
      refine .cons ?_ ih
      show DPrT F (if p.1 = k then (p.1, d) else p) (if q.1 = k then (q.1, v) else q)
      rw [x.1]
      split
      · exact ⟨rfl, r⟩
      · exact ⟨x.1, x.2⟩
  · rename_i z
    clear z
    induction h with
    | nil => exact .cons ⟨rfl, r⟩ .nil
    | cons x t ih => exact .cons x ih
theorem REnv.heldT {F H : Hp} {σ : L2.St} {env : En} {Sl : Nat → Addr → Prop} {j : Nat} {kvs : List (List Key × PyData)} (R : REnv F H σ env Sl) (hj : env[j]? = some (some (.dt kvs))) : ∃ a kws, σ[j]? = some (some (.ref a)) ∧ H a = some (.dT kws) ∧ All2 (DPrT F) kvs kws := by
  obtain ⟨v, e1, a, kws, e2, sa, hH, r⟩ := R.at_ j _ hj
  subst e2
  exact ⟨a, kws, e1, hH, r⟩
theorem REnv.writeT {F H : Hp} {σ : L2.St} {env : En} {Sl : Nat → Addr → Prop} {j : Nat} {a : Addr} {kws' : List (List Key × V)} {kvs kvs' : List (List Key × PyData)} (R : REnv F H σ env Sl) (hj : env[j]? = some (some (.dt kvs))) (hv : σ[j]? = some (some (.ref a))) (r : All2 (DPrT F) kvs' kws') :
    Step F H Sl F (upd H a (.dT kws')) Sl ∧ REnv F (upd H a (.dT kws')) σ (env.set j (some (.dt kvs'))) Sl := by
  obtain ⟨v, e1, a', ws, e2, sa, hH, _⟩ := R.at_ j _ hj
  rw [hv] at e1
  cases e1
  cases e2
  have ns : ∀ i, i ≠ j → ¬ Sl i a := fun i n z => n (R.dj i j a z sa)
  have fa := (R.tr j a sa).1
  refine ⟨⟨Ex.refl F, fun b o h n => ?_, fun b o h => ?_, fun _ _ z => .inl z, fun _ _ z => .inl z⟩, ⟨fun b o h => ?_, by rw [List.length_set]; exact R.len, fun i o h => ?_, R.dj, fun i b z => ?_⟩⟩
  · rw [upd_ne (fun z => n j (by rw [z]; exact sa))]; exact h
  · by_cases z : b = a
    · subst z; exact ⟨_, upd_same⟩
    · exact ⟨o, by rw [upd_ne z]; exact h⟩
  · rw [upd_ne (fun z => by rw [z, fa] at h; cases h)]; exact R.ex b o h
  · rcases set_at h with ⟨rfl, e2, _⟩ | ⟨ne, h'⟩
    · cases e2
      exact ⟨_, hv, a, kws', rfl, sa, upd_same, r⟩
    · obtain ⟨v2, e2, w2⟩ := R.at_ i o h'
      exact ⟨v2, e2, w2.ext (Ex.refl F) fun b u s q => by rw [upd_ne (fun z => ns i ne (by rw [← z]; exact s))]; exact q⟩
  · obtain ⟨y1, u, y2⟩ := R.tr i b z
    refine ⟨y1, ?_⟩
    by_cases e : b = a
    · subst e; exact ⟨_, upd_same⟩
    · exact ⟨u, by rw [upd_ne e]; exact y2⟩
/-- {}, for tuples -/
def mDNewT : MO := fun e => some (.dt [], e)
theorem ro_dnewT : RO tDNewT mDNewT := by
  intro F H σ env Sl R o env' e Q q
  cases e
  intro p np
  have ex : Ex H (upd H p (.dT [])) := Ex.new np
  have n : ∀ b o, F b = some o → F b = some o ∨ H b = none := fun _ _ z => .inl z
  refine q _ F _ Sl (fun a => a = p) (Step.grow (Ex.refl F) ex n) (R.grow (Ex.refl F) ex (R.ex.trans ex) n) ⟨⟨p, [], rfl, rfl, upd_same, .nil⟩, fun i a e s => ?_, fun a e => ?_, fun a e => ?_⟩
  · subst e
    obtain ⟨_, o, z⟩ := R.tr i a s
    rw [np] at z
    cases z
  · subst e
    exact ⟨R.ex.none np, _, upd_same⟩
  · subst e
    exact np
def kyOf : PyData → Option Key
  | .int i => some (.inl i)
  | .str x => some (.inr x)
  | _ => none
def allKy : List PyData → Option (List Key)
  | [] => some []
  | d :: ds => (kyOf d).bind fun k => (allKy ds).map fun ks => k :: ks
def keyT : P → Option (List Key)
  | .val (.tuple ds) => allKy ds
  | _ => none
theorem kyOf_ok {F : Hp} {v : V} {d : PyData} {k : Key} (h : Rp F d v) (e : kyOf d = some k) : v = kV k := by
  unfold kyOf at e
  split at e
  · cases e; exact h
  · cases e; exact h
  · cases e
theorem allKy_ok {F : Hp} : ∀ {ds : List PyData} {vs : List V} {ks : List Key}, All2 (Rp F) ds vs → allKy ds = some ks → vs = ks.map kV
  | _, _, ks, .nil, e => by cases e; rfl
  | _, _, ks, .cons (a := d) (as := ds) h t, e => by
    unfold allKy at e
    cases h1 : kyOf d with
    | none => rw [h1] at e; cases e
    | some k =>
      rw [h1] at e
      cases h2 : allKy ds with
      | none => rw [h2] at e; cases e
      | some ks' =>
        rw [h2] at e
        cases e
        rw [List.map_cons, kyOf_ok h h1, allKy_ok t h2]
theorem keyT_ok {F : Hp} {σ : L2.St} {v : V} {p : P} {k : List Key} (h : RP F σ v p) (e : keyT p = some k) : ∃ b, v = .ref b ∧ F b = some (.tup (k.map kV)) := by
  unfold keyT at e
  split at e
  · obtain ⟨b, vs, rfl, hF, r⟩ := rp_tuple.mp (pr_val h)
    rw [allKy_ok r e] at hF
    exact ⟨b, rfl, hF⟩
  · cases e
/-- d[t] = v, t a tuple -/
def mDPutT (j : Nat) (mi me : ME) : MS := bnd me fun p e1 => match fzP e1 p with
  | some (d, e2) => match e2[j]? with
    | some (some (.dt _)) => match mi e2 with
      | some (p', e3) => match e3[j]?, keyT p' with
        | some (some (.dt kvs)), some k => if kvs.length < sizeLine then some (.nx, e3.set j (some (.dt (stoT kvs k d)))) else none
        | _, _ => none
      | _ => none
    | _ => none
  | none => none
theorem rs_dputT {pn : List Nat} {pu pv : Bool} {te ti : TE} {me mi : ME} {j : Nat} (h : RE pu te me) (hi : RE pv ti mi) : RS pn (sDPut (tVar j) ti te) (mDPutT j mi me) := by
  intro F H σ env Sl R c env' e D q
  obtain ⟨p, e1, h1, h2⟩ := bnd_of e
  split at h2
  · rename_i d e2 h3
    split at h2
    · rename_i kvs0 h0
      split at h2
      · rename_i p' e3 h4
        split at h2
        · rename_i kvs k h5 h6
          split at h2
          · rename_i hl
            cases h2
            refine h F H σ env Sl R p _ h1 _ fun r F1 H1 Sl1 s1 pu1 R1 r1 => ?_
            obtain ⟨F2, Sl2, s2, R2, r2⟩ := fz_ok R1 r1 h3
            obtain ⟨a, _, ha, _⟩ := R2.heldT h0
            refine ⟨_, ha, ?_⟩
            refine hi F2 H1 σ e2 Sl2 R2 _ _ h4 _ fun r' F3 H3 Sl3 s3 pu3 R3 r3 => ?_
            obtain ⟨a', kws, ha', hH, rr⟩ := R3.heldT h5
            rw [ha] at ha'
            cases ha'
            obtain ⟨s4, R4⟩ := R3.writeT h5 ha (stoT_ok (k := k) rr (Rp.mono s3.exF r2))
            obtain ⟨b, rfl, hb⟩ := keyT_ok r3 h6
            exact ⟨a, _, rfl, DPut.t hH (R3.ex _ _ hb) (by rw [← rr.len]; exact hl), q _ _ σ _ (s1.trans (s2.trans (s3.trans s4))) R4 fun _ _ => rfl⟩
          · cases h2
        · cases h2
      · cases h2
    · cases h2
  · cases h2
end Tr
namespace Tr
open PySem PySem.Spec PyProof.Rows L2 TS
/-! ### [list(t) for t in sorted(d)], d a dict whose keys are tuples of ints -/
def keyI : List Key → Option (List Int)
  | [] => some []
  | .inl i :: ks => (keyI ks).map fun r => i :: r
  | .inr _ :: _ => none
def keysI : List (List Key) → Option (List (List Int))
  | [] => some []
  | k :: ks => (keyI k).bind fun a => (keysI ks).map fun r => a :: r
theorem keyI_ok : ∀ {k : List Key} {ns : List Int}, keyI k = some ns → k = ns.map Sum.inl
  | [], ns, e => by cases e; rfl
  | .inl i :: ks, ns, e => by
    unfold keyI at e
    cases h : keyI ks with
    | none => rw [h] at e; cases e
    | some r => rw [h] at e; cases e; rw [List.map_cons, keyI_ok h]
  | .inr _ :: _, ns, e => nomatch e
theorem keysI_ok : ∀ {ks : List (List Key)} {ms : List (List Int)}, keysI ks = some ms → ks = ms.map fun m => m.map Sum.inl
  | [], ms, e => by cases e; rfl
  | k :: ks, ms, e => by
    unfold keysI at e
    cases h : keyI k with
    | none => rw [h] at e; cases e
    | some a =>
      rw [h] at e
      cases h2 : keysI ks with
      | none => rw [h2] at e; cases e
      | some r => rw [h2] at e; cases e; rw [List.map_cons, keyI_ok h, keysI_ok h2]
def okDT (kss : List (List Int)) : Bool := (kss.all fun k => decide (k.length = (kss.headD []).length) && k.all fun m => decide (0 ≤ m ∧ m < 16)) && (decide (1 ≤ (kss.headD []).length) || decide (kss.length < 2)) && decide (kss.length ≤ sizeLine)
theorem okDT_of {kss : List (List Int)} (h : okDT kss = true) : (∀ k ∈ kss, k.length = (kss.headD []).length ∧ Bd 16 k) ∧ (1 ≤ (kss.headD []).length ∨ kss.length < 2) ∧ kss.length ≤ sizeLine := by
  unfold okDT at h
  rw [Bool.and_eq_true, Bool.and_eq_true, Bool.or_eq_true, List.all_eq_true] at h
  refine ⟨fun k hk => ?_, h.1.2.imp of_decide_eq_true of_decide_eq_true, of_decide_eq_true h.2⟩
  have := h.1.1 k hk
  rw [Bool.and_eq_true, List.all_eq_true] at this
  exact ⟨of_decide_eq_true this.1, fun m hm => of_decide_eq_true (this.2 m hm)⟩
def srtC (kss : List (List Int)) : List (List Int) := kss.mergeSort fun a b => decide (code 16 a ≤ code 16 b)
theorem srtC_perm (kss : List (List Int)) : (srtC kss).Perm kss := List.mergeSort_perm _ _
theorem srtC_up (kss : List (List Int)) : (srtC kss).Pairwise fun a b => code 16 a ≤ code 16 b := by
  have := List.pairwise_mergeSort (le := fun a b : List Int => decide (code 16 a ≤ code 16 b)) (fun a b c h1 h2 => by
    have := of_decide_eq_true h1
    have := of_decide_eq_true h2
    exact decide_eq_true (by omega)) (fun a b => by
    rcases Int.le_total (code 16 a) (code 16 b) with h | h
    · simp [h]
    · simp [h]) kss
  exact this.imp fun h => of_decide_eq_true h
theorem srtC_uniq {kss ks : List (List Int)} {d : Nat} (ok : ∀ k ∈ kss, k.length = d ∧ Bd 16 k) (h1 : ks.Perm kss) (h2 : ks.Pairwise fun a b => code 16 a ≤ code 16 b) : ks = srtC kss :=
  List.Perm.eq_of_pairwise (fun a b ha hb x y => by
    have a1 := ok a (h1.mem_iff.mp ha)
    have b1 := ok b ((srtC_perm kss).mem_iff.mp hb)
    exact code_one (a1.1.trans b1.1.symm) a1.2 b1.2 (Int.le_antisymm x y)) h2 (srtC_up kss) (h1.trans (srtC_perm kss).symm)
def unl : Key → Int
  | .inl i => i
  | .inr _ => 0
theorem unl_map (l : List (List Int)) : (l.map fun m => m.map (Sum.inl : Int → Key)).map (fun m => m.map unl) = l := by
  rw [List.map_map]
  refine (List.map_congr_left fun m _ => ?_).trans (List.map_id l)
  show (m.map (Sum.inl : Int → Key)).map unl = m
  rw [List.map_map]
  exact (List.map_congr_left fun _ _ => rfl).trans (List.map_id m)
def mRowsDT (i j : Nat) (vs : List Nat) : MO := fun env => match env[j]? with
  | some (some (.dt kvs)) => match keysI (kvs.map (·.1)) with
    | some kss => if okDT kss = true ∧ i < env.length then some (.ow2 ((srtC kss).map fun m => m.map .int), wipeE env vs) else none
    | none => none
  | _ => none
theorem keep_all2 {F F' : Hp} {kvs : List (List Key × PyData)} {kws : List (List Key × V)} (r : All2 (DPrT F) kvs kws) : kws.map (·.1) = kvs.map (·.1) := by
  induction r with
  | nil => rfl
  | cons x t ih => rw [List.map_cons, List.map_cons, ih, x.1]
theorem ro_rowsDT {K : PySem.W.Frag} {i j : Nat} {vs : List Nat} (hi : i ∈ vs := by decide) :
    RO (tLc (iList K (tCB rSortDT (tCons (tVar j) tNil))) (gName i) tYes (tCB (fun xs H Q => ∃ p ys, xs = [.ref p] ∧ (SqL K H p ys ∨ SqT K H p ys) ∧ ∀ l, H l = none → Q (.ref l) (upd H l (.lst ys))) (tCons (tVar i) tNil)) vs) (mRowsDT i j vs) := by
  intro F H σ env Sl R o env' e Q q
  unfold mRowsDT at e
  split at e
  · rename_i kvs hj
    split at e
    · rename_i kss hk
      split at e
      · rename_i hok0
        obtain ⟨hok, hil0⟩ := hok0
        cases e
        obtain ⟨ok1, ok2, ok3⟩ := okDT_of hok
        obtain ⟨a, kws, hv, ha, rr⟩ := R.heldT hj
        have hk' := keysI_ok hk
        have hkw : kws.map (·.1) = kss.map fun m => m.map Sum.inl := by rw [keep_all2 (F' := F) rr, hk']
        have hlen : kws.length = kss.length := by
          have := congrArg List.length hkw
          rwa [List.length_map, List.length_map] at this
        refine ⟨_, hv, a, kws, (kss.headD []).length, rfl, ha, by rw [hlen]; exact ok2, fun p hp => ?_, fun xs p0 srt pm hx np => ?_⟩
        · have : p.1 ∈ kss.map fun m => m.map (Sum.inl : Int → Key) := by rw [← hkw]; exact List.mem_map.mpr ⟨p, hp, rfl⟩
          obtain ⟨m, hm, e⟩ := List.mem_map.mp this
          exact ⟨m, e.symm, (ok1 m hm).1, (ok1 m hm).2⟩
        · have ex : xs.map Prod.snd = srtC kss := by
            refine srtC_uniq ok1 ?_ srt
            have z := (pm.trans (List.Perm.of_eq hkw)).map fun m => m.map unl
            rw [unl_map] at z
            have e2 : (xs.map fun x => x.2.map (Sum.inl : Int → Key)) = (xs.map Prod.snd).map fun m => m.map (Sum.inl : Int → Key) := by rw [List.map_map]; rfl
            rw [e2, unl_map] at z
            exact z
          rw [← ex] at q
          have lx : xs.length ≤ sizeLine := by
            have := congrArg List.length ex
            rw [List.length_map, (srtC_perm kss).length_eq] at this
            omega
          refine ⟨p0, rfl, ⟨_, SqL.of upd_same⟩, fun D nD => ?_⟩
          have nDp : D ≠ p0 := fun z => by rw [z, upd_same] at nD; cases nD
          have nDH : H D = none := by rw [upd_ne nDp] at nD; exact nD
          obtain ⟨Sl2, R2, k2⟩ := R.wiped (vs := vs)
          have n2 : ∀ i, ¬ Sl2 i p0 := fun i z => fresh_notin R np i (k2 i p0 z)
          have n3 : ∀ i, ¬ Sl2 i D := fun i z => fresh_notin R nDH i (k2 i D z)
          have R4 : REnv F (upd (upd H p0 (.lst (xs.map fun x => V.ref x.1))) D (.lst [])) (wipe σ vs) (wipeE env vs) Sl2 := (R2.side (R.ex.none np) n2).side (R.ex.none nDH) n3
          have s4 : Step F H Sl F (upd (upd H p0 (.lst (xs.map fun x => V.ref x.1))) D (.lst [])) Sl2 := ((Step.fewer k2).side np).side nDH
          refine ⟨fun n m Hi => ∃ rs, n ≤ xs.length ∧ m = xs.length - n ∧ REnv F Hi (wipe σ vs) (wipeE env vs) Sl2 ∧ Step F H Sl F Hi Sl2 ∧ Hi p0 = some (.lst (xs.map fun x => V.ref x.1)) ∧ (∀ x ∈ xs, Hi x.1 = some (.tup (x.2.map V.int))) ∧
            Hi D = some (.lst (rs.map V.ref)) ∧ All2 (fun (x : Addr × List Int) r => Hi r = some (.lst (x.2.map V.int))) (xs.take n) rs ∧ D ∉ rs ∧ rs.Nodup ∧ ∀ r ∈ rs, H r = none, ?_, ?_⟩
          · refine ⟨xs.length, [], Nat.zero_le _, by omega, R4, s4, by rw [upd_ne (Ne.symm nDp)]; exact upd_same, fun x h => ?_, upd_same, .nil, by simp, List.nodup_nil, by simp⟩
            rw [upd_ne (ne_of_none (hx x h) nDH), upd_ne (ne_of_none (hx x h) np)]
            exact hx x h
          · rintro n m Hi ⟨rs, hil, hm, Ri, si, hp, ht, hD, ra, nDr, nd, nw⟩
            have hs : SqL K Hi p0 (xs.map fun x => V.ref x.1) := SqL.of hp
            have lrs : rs.length = n := by have := ra.len; rw [List.length_take, Nat.min_eq_left hil] at this; exact this.symm
            cases hxi : xs[n]? with
            | none =>
              have hge : xs.length ≤ n := List.getElem?_eq_none_iff.mp hxi
              rw [List.take_of_length_le hge] at ra
              refine .inl ⟨⟨_, hs, by rw [List.length_map]; exact hge⟩, q _ F Hi Sl2 (fun b => b = D ∨ b ∈ rs) si Ri.unwipe ⟨⟨D, rs, rfl, .inl rfl, hD, nDr, nd, ?_⟩, fun k b z y => ?_, fun b z => ?_, fun b z => ?_⟩⟩
              · rw [List.map_map]
                have g : ∀ {ys : List (Addr × List Int)} {ts : List Addr}, All2 (fun (x : Addr × List Int) r => Hi r = some (.lst (x.2.map V.int))) ys ts → (∀ t ∈ ts, t ∈ rs) →
                    All2 (fun row r => (r = D ∨ r ∈ rs) ∧ ∃ vs, Hi r = some (.lst vs) ∧ All2 (Rp F) row vs) (ys.map ((fun m : List Int => m.map PyData.int) ∘ Prod.snd)) ts := by
                  intro ys ts w
                  induction w with
                  | nil => intro _; exact .nil
                  | cons a t ih => intro hm; exact .cons ⟨.inr (hm _ (List.mem_cons_self ..)), _, a, all_ints _⟩ (ih fun u hu => hm u (List.mem_cons_of_mem _ hu))
                exact g ra fun _ h => h
              · have : H b = none := by
                  rcases z with rfl | z
                  · exact nDH
                  · exact nw b z
                rcases si.own k b y with w | w
                · exact fresh_notin R this k w
                · exact fresh_notin R2 this k y
              · rcases z with rfl | z
                · exact ⟨R.ex.none nDH, _, hD⟩
                · obtain ⟨k, hk2⟩ := List.mem_iff_getElem?.mp z
                  obtain ⟨x, _, w⟩ := ra.getR hk2
                  exact ⟨R.ex.none (nw b z), _, w⟩
              · rcases z with rfl | z
                · exact nDH
                · exact nw b z
            | some x =>
              have hlt : n < xs.length := (List.getElem?_eq_some_iff.mp hxi).1
              have gx : (xs.map fun x => V.ref x.1)[n]? = some (.ref x.1) := by rw [List.getElem?_map, hxi]; rfl
              refine .inr ⟨⟨_, _, hs, gx⟩, fun H' => ∃ rs, n + 1 ≤ xs.length ∧ REnv F H' (wipe σ vs) (wipeE env vs) Sl2 ∧ Step F H Sl F H' Sl2 ∧ H' p0 = some (.lst (xs.map fun x => V.ref x.1)) ∧ (∀ x ∈ xs, H' x.1 = some (.tup (x.2.map V.int))) ∧
                H' D = some (.lst (rs.map V.ref)) ∧ All2 (fun (x : Addr × List Int) r => H' r = some (.lst (x.2.map V.int))) (xs.take (n + 1)) rs ∧ D ∉ rs ∧ rs.Nodup ∧ ∀ r ∈ rs, H r = none, fun H' ⟨rs', z⟩ => ⟨xs.length - (n + 1), by omega, rs', z.1, rfl, z.2⟩, fun y H' hy => ?_⟩
              obtain ⟨rfl, f⟩ := hy
              have ey : y = .ref x.1 := Option.some.inj ((f _ hs).symm.trans gx)
              subst ey
              have hl : (wipe σ vs).length = σ.length := wipe_length _ _
              have hsi : ((wipe σ vs).set i (some (V.ref x.1)))[i]? = some (some (V.ref x.1)) := List.getElem?_set_self (by rw [hl, R.len]; exact hil0)
              have mx : x ∈ xs := List.mem_of_getElem? hxi
              refine ⟨wipe_eq (is := [i]) (fun k hk => List.getElem?_set_ne (fun z => hk (by rw [z]; exact List.mem_singleton.mpr rfl))) (by rw [List.length_set]; exact hl) (fun k hk => by rw [List.mem_singleton.mp hk]; exact hi), ?_⟩
              unfold tYes
              dsimp only
              rw [if_pos rfl]
              refine ⟨_, hsi, x.1, _, rfl, .inr (SqT.of (ht x mx)), fun l nl => ?_⟩
              have nlH : H l = none := si.tkb nl
              have nlp : l ≠ p0 := fun z => by rw [z, hp] at nl; cases nl
              have nlD : l ≠ D := fun z => by rw [z, hD] at nl; cases nl
              have nlt : ∀ y ∈ xs, y.1 ≠ l := fun y hy z => by rw [← z, ht y hy] at nl; cases nl
              have nlr : l ∉ rs := fun z => by
                obtain ⟨k, hk2⟩ := List.mem_iff_getElem?.mp z
                obtain ⟨y, _, w⟩ := ra.getR hk2
                rw [w] at nl
                cases nl
              have nDt : ∀ y ∈ xs, y.1 ≠ D := fun y hy z => by
                have := ht y hy
                rw [z, hD] at this
                cases this
              have tk1 : xs.take (n + 1) = xs.take n ++ [x] := by rw [List.take_add_one, hxi]; rfl
              refine ⟨rs.map V.ref, by rw [upd_ne (Ne.symm nlD)]; exact hD, by rw [List.length_map, lrs]; omega, rs ++ [l], hlt, ?_, ?_, ?_, fun y hy => ?_, ?_, ?_, ?_, ?_, fun r hr => ?_⟩
              · exact (Ri.side (R.ex.none nlH) fun k z => fresh_notin Ri nl k z).side (R.ex.none nDH) n3
              · exact (si.side nlH).side nDH
              · rw [upd_ne (Ne.symm nDp), upd_ne (Ne.symm nlp)]; exact hp
              · rw [upd_ne (nDt y hy), upd_ne (nlt y hy)]; exact ht y hy
              · rw [upd_same, List.map_append]; rfl
              · rw [tk1]
                have r2 : All2 (fun (x : Addr × List Int) r => (upd (upd H' l (.lst (x.2.map V.int))) D (.lst (rs.map V.ref ++ [V.ref l]))) r = some (.lst (x.2.map V.int)) ∨ True) [x] [l] := .cons (.inr trivial) .nil
                clear r2
                have keep : ∀ r ∈ rs, ∀ u, H' r = some u → upd (upd H' l (.lst (x.2.map V.int))) D (.lst (rs.map V.ref ++ [V.ref l])) r = some u := fun r hr u e => by
                  have a1 : r ≠ D := fun z => nDr (by rw [← z]; exact hr)
                  have a2 : r ≠ l := fun z => nlr (by rw [← z]; exact hr)
                  rw [upd_ne a1, upd_ne a2]
                  exact e
                exact all2_snoc' (ra.monoM fun y r _ hr w => keep r hr _ w) (by rw [upd_ne nlD, upd_same])
              · rw [List.mem_append]
                rintro (z | z)
                · exact nDr z
                · exact nlD (List.mem_singleton.mp z).symm
              · exact List.nodup_append.mpr ⟨nd, by simp, fun y hy z hz => by
                  have : z = l := by simpa using hz
                  rw [this]
                  exact fun w => nlr (w ▸ hy)⟩
              · rcases List.mem_append.mp hr with z | z
                · exact nw r z
                · rw [List.mem_singleton.mp z]; exact nlH
      · cases e
    · cases e
  · cases e
end Tr
namespace Tr
open PySem PySem.Spec PyProof.Rows L2 TS
section
variable {α : Type} {env : En}
def encKT (en : α → PyData) : List Int × α → List Key × PyData := fun p => (p.1.map Sum.inl, en p.2)
def dhasL (xs : List (List Int × α)) (k : List Int) : Bool := xs.any fun p => decide (p.1 = k)
def dstoL (xs : List (List Int × α)) (k : List Int) (v : α) : List (List Int × α) := if dhasL xs k = true then xs.map (fun p => if p.1 = k then (p.1, v) else p) else xs ++ [(k, v)]
def dputL (xs : List (List Int × α)) (k : List Int) (v : α) : Option (List (List Int × α)) := if xs.length < sizeLine then some (dstoL xs k v) else none
def drowsL (xs : List (List Int × α)) : Option (List (List Int)) := if okDT (xs.map (·.1)) = true then some (srtC (xs.map (·.1))) else none
theorem allKy_map : ∀ k : List Int, allKy (k.map encI) = some (k.map Sum.inl)
  | [] => rfl
  | i :: k => by
    show ((kyOf (.int i)).bind fun a => (allKy (k.map encI)).map fun ks => a :: ks) = _
    rw [allKy_map k]
    rfl
theorem inlm {a b : List Int} : (a.map (Sum.inl : Int → Key) = b.map Sum.inl) ↔ a = b := ⟨inl_inj', fun h => by rw [h]⟩
theorem hasT_map {en : α → PyData} {k : List Int} : ∀ xs : List (List Int × α), hasT (xs.map (encKT en)) (k.map Sum.inl) = dhasL xs k
  | [] => rfl
  | p :: xs => by
    show (decide (p.1.map (Sum.inl : Int → Key) = k.map Sum.inl) || hasT (xs.map (encKT en)) (k.map Sum.inl)) = (decide (p.1 = k) || dhasL xs k)
    rw [hasT_map xs, decide_eq_decide.mpr inlm]
theorem stoT_map {en : α → PyData} {k : List Int} {v : α} {xs : List (List Int × α)} : stoT (xs.map (encKT en)) (k.map Sum.inl) (en v) = (dstoL xs k v).map (encKT en) := by
  unfold stoT dstoL
  rw [hasT_map]
  split
  · rw [List.map_map, List.map_map]
    refine List.map_congr_left fun p _ => ?_
    show (if p.1.map (Sum.inl : Int → Key) = k.map Sum.inl then (p.1.map (Sum.inl : Int → Key), en v) else encKT en p) = encKT en (if p.1 = k then (p.1, v) else p)
    by_cases e : p.1 = k
    · rw [if_pos e, if_pos (inlm.mpr e)]
      rfl
    · rw [if_neg e, if_neg (fun z => e (inlm.mp z))]
  · rw [List.map_append]
    rfl
theorem keysI_map {en : α → PyData} : ∀ xs : List (List Int × α), keysI ((xs.map (encKT en)).map (·.1)) = some (xs.map (·.1))
  | [] => rfl
  | p :: xs => by
    have hk : ∀ k : List Int, keyI (k.map Sum.inl) = some k := fun k => by
      induction k with
      | nil => rfl
      | cons i k ih => show ((keyI (k.map Sum.inl)).map fun r => i :: r) = _; rw [ih]; rfl
    show ((keyI (p.1.map Sum.inl)).bind fun a => (keysI ((xs.map (encKT en)).map (·.1))).map fun r => a :: r) = _
    rw [hk, keysI_map xs]
    rfl
theorem xo_dputT {en : α → PyData} {j : Nat} {me mi : ME} {xs : List (List Int × α)} {x : α} {k : List Int} {p : P} {e1 e2 e3 : En} {ds0 : List (List Key × PyData)} (hm : me env = some (p, e1)) (hf : fzP e1 p = some (en x, e2)) (h0 : e2[j]? = some (some (.dt ds0))) (hi : mi e2 = some (.val (.tuple (k.map encI)), e3)) (h : e3[j]? = some (some (.dt (xs.map (encKT en))))) {E0 : List (List Int × α) → En} (hE : ∀ r, e3.set j (some (.dt (r.map (encKT en)))) = E0 r) : XV (mDPutT j mi me) env (dputL xs k x) (fun _ => .nx) E0 := fun r hr => by
  unfold dputL at hr
  split at hr
  · rename_i hl
    cases hr
    refine (bnd_eq hm).trans ?_
    simp only [hf, h0, hi, h]
    have hk : keyT (.val (.tuple (k.map encI))) = some (k.map Sum.inl) := allKy_map k
    simp only [hk]
    rw [if_pos (by rw [List.length_map]; exact hl), stoT_map, hE]
  · cases hr
theorem xo_rowsDT {en : α → PyData} {i j : Nat} {vs : List Nat} {xs : List (List Int × α)} {e1 : En} (h : env[j]? = some (some (.dt (xs.map (encKT en))))) (hi : i < env.length) (hE : wipeE env vs = e1) : XV (mRowsDT i j vs) env (drowsL xs) (fun r => .ow2 (r.map fun m => m.map encI)) (fun _ => e1) := fun r hr => by
  unfold drowsL at hr
  split at hr
  · rename_i ok
    cases hr
    unfold mRowsDT
    simp only [h]
    rw [keysI_map]
    simp only []
    rw [if_pos ⟨ok, hi⟩, hE]
    rfl
  · cases hr
end
theorem indexK {X : Cx} {K : PySem.W.Frag} (h : X.K = K := by rfl) : MtR X "list.index" (rIndex K) := by subst h; exact mt_index
theorem oe_len2 {α : Type} {env : En} {h : List PyData → PyData} {f2 : α → List PyData} {p : P} {xs : List α} (hp : vw env p = some (.list ((xs.map f2).map h))) : (gLen env [p]).map (fun r => (r, env)) = some (.val (.int (xs.length : Nat)), env) := by
  unfold gLen
  simp only [hp, List.length_map]
  rfl
theorem xv_fz2 {α β : Type} {env : En} {en : α → PyData} {mo : MO} {t : Option β} {rows : β → List (List α)} {st : β → En} (h : XV mo env t (fun b => .ow2 ((rows b).map fun r => r.map en)) st) : XV (mFz mo) env t (fun b => .val (encL (encL en) (rows b))) st := fun b hb => by
  refine (bnd_eq (h b hb)).trans ?_
  show some (P.val (.list (((rows b).map fun r => r.map en).map .list)), st b) = _
  rw [List.map_map]
  rfl
end Tr
namespace Tr
open PySem PySem.Spec PyProof.Rows L2
/-! ### sum(lists, []) -/
theorem args_sum2' (a c : Value) : argsOk "sum" ⟨[a, c], []⟩ := by unfold argsOk; kernel_rfl
theorem ls_str : isSubtype (.type "list") (.type "str") = pure false := by rw [isSubtype_type]; kernel_rfl
theorem ls_bytes : isSubtype (.type "list") (.type "bytes") = pure false := by rw [isSubtype_type]; kernel_rfl
theorem ls_barr : isSubtype (.type "list") (.type "bytearray") = pure false := by rw [isSubtype_type]; kernel_rfl
section
variable {prog : Program} {w : World} {A : Around} {E : Value → Shared → Prop} {R : Result → Shared → Prop}
abbrev SumEnd (S : Addr) (wr : List Addr) (a : Addr) (acc tot : List Value) (last : Bool) (s : Shared) (R : Result → Shared → Prop) : Prop :=
  ∀ (s' : Shared) (D : Addr) (n : Nat), (∀ b o, b ∉ S :: wr → s.heap.get? b = some o → s'.heap.get? b = some o) → s'.gens = s.gens → s'.os = s.os → s'.drawn = s.drawn → s'.heap.get? D = some { cls := .type "list", data := .seq tot.toArray n } →
    (last = true → D = a) → (last = false → S < D) → R (.ok (.ret (.ref D))) s'
theorem sum_lists_loop {I : Addr} {fp wr : List Addr} {bs : List Addr} {cs : List (List Value)} {Pv : Nat → Value → Prop} {St : Nat → Heap → Prop} (W : Walks prog w A.in1 I fp wr bs.length Pv St) (hP : ∀ i v, Pv i v → ∃ b, bs[i]? = some b ∧ v = .ref b) (S : Addr) (hSf : S ∉ fp) (hlen : cs.length = bs.length)
    (hbs : ∀ b ∈ bs, b ∉ S :: wr) (hal : ∀ i h, St i h → ∀ x ∈ wr, x < h.objs.size) :
    ∀ (k i : Nat) (s : Shared) (a : Addr) (acc : List Value) (n0 c : Nat) (st : Int), bs.length - i = k → i ≤ bs.length → St i s.heap → s.heap.get? S = some { cls := .type "list", dict := none, data := .seq #[.ref a] c, slots := #[] } →
      a ∉ S :: wr → s.heap.get? a = some { cls := .type "list", data := .seq acc.toArray n0 } → (∀ (j : Nat) (b : Addr) (us : List Value), bs[j]? = some b → cs[j]? = some us → ∃ n, s.heap.get? b = some { cls := .type "list", data := .seq us.toArray n }) →
      (acc ++ (cs.drop i).flatten).length ≤ sizeLine → SumEnd S wr a acc (acc ++ (cs.drop i).flatten) (decide (i = bs.length)) s R →
      codeAny (model prog w) A (.builtin "sum.loop" ⟨[.ref I, .ref S, rawInt st, rawInt 0], []⟩) R s := by
  have hSw : S ∉ wr := fun h => hSf (W.sub _ h)
  intro k
  induction k with
  | zero =>
    intro i s a acc n0 c st hk hi hst hS ha hA hB hz hR
    have hin : i = bs.length := by omega
    subst hin
    have e0 : acc ++ (cs.drop bs.length).flatten = acc := by rw [List.drop_of_length_le (by omega), List.flatten_nil, List.append_nil]
    rw [e0] at hR
    refine codeAny_builtin F.entry_sum_loop ?_; rw [Around.under_plainId F.plain_sum_loop _]
    show wpAny _ A.in1 (seqItems? (.ref S) >>= _) _ _ s
    refine wpAny_bind (wpAny_seqItems hS rfl ?_)
    show wpAny _ A.in1 (tryCatch (pyNext (.ref I)) _ >>= _) _ _ s
    refine wpAny_bind (wpAny_tryCatch (W.done s _ _ hst fun h' tk kk => ?_))
    exact wpAny_pure (hR { s with heap := h', toks := tk } a n0 (fun b o hb e => kk b o (fun z => hb (List.mem_cons_of_mem _ z)) e) rfl rfl rfl (kk a _ (fun z => ha (List.mem_cons_of_mem _ z)) hA) (fun _ => rfl) fun z => by simp at z)
  | succ k ih =>
    intro i s a acc n0 c st hk hi hst hS ha hA hB hz hR
    have hlt : i < bs.length := by omega
    have hcs : i < cs.length := by omega
    have hd : cs.drop i = cs[i] :: cs.drop (i + 1) := List.drop_eq_getElem_cons hcs
    refine codeAny_builtin F.entry_sum_loop ?_; rw [Around.under_plainId F.plain_sum_loop _]
    show wpAny _ A.in1 (seqItems? (.ref S) >>= _) _ _ s
    refine wpAny_bind (wpAny_seqItems hS rfl ?_)
    show wpAny _ A.in1 (tryCatch (pyNext (.ref I)) _ >>= _) _ _ s
    refine wpAny_bind (wpAny_tryCatch (W.item i s _ _ hlt hst fun v h' tk hp hst' kk => ?_))
    obtain ⟨b, hb, rfl⟩ := hP i v hp
    have hbm : b ∈ bs := List.mem_of_getElem? hb
    obtain ⟨n1, hbo⟩ := hB i b _ hb (List.getElem?_eq_getElem hcs)
    have kk' : ∀ x o, x ∉ S :: wr → s.heap.get? x = some o → h'.get? x = some o := fun x o hx e => kk x o (fun z => hx (List.mem_cons_of_mem _ z)) e
    have hA' := kk' a _ ha hA
    have hb' := kk' b _ (hbs b hbm) hbo
    have hS' : h'.get? S = some { cls := .type "list", dict := none, data := .seq #[.ref a] c, slots := #[] } := kk S _ hSw hS
    · show wpAny _ A.in1 ((holding [Value.ref b] (binaryOp .Add (.ref a) (.ref b))).attempt >>= _) _ _ { s with heap := h', toks := tk }
      refine wpAny_bind (wpAny_attempt (wpAny_holding ?_))
      refine P.add_list (s := { s with heap := h', toks := tk }) hA' hb' ?_ (by
        rw [hd, List.flatten_cons, List.length_append, List.length_append] at hz
        rw [List.size_toArray, List.size_toArray]
        omega)
      have hSz : S < h'.objs.size := Heap.lt_size hS'
      have hS1 : (h'.push { cls := .type "list", data := .seq (acc.toArray ++ cs[i].toArray) }).get? S = some { cls := .type "list", dict := none, data := .seq #[.ref a] c, slots := #[] } := Heap.get?_push_of_some _ hS'
      show wpAny _ A.in1 (updateSeq S (fun _ => #[.ref h'.objs.size]) >>= _) _ _ { s with heap := h'.push { cls := .type "list", data := .seq (acc.toArray ++ cs[i].toArray) }, toks := tk }
      refine wpAny_bind (wpAny_updateSeq hS1 rfl ?_)
      have hS2 := Heap.get?_update_self (Obj.mapSeq fun _ => #[Value.ref h'.objs.size]) hS1 rfl
      refine wpAny_bind (wpAny_letGo ?_)
      show wpAny _ A.in1 (updateSeq S (fun _ => #[.ref h'.objs.size]) >>= _) _ _ _
      refine wpAny_bind (wpAny_updateSeq hS2 rfl ?_)
      have hS3 := Heap.get?_update_self (Obj.mapSeq fun _ => #[Value.ref h'.objs.size]) hS2 rfl
      have oth : ∀ x o, x ≠ S → h'.get? x = some o → (((h'.push { cls := .type "list", data := .seq (acc.toArray ++ cs[i].toArray) }).update S (Obj.mapSeq fun _ => #[Value.ref h'.objs.size])).update S (Obj.mapSeq fun _ => #[Value.ref h'.objs.size])).get? x = some o := fun x o hx e =>
        (Heap.get?_update_other _ _ (Ne.symm hx)).trans ((Heap.get?_update_other _ _ (Ne.symm hx)).trans (Heap.get?_push_of_some _ e))
      have nD : h'.objs.size ∉ S :: wr := fun z => by
        rcases List.mem_cons.mp z with z | z
        · exact Nat.ne_of_gt hSz z
        · exact Nat.lt_irrefl _ (hal _ _ hst' _ z)
      refine wpAny_pure ⟨plainId_quiet F.plain_sum_loop _, ih (i + 1) _ h'.objs.size (acc ++ cs[i]) 0 _ _ (by omega) hlt (W.frame _ _ _ hst' fun x hx o e => oth x o (fun z => hSf (by rw [← z]; exact hx)) e) hS3 nD ?_ (fun j x us h1 h2 => ?_) ?_ ?_⟩
      · rw [Heap.get?_update_other _ _ (Nat.ne_of_lt hSz), Heap.get?_update_other _ _ (Nat.ne_of_lt hSz), Heap.get?_push_size _ rfl]
        simp
      · obtain ⟨n, e⟩ := hB j x us h1 h2
        have hx : x ∉ S :: wr := hbs x (List.mem_of_getElem? h1)
        exact ⟨n, oth x _ (fun z => hx (by rw [z]; exact List.mem_cons_self ..)) (kk' x _ hx e)⟩
      · rw [hd, List.flatten_cons, ← List.append_assoc] at hz
        exact hz
      · intro s' D n k2 g2 o2 d2 hD l1 l2
        rw [hd, List.flatten_cons, ← List.append_assoc] at hR
        refine hR s' D n (fun x o hx e => k2 x o hx (oth x o (fun z => hx (by rw [z]; exact List.mem_cons_self ..)) (kk' x o hx e))) g2 o2 d2 hD (fun z => ?_) fun _ => ?_
        · have := of_decide_eq_true z
          omega
        · by_cases c2 : i + 1 = bs.length
          · rw [l1 (decide_eq_true c2)]
            exact hSz
          · exact l2 (decide_eq_false c2)
theorem nn2 {a n : Nat} (h : a < n) : a ≠ n + 1 ∧ a ≠ n := ⟨by omega, by omega⟩
theorem nn3 {a n : Nat} (h : a < n) : n + 1 ≠ n ∧ n + 1 ≠ a := ⟨by omega, by omega⟩
theorem call_sum_lists {s : Shared} {l p0 : Addr} {bs : List Addr} {cs : List (List Value)} {n0 : Nat} {Q : Value → Shared → Prop} (hh : A.handled = none) (hl : s.heap.IsList l (bs.map Value.ref).toArray) (hp : s.heap.get? p0 = some { cls := .type "list", data := .seq ([] : List Value).toArray n0 }) (hlen : cs.length = bs.length)
    (hB : ∀ (j : Nat) (b : Addr) (us : List Value), bs[j]? = some b → cs[j]? = some us → ∃ n, s.heap.get? b = some { cls := .type "list", data := .seq us.toArray n }) (hz : cs.flatten.length ≤ sizeLine)
    (h : ∀ (h' : Heap) (tk : Nat) (D : Addr) (n : Nat), (∀ b o, s.heap.get? b = some o → h'.get? b = some o) → h'.get? D = some { cls := .type "list", data := .seq cs.flatten.toArray n } → (bs = [] → D = p0) → (bs ≠ [] → s.heap.objs.size ≤ D) → Q (.ref D) { s with heap := h', toks := tk }) :
    wpAny (model prog w) A (call (.builtin "sum") [.ref l, .ref p0]) Q E s := by
  refine call_function_tree F.kind_sum F.plain_sum F.entry_sum (args_sum2' _ _) ?_
  unfold Builtin.«sum»
  simp only [List.length_cons, List.length_nil]
  rw [if_neg (by decide)]
  refine wpAny_bind (wpAny_of_eq (show Builtin.Builtins.bindParams "sum" ["start"] 0 ⟨[.ref p0], []⟩ = pure [some (.ref p0)] from rfl) ?_)
  refine wpAny_bind (wpAny_pyIter_list hl ?_)
  obtain ⟨ol, hol, _⟩ := id hl
  have hlS : l < s.heap.objs.size := Heap.lt_size hol
  have hz1 : (s.heap.push { cls := .type "list_iterator", data := .fields #[.ref l, .int 0 0] }).objs.size = s.heap.objs.size + 1 := Heap.size_push ..
  have hp1 : (s.heap.push { cls := .type "list_iterator", data := .fields #[.ref l, .int 0 0] }).get? p0 = some { cls := .type "list", data := .seq ([] : List Value).toArray n0 } := Heap.get?_push_of_some _ hp
  have hT : Shared.TypeIs { s with heap := s.heap.push { cls := .type "list_iterator", data := .fields #[.ref l, .int 0 0] } } (.ref p0) "list" := ⟨_, hp1, rfl⟩
  refine wpAny_bind (wpAny_pure ?_)
  simp only [List.forIn_cons, List.forIn_nil]
  refine wpAny_bind (wpAny_bind (wpAny_bind (wpAny_isInstance (T := "list") (b := false) hT ls_str ?_)))
  simp only [Bool.false_eq_true, if_false]
  refine wpAny_pure (wpAny_bind (wpAny_bind (wpAny_isInstance (T := "list") (b := false) hT ls_bytes ?_)))
  simp only [Bool.false_eq_true, if_false]
  refine wpAny_pure (wpAny_bind (wpAny_bind (wpAny_isInstance (T := "list") (b := false) hT ls_barr ?_)))
  simp only [Bool.false_eq_true, if_false]
  refine wpAny_pure (wpAny_pure ?_)
  refine wpAny_bind (wpAny_newObj_type ?_)
  have neI : l ≠ s.heap.objs.size := Nat.ne_of_lt hlS
  have ltp : p0 < s.heap.objs.size := Heap.lt_size hp
  have hbs : ∀ b ∈ bs, b < s.heap.objs.size := fun b hb => by
    obtain ⟨j, hj⟩ := List.mem_iff_getElem?.mp hb
    have hj2 : j < cs.length := by rw [hlen]; exact (List.getElem?_eq_some_iff.mp hj).1
    obtain ⟨n, e⟩ := hB j b _ hj (List.getElem?_eq_getElem hj2)
    exact Heap.lt_size e
  have key : codeAny (model prog w) A (.builtin "sum.loop" ⟨[.ref s.heap.objs.size, .ref (s.heap.push { cls := .type "list_iterator", data := .fields #[.ref l, .int 0 0] }).objs.size, rawInt 2, rawInt 0], []⟩) (fun r s' => match r with | .ok (.ret v) => Q v s' | .ok _ => False | .error e => E e s')
      { s with heap := (s.heap.push { cls := .type "list_iterator", data := .fields #[.ref l, .int 0 0] }).push { cls := .type "list", data := .seq #[.ref p0] } } := by
    have W := Walks.list (prog := prog) (w := w) (A := A.in1) hh s.heap.objs.size l neI (bs.map Value.ref).toArray
    have e1 : (bs.map Value.ref).toArray.size = bs.length := by simp
    rw [e1] at W
    refine sum_lists_loop W (fun i v hv => ?_) _ ?_ hlen (fun b hb => ?_) (fun i hx st x hxm => ?_) (bs.length - 0) 0 _ p0 [] n0 0 2 rfl (Nat.zero_le _) ⟨⟨_, Heap.get?_push_of_some _ (Heap.get?_push_size _ rfl), rfl, rfl⟩, (hl.push _).push _⟩ (Heap.get?_push_size _ rfl) ?_ (Heap.get?_push_of_some _ hp1) (fun j b us h1 h2 => ?_) ?_ ?_
    · have hv' : (bs.map Value.ref)[i]? = some v := by simpa using hv
      rw [List.getElem?_map] at hv'
      cases hb : bs[i]? with
      | none => rw [hb] at hv'; cases hv'
      | some b => rw [hb] at hv'; cases hv'; exact ⟨b, rfl, rfl⟩
    · rw [hz1]
      simp only [List.mem_cons, List.mem_singleton, List.not_mem_nil, or_false, not_or]
      exact nn3 hlS
    · have := hbs b hb
      rw [hz1]
      simp only [List.mem_cons, List.mem_singleton, List.not_mem_nil, or_false, not_or]
      exact nn2 this
    · obtain ⟨⟨o, e, _⟩, _⟩ := st
      rw [List.mem_singleton.mp hxm]
      exact Heap.lt_size e
    · rw [hz1]
      simp only [List.mem_cons, List.mem_singleton, List.not_mem_nil, or_false, not_or]
      exact nn2 ltp
    · obtain ⟨n, e⟩ := hB j b us h1 h2
      exact ⟨n, Heap.get?_push_of_some _ (Heap.get?_push_of_some _ e)⟩
    · simpa using hz
    · intro s' D n kk g o d hD l1 l2
      obtain ⟨h', g', d', tk', os'⟩ := s'
      cases g; cases o; cases d
      refine h h' tk' D n (fun b o e => kk b o ?_ (Heap.get?_push_of_some _ (Heap.get?_push_of_some _ e))) (by simpa using hD) (fun z => l1 ?_) fun z => ?_
      · have := Heap.lt_size e
        rw [hz1]
        simp only [List.mem_cons, List.mem_singleton, List.not_mem_nil, or_false, not_or]
        exact nn2 this
      · rw [z]; rfl
      · have := l2 (decide_eq_false fun y => z (List.length_eq_zero_iff.mp y.symm))
        rw [hz1] at this
        exact Nat.le_of_lt (Nat.lt_of_succ_lt this)
  exact wpAny_pure ⟨plainId_quiet F.plain_sum_loop _, key⟩
end
def rSumL (K : PySem.W.Frag) : List V → Hp → VK → Prop := fun vs H Q => ∃ (l p0 : Addr) (rs : List Addr) (xss : List (List V)), vs = [.ref l, .ref p0] ∧ SqL K H l (rs.map V.ref) ∧ H p0 = some (.lst []) ∧ All2 (fun xs r => H r = some (.lst xs)) xss rs ∧ xss.flatten.length ≤ sizeLine ∧
  (rs = [] → Q (.ref p0) H) ∧ (rs ≠ [] → ∀ D, H D = none → Q (.ref D) (upd H D (.lst xss.flatten)))
theorem lists_of {P : Program} {w : World} {H : Hp} {h : Heap} (ok : HOk P w H h) : ∀ {xss : List (List V)} {rs : List Addr}, All2 (fun xs r => H r = some (.lst xs)) xss rs → ∃ cs : List (List Value), cs.length = rs.length ∧ Vals xss.flatten cs.flatten ∧
    ∀ (j : Nat) (b : Addr) (us : List Value), rs[j]? = some b → cs[j]? = some us → ∃ n, h.get? b = some { cls := .type "list", data := .seq us.toArray n }
  | _, _, .nil => ⟨[], rfl, .nil, fun j b us e => by simp at e⟩
  | _, _, .cons (a := xs) (b := r) x t => by
    obtain ⟨cs, l, v, g⟩ := lists_of ok t
    obtain ⟨_, its, n, rv, e⟩ := (show ObjOk P w H h r (.lst xs) from ok _ _ x)
    refine ⟨its :: cs, by simp [l], rv.append v, fun j b us h1 h2 => ?_⟩
    cases j with
    | zero => cases h1; cases h2; exact ⟨n, e⟩
    | succ j => exact g j b us (by simpa using h1) (by simpa using h2)
theorem refs_of : ∀ {rs : List Addr} {us : List Value}, Vals (rs.map V.ref) us → us = rs.map Value.ref
  | [], us, r => by
    rw [List.map_nil] at r
    cases r
    rfl
  | t :: ts, us, r => by
    rw [List.map_cons] at r
    cases r with
    | cons h q => cases h; rw [List.map_cons, ← refs_of q]
theorem cr_sumL {X : Cx} (hc : X.calm = true) : CallR X (.builtin "sum") (rSumL X.K) := by
  intro pins s σ H vs us Q I r h
  obtain ⟨l, p0, rs, xss, rfl, hs, hp, ha, hz, q1, q2⟩ := h
  obtain ⟨u1, u2, rfl, r1, r2⟩ := vals2 r
  obtain rfl : u1 = Value.ref l := r1
  obtain rfl : u2 = Value.ref p0 := r2
  obtain ⟨its, rv, hl, _⟩ := I.list hs
  rw [refs_of rv] at hl
  obtain ⟨_, its0, n0, rv0, e0⟩ := (show ObjOk X.prog X.w H s.heap p0 (.lst []) from I.hok _ _ hp)
  cases rv0
  obtain ⟨cs, c1, c2, c3⟩ := lists_of I.hok ha
  refine call_sum_lists (I.ok.hd hc) hl.isList e0 c1 c3 (by rw [← Vals.length c2]; exact hz) fun h' tk D n kk hD l1 l2 => ?_
  by_cases e : rs = []
  · have := l1 e
    subst this
    exact ⟨.ref D, H, I.kept kk, rfl, q1 e⟩
  · have hle := l2 e
    exact ⟨.ref D, upd H D (.lst xss.flatten), I.laid (t' := tk) kk hle ⟨hz, cs.flatten, n, c2, hD⟩, rfl, q2 e D (I.hok.fresh hle)⟩
end Tr
namespace Tr
open PySem PySem.Spec PyProof.Rows L2
/-! ### set(xs), xs a list of ints -/
section
variable {P : Program} {w : World} {A : Around} {E : Value → Shared → Prop} {s : Shared}
abbrev setNew (w : World) : Obj := { cls := .type "set", dict := none, data := .set #[] 0 (.fresh 0 0 (!w.params.followText "set-order")) }
set_option maxRecDepth 100000 in
set_option maxHeartbeats 3200000 in
theorem call_set_lst {l : Addr} {vs : Array Value} (ns : List Int) {Q : Value → Shared → Prop} (hh : A.handled = none) (hl : s.heap.IsList l vs) (hi : IntsAre vs.toList ns) (hb : ns.length + 1 < scanBound)
    (h : ∀ (h' : Heap) (tk c : Nat), SetR w h' s.heap.objs.size (fun j => decide (j ∈ ns)) c → c ≤ ns.length → (∀ b o, s.heap.get? b = some o → h'.get? b = some o) → Q (.ref s.heap.objs.size) { s with heap := h', toks := tk }) :
    wpAny (model P w) A (call (.type "set") [.ref l]) Q E s := by
  have hsz : vs.size = ns.length := by have q := IntsAre.length hi; rw [Array.length_toList] at q; exact q
  obtain ⟨c0, tl0, hmro⟩ := F.called_set.mro; have hmade := F.called_set.made; have hsub := F.called_set.sub
  refine wpAny_call (codeAny_of_tree ?_); show wpAny _ _ (callAny (.type "set") _) _ _ _
  refine wpAny_pure ⟨Code.quiet_builtin _ (by decide +kernel), codeAny_builtin F.entry_type_call ?_⟩; rw [Around.under_plain (weight_type_call_type "set" [.ref l] []) rfl]
  have h1 := F.called_set.notType; have h2 := F.called_set.canCreate; have hct := F.typeCall_set_1 (.ref l)
  repeat (any_goals (first | assumption | wp_step))
  refine codeAny_mono (code_set_led1 (.ref l) (E := E) (Q₁ := fun v s₁ => v = .ref s.heap.objs.size ∧ s₁ = { s with heap := s.heap.push (setNew w) }) ⟨rfl, rfl⟩) fun r s₁ hr => ?_
  cases r with
  | error e => exact hr
  | ok fl =>
    cases fl with
    | ret v =>
      obtain ⟨rfl, rfl⟩ := hr
      have hS : (s.heap.push (setNew w)).get? s.heap.objs.size = some (setNew w) := Heap.get?_push_size _ rfl
      have hT : Shared.TypeIs { s with heap := s.heap.push (setNew w) } (.ref s.heap.objs.size) "set" := ⟨_, hS, rfl⟩
      have hli := F.called_set.init.lookup; have hbi := F.called_set.init.bind (.ref s.heap.objs.size)
      repeat (any_goals (first | assumption | wp_step))
      refine codeAny_mono (codeAny_call_builtin (R := wants (fun r s₂ => r = .none ∧ ∃ h' tk c, s₂ = { s with heap := h', toks := tk } ∧ SetR w h' s.heap.objs.size (fun j => decide (j ∈ ns)) c ∧ c ≤ ns.length ∧ (∀ b o, s.heap.get? b = some o → h'.get? b = some o)) E)
        F.called_set.init.plain F.entry_set_init (check_set_init_1 hT ?_)) fun r₂ s₂ hr₂ => ?_
      · obtain ⟨ol, hol, hcl, nl, hdl⟩ := hl
        obtain ⟨oc, od, oda, osl⟩ := ol
        simp only at hcl hdl
        subst hcl; subst hdl
        have hol' : (s.heap.push (setNew w)).get? l = some { cls := .type "list", dict := od, data := .seq vs nl, slots := osl } := Heap.get?_push_of_some _ hol
        have hsls := F.sub_list_set; have hslf := F.sub_list_frozenset; have hne : (Value.type "list" == Value.type "dict") = false := by decide
        have hl1 : (s.heap.push (setNew w)).IsList l vs := ⟨_, hol', rfl, nl, rfl⟩
        unfold Builtin.«set.__init__» noKeywords Builtin.Frozenset.updateFrom
        generalize hPI : pyIter = PI
        wp_walk
        subst hPI
        refine wpAny_pyIter_list hl1 (wpAny_bind (wpAny_runValue ?_))
        have hlS : l < s.heap.objs.size := Heap.lt_size hol
        have hh3 : A.in1.in1.in1.handled = none := by simp [hh]
        have hz1 : (s.heap.push (setNew w)).objs.size = s.heap.objs.size + 1 := Heap.size_push ..
        have hneI : l ≠ (s.heap.push (setNew w)).objs.size := by rw [hz1]; exact (nn2 hlS).1
        have hSf : s.heap.objs.size ∉ [(s.heap.push (setNew w)).objs.size, l] := by
          rw [hz1]; simp only [List.mem_cons, List.mem_singleton, List.not_mem_nil, or_false, not_or]; exact ⟨Nat.ne_of_lt (Nat.lt_succ_self _), Nat.ne_of_gt hlS⟩
        have hval : ∀ (i : Nat) (v : Value), vs[i]? = some v → ∃ k t, ns[i]? = some k ∧ v = .int k t := fun i v hv => by
          have hi' : i < ns.length := by rw [← hsz]; exact (Array.getElem?_eq_some_iff.mp hv).1
          obtain ⟨t, e⟩ := PyProof.Rows.IntsAre.int_at hi i v (by rw [Array.getElem?_toList]; exact hv)
          refine ⟨ns[i], t, List.getElem?_eq_getElem hi', ?_⟩
          rw [e, List.getD_eq_getElem?_getD, List.getElem?_eq_getElem hi'] <;> rfl
        refine set_update_ints ((Walks.list hh3 _ l hneI vs).toS) s.heap.objs.size hSf ns hsz hb hval (vs.size - 0) 0 _ (by omega) (Nat.zero_le _) ⟨⟨_, Heap.get?_push_size _ rfl, rfl, rfl⟩, (hl1.push _)⟩ ?hS0 ?hR
        case hS0 => exact ⟨0, Nat.le_refl 0, setR_new_at (Heap.get?_push_of_some _ hS)⟩
        case hR =>
          intro s' c' hm hc' hS'
          obtain ⟨h', g2, d', tk', os'⟩ := s'
          cases (show g2 = s.gens from hm.gens); cases (show d' = s.drawn from hm.drawn); cases (show os' = s.os from hm.os)
          show wpAny _ _ _ _ _ _
          refine wpAny_pure ?_
          show wpAny _ _ (ret Value.none) _ _ _
          rw [hsz] at hc'
          refine wpAny_pure ⟨rfl, h', tk', c', rfl, hS', hc', fun b o e => ?_⟩
          have hb0 : b < s.heap.objs.size := Heap.lt_size e
          exact hm.heap b o (by rw [hz1]; simp only [List.mem_cons, List.mem_singleton, List.not_mem_nil, or_false, not_or]; exact ⟨(nn2 hb0).2, (nn2 hb0).1⟩) (Heap.get?_push_of_some _ (Heap.get?_push_of_some _ e))
      · cases r₂ with
        | error e => exact hr₂
        | ok fl₂ =>
          cases fl₂ with
          | ret r =>
            obtain ⟨rfl, h', tk, c', rfl, hS', hc', hk'⟩ := hr₂
            repeat (any_goals (first | assumption | wp_step))
            exact h _ _ _ hS' hc' hk'
          | _ => exact hr₂.elim
    | _ => exact hr.elim
end
def setO (w : World) (p : Addr) (ns : List Int) (c : Nat) : HO := .ext fun h => SetR w h p (fun j => decide (j ∈ ns)) c
def rSetI (K : PySem.W.Frag) (w : World) : List V → Hp → VK → Prop := fun vs H Q => ∃ (a : Addr) (ns : List Int), vs = [.ref a] ∧ SqL K H a (ns.map V.int) ∧ ns.length < 64 ∧ ∀ p c, c ≤ ns.length → H p = none → Q (.ref p) (upd H p (setO w p ns c))
theorem cr_setI {X : Cx} (hc : X.calm = true) : CallR X (.type "set") (rSetI X.K X.w) := by
  intro pins s σ H vs us Q I r h
  obtain ⟨a, ns, rfl, hs, hl, q⟩ := h
  rw [Vals.ref1 r]
  obtain ⟨its, rv, pl, _⟩ := I.list hs
  have hi : IntsAre its.toArray.toList ns := rv.ints
  refine call_set_lst ns (I.ok.hd hc) pl.isList hi (by unfold scanBound; omega) fun h' tk c R hcn kk => ?_
  refine ⟨.ref s.heap.objs.size, upd H s.heap.objs.size (setO X.w s.heap.objs.size ns c), I.laid (t' := tk) kk (Nat.le_refl _) ⟨R, ?_, fun h1 h2 x k => x.at k⟩, rfl, q _ c hcn (I.hok.fresh (Nat.le_refl _))⟩
  obtain ⟨o, es, ep, t, ho, _⟩ := R
  exact ⟨o, ho⟩
def rSortS (w : World) : List V → Hp → VK → Prop := fun vs H Q => ∃ (p : Addr) (ns : List Int) (c : Nat), vs = [.ref p] ∧ H p = some (setO w p ns c) ∧ c < 64 ∧ ∀ (ms : List Int) (D : Addr), ms.Pairwise (· < ·) → (∀ k, k ∈ ms ↔ k ∈ ns) → H D = none → Q (.ref D) (upd H D (.lst (ms.map V.int)))
theorem cr_sortS {X : Cx} (hc : X.calm = true) : CallR X (.builtin "sorted") (rSortS X.w) := by
  intro pins s σ H vs us Q I r h
  obtain ⟨p, ns, c, rfl, hp, h64, q⟩ := h
  rw [Vals.ref1 r]
  have R : SetR X.w s.heap p (fun j => decide (j ∈ ns)) c := (show ObjOk X.prog X.w H s.heap p (setO X.w p ns c) from I.hok _ _ hp).1
  refine sorted_set R (I.ok.hd hc) h64 fun s' D out n ms kk g o hle hD hi up hm hl => ?_
  have hn : H D = none := I.hok.fresh hle
  have new : ObjOk X.prog X.w (upd H D (.lst (ms.map V.int))) s'.heap D (.lst (ms.map V.int)) := ⟨by rw [List.length_map, hl, sizeLine_eq]; omega, out.toList, n, vals_of_ints hi, by rw [hD]⟩
  refine ⟨.ref D, upd H D (.lst (ms.map V.int)), I.call' (ch := []) o (Un.laid kk hle hn) (I.hok.laid kk hle new) (by rw [g]; exact I.bare) (fun _ z => nomatch z), rfl, q ms D up (fun k => ?_) hn⟩
  rw [hm k, decide_eq_true_eq]
end Tr
namespace Tr
open PySem PySem.Spec PyProof.Rows L2
theorem sumLK {X : Cx} {K : PySem.W.Frag} (hc : X.calm = true) (h : X.K = K := by rfl) : CallR X (.builtin "sum") (rSumL K) := by subst h; exact cr_sumL hc
theorem setIK {X : Cx} {K : PySem.W.Frag} {w : World} (hc : X.calm = true) (h : X.K = K := by rfl) (h' : X.w = w := by rfl) : CallR X (.type "set") (rSetI K w) := by subst h; subst h'; exact cr_setI hc
theorem sortSK {X : Cx} {w : World} (hc : X.calm = true) (h' : X.w = w := by rfl) : CallR X (.builtin "sorted") (rSortS w) := by subst h'; exact cr_sortS hc
/-! ### sum(lists, []) -/
theorem all2_appD {α β : Type} {R : α → β → Prop} : ∀ {as as' : List α} {bs bs' : List β}, All2 R as bs → All2 R as' bs' → All2 R (as ++ as') (bs ++ bs')
  | _, _, _, _, .nil, h => h
  | _, _, _, _, .cons x t, h => .cons x (all2_appD t h)
def rowsL : List PyData → Option (List (List PyData))
  | [] => some []
  | .list ds :: r => (rowsL r).map fun rr => ds :: rr
  | _ :: _ => none
theorem rowsL_ok {F : Hp} : ∀ {ds : List PyData} {vs : List V} {rows : List (List PyData)}, All2 (Rp F) ds vs → rowsL ds = some rows → ∃ (rs : List Addr) (xss : List (List V)), vs = rs.map V.ref ∧ All2 (fun xs r => F r = some (.lst xs)) xss rs ∧ All2 (Rp F) rows.flatten xss.flatten
  | _, _, rows, .nil, e => by cases e; exact ⟨[], [], rfl, .nil, .nil⟩
  | _, _, rows, .cons (a := d) (as := ds) h t, e => by
    unfold rowsL at e
    split at e
    · rename_i ds0 _ heq; cases heq
    · rename_i d0 r0 heq
      cases heq
      cases h2 : rowsL ds with
      | none => rw [h2] at e; cases e
      | some rr =>
        rw [h2] at e
        cases e
        obtain ⟨rs, xss, e1, a1, a2⟩ := rowsL_ok t h2
        obtain ⟨a, vs', rfl, hF, r⟩ := rp_list.mp h
        refine ⟨a :: rs, vs' :: xss, by rw [e1]; rfl, .cons hF a1, ?_⟩
        rw [List.flatten_cons, List.flatten_cons]
        exact all2_appD r a2
    · cases e
def sumC (p : P) : ML := fun e => match (sq e p).bind rowsL with
  | some rows => if rows.flatten.length ≤ sizeLine then some (rows.flatten, e) else none
  | none => none
def mSumL (me : ME) : ML := bnd me fun p e => sumC p e
theorem rl_sumL {K : PySem.W.Frag} {pu : Bool} {te : TE} {me : ME} (h : RE pu te me) : RL false (tCB (rSumL K) (tCons te (tCons (tLst tNil) tNil))) (mSumL me) := by
  intro F H σ env Sl R ds env' e Q q
  obtain ⟨p, e1, h1, h2⟩ := bnd_of e
  unfold sumC at h2
  split at h2
  · rename_i rows h3
    split at h2
    · rename_i hz
      obtain ⟨rfl, rfl⟩ := Prod.mk.inj (Option.some.inj h2)
      refine h F H σ env Sl R _ _ h1 _ fun x F1 H1 Sl1 s1 pu1 R1 r1 => ?_
      cases h4 : sq e1 p with
      | none => rw [h4] at h3; cases h3
      | some ds0 =>
        rw [h4, Option.bind_some] at h3
        obtain ⟨a, vs, rfl, hH, rr⟩ := sq_of R1 r1 h4
        have rr1 : All2 (Rp H1) ds0 vs := rr.mono fun d v z => Rp.mono R1.ex z
        obtain ⟨a', vs', e5, hF, rr2⟩ : ∃ a' vs', V.ref a = .ref a' ∧ H1 a' = some (.lst vs') ∧ All2 (Rp F1) ds0 vs' := ⟨a, vs, rfl, hH, rr⟩
        cases e5
        obtain ⟨rs, xss, e6, a1, a2⟩ := rowsL_ok rr2 h3
        subst e6
        show tNil σ H1 fun xs H2 => _
        refine ⟨Nat.zero_le _, fun p0 np => ?_⟩
        have ne : ∀ b u, H1 b = some u → upd H1 p0 (.lst []) b = some u := fun b u z => by rw [upd_ne (ne_of_none z np)]; exact z
        refine ⟨a, p0, rs, xss, rfl, SqL.of (ne _ _ hF), upd_same, a1.mono fun xs r z => ne _ _ (R1.ex _ _ z), by rw [← a2.len]; exact hz, fun z => ?_, fun z D nD => ?_⟩
        · subst z
          cases a1
          cases hd : rows.flatten with
          | nil => rw [hd] at q; exact q p0 [] F1 H1 Sl1 s1 (fun w => nomatch w) R1 .nil np
          | cons d r => rw [hd] at a2; cases a2
        · exact q D _ F1 _ Sl1 (s1.side (s1.tkb np)) (fun w => nomatch w) (R1.side (R1.ex.none np) fun k w => fresh_notin R1 np k w) a2 nD
    · cases h2
  · cases h2
/-! ### sorted(set(xs)) -/
def dd : List Int → List Int
  | [] => []
  | x :: xs => if x ∈ xs then dd xs else x :: dd xs
theorem dd_mem {x : Int} : ∀ {xs : List Int}, x ∈ dd xs ↔ x ∈ xs
  | [] => Iff.rfl
  | y :: xs => by
    unfold dd
    have ih := dd_mem (x := x) (xs := xs)
    split
    · rename_i h
      rw [ih, List.mem_cons]
      exact ⟨.inr, fun z => z.elim (fun e => by rw [e]; exact h) id⟩
    · rw [List.mem_cons, List.mem_cons, ih]
theorem dd_nd : ∀ {xs : List Int}, (dd xs).Nodup
  | [] => List.nodup_nil
  | y :: xs => by
    unfold dd
    split
    · exact dd_nd
    · rename_i h
      exact List.nodup_cons.mpr ⟨fun z => h (dd_mem.mp z), dd_nd⟩
def srtU (ns : List Int) : List Int := srtI (dd ns)
theorem srtU_mem {ns : List Int} {x : Int} : x ∈ srtU ns ↔ x ∈ ns := by
  unfold srtU
  rw [(srtI_perm _).mem_iff, dd_mem]
theorem srtU_nd {ns : List Int} : (srtU ns).Nodup := (srtI_perm _).nodup_iff.mpr dd_nd
theorem srtU_up {ns : List Int} : (srtU ns).Pairwise (· ≤ ·) := srtI_up _
theorem srtU_uniq {ns ms : List Int} (up : ms.Pairwise (· < ·)) (h : ∀ k, k ∈ ms ↔ k ∈ ns) : ms = srtU ns := by
  have nd : ms.Nodup := up.imp fun z e => by omega
  refine srtI_uniq ((List.perm_ext_iff_of_nodup nd dd_nd).mpr fun k => by rw [h k, dd_mem]) (up.imp fun z => by omega)
def sortSetK (ps : List P) : ML := fun e => match ps with
  | [p] => match (sq e p).bind allI with
    | some ns => if ns.length < 64 then some ((srtU ns).map .int, e) else none
    | none => none
  | _ => none
def mSortSet (ma : MA) : ML := bnd ma fun ps e => sortSetK ps e
theorem rl_sortSet {K : PySem.W.Frag} {w : World} {pu : Bool} {ta : TA} {ma : MA} (h : RA pu ta ma) : RL false (tCB (rSortS w) (tCons (tCB (rSetI K w) ta) tNil)) (mSortSet ma) := by
  intro F H σ env Sl R ds env' e Q q
  obtain ⟨ps, e1, h1, h2⟩ := bnd_of e
  unfold sortSetK at h2
  split at h2
  · rename_i p
    split at h2
    · rename_i ns h3
      split at h2
      · rename_i hz
        obtain ⟨rfl, rfl⟩ := Prod.mk.inj (Option.some.inj h2)
        refine h F H σ env Sl R _ _ h1 _ fun xs F1 H1 Sl1 s1 pu1 R1 r1 => ?_
        cases r1 with
        | cons a t =>
          cases t
          cases h4 : sq e1 p with
          | none => rw [h4] at h3; cases h3
          | some ds0 =>
            rw [h4, Option.bind_some] at h3
            obtain ⟨l, vs, rfl, hl, r⟩ := sq_of R1 a h4
            have e2 := allI_ok r h3
            refine ⟨l, ns, rfl, SqL.of (by rw [← e2]; exact hl), hz, fun b c hc nb => ?_⟩
            refine ⟨b, ns, c, rfl, upd_same, by omega, fun ms D up hm nD => ?_⟩
            rw [srtU_uniq up hm]
            exact q D _ F1 _ Sl1 (s1.side (s1.tkb nb)) (fun z => nomatch z) (R1.side (R1.ex.none nb) fun k z => fresh_notin R1 nb k z) (all_ints _) nD
      · cases h2
    · cases h2
  · cases h2
section
variable {α : Type} {env : En}
def sumG (xss : List (List α)) : Option (List α) := if xss.flatten.length ≤ sizeLine then some xss.flatten else none
theorem rowsL_map {en : α → PyData} : ∀ xss : List (List α), rowsL (xss.map (encL en)) = some (xss.map fun r => r.map en)
  | [] => rfl
  | r :: xss => by
    show (rowsL (xss.map (encL en))).map (fun rr => r.map en :: rr) = _
    rw [rowsL_map xss]
    rfl
theorem flat_map {en : α → PyData} : ∀ xss : List (List α), (xss.map fun r => r.map en).flatten = xss.flatten.map en
  | [] => rfl
  | r :: xss => by rw [List.map_cons, List.flatten_cons, List.flatten_cons, List.map_append, flat_map xss]
theorem xo_sumK {en : α → PyData} {xss : List (List α)} {p : P} {e1 : En} (hs : sq e1 p = some (xss.map (encL en))) : XV (sumC p) e1 (sumG xss) (fun r => r.map en) (fun _ => e1) := fun r hr => by
  unfold sumG at hr
  split at hr
  · rename_i hz
    cases hr
    unfold sumC
    simp only [hs, Option.bind_some, rowsL_map]
    rw [flat_map, if_pos (by rw [List.length_map]; exact hz)]
  · cases hr
def srtUG (xs : List Int) : Option (List Int) := if xs.length < 64 then some (srtU xs) else none
theorem xo_sortSetK {xs : List Int} {p : P} {e1 : En} (hs : sq e1 p = some (xs.map encI)) : XV (sortSetK [p]) e1 (srtUG xs) (fun r => r.map encI) (fun _ => e1) := fun r hr => by
  unfold srtUG at hr
  split at hr
  · rename_i hz
    cases hr
    unfold sortSetK
    have e : allI (xs.map encI) = some xs := allI_map xs
    simp only [hs, Option.bind_some, e]
    rw [if_pos hz]
    rfl
  · cases hr
theorem xo_top {pick : List Int → Option Int} {xs : List Int} {p : P} (hs : sq env p = some (xs.map encI)) : XV (fun e => (gTop pick e [p]).map fun r => (r, e)) env (pick xs) (fun m => .val (.int m)) (fun _ => env) := fun m hm => by
  have e : allI (xs.map encI) = some xs := allI_map xs
  unfold gTop
  simp only [hs, Option.bind_some, e, hm, Option.map_some]
end
end Tr
namespace Tr
open PySem PySem.Spec PyProof.Rows L2
/-! ### texts -/
def allS : List PyData → Option (List Str)
  | [] => some []
  | .str z :: r => (allS r).map (z :: ·)
  | _ => none
theorem allS_ok {F : Hp} : ∀ {ds : List PyData} {ys : List Str} {vs : List V}, allS ds = some ys → All2 (Rp F) ds vs → vs = ys.map V.str
  | [], ys, vs, h, r => by
    cases h
    cases r
    rfl
  | d :: ds, ys, vs, h, r => by
    cases d with
    | str z =>
      have h' : (allS ds).map (z :: ·) = some ys := h
      cases e : allS ds with
      | none => rw [e] at h'; cases h'
      | some zs =>
        rw [e] at h'
        cases h'
        cases r with
        | cons a t => rw [allS_ok e t, show _ = V.str z from a]; rfl
    | _ => cases h
theorem allS_map (ys : List Str) : allS (ys.map .str) = some ys := by
  induction ys with
  | nil => rfl
  | cons y ys ih =>
    show (allS (ys.map .str)).map (y :: ·) = _
    rw [ih]
    rfl
theorem strs_all {F : Hp} : ∀ (ys : List Str), All2 (Rp F) (ys.map .str) (ys.map V.str)
  | [] => .nil
  | y :: ys => .cons rfl (strs_all ys)
/-- s.m(e) -/
def mM1 {β : Type} (g : En → P → P → Option β) (mo me : ME) : En → Option (β × En) := bnd mo fun p e => match p with
  | .val (.str _) => bnd me (fun q e2 => (g e2 p q).map fun r => (r, e2)) e
  | _ => none
theorem re_m1 {pu pv : Bool} {to te : TE} {mo me : ME} {r : V → List V → Hp → VK → Prop} {g : En → P → P → Option P} (ho : RE pu to mo) (he : RE pv te me) (hk : BinK (fun x y H Q => r x [y] H Q) g) : RE (pu && pv) (tM1 r to te) (mM1 g mo me) := by
  intro F H σ env Sl R p env' e Q q
  obtain ⟨a, e1, h1, h2⟩ := bnd_of e
  split at h2
  · rename_i z
    obtain ⟨b, e2, h3, h4⟩ := bnd_of h2
    cases h5 : g e2 (.val (.str z)) b with
    | none => rw [h5] at h4; cases h4
    | some c =>
      rw [h5] at h4
      cases h4
      refine ho F H σ env Sl R _ _ h1 _ fun x F1 H1 Sl1 s1 pu1 R1 r1 => ?_
      refine ⟨⟨z, pstr r1⟩, ?_⟩
      refine he F1 H1 σ e1 Sl1 R1 b _ h3 _ fun y F2 H2 Sl2 s2 pu2 R2 r2 => ?_
      refine hk F2 H2 σ _ Sl2 x y _ b _ R2 (RP.mono s2.exF r1) r2 h5 Q fun v F' H' x' y' z' n rr => ?_
      refine q v F' H' Sl2 ((s1.trans s2).trans (Step.grow x' y' n)) (fun hp => ?_) (R2.grow x' y' z' n) rr
      obtain ⟨a1, a2, a3⟩ := pu_step (F := F) (F1 := F1) (F2 := F2) pu1 pu2 hp
      exact ⟨a1, a2.trans y', a3⟩
  · cases h2
theorem rl_m1 {pu pv : Bool} {to te : TE} {mo me : ME} {r : V → List V → Hp → VK → Prop} {g : En → P → P → Option (List PyData)} (ho : RE pu to mo) (he : RE pv te me) (hk : BinL (fun x y H Q => r x [y] H Q) g) : RL (pu && pv) (tM1 r to te) (mM1 g mo me) := by
  intro F H σ env Sl R ds env' e Q q
  obtain ⟨a, e1, h1, h2⟩ := bnd_of e
  split at h2
  · rename_i z
    obtain ⟨b, e2, h3, h4⟩ := bnd_of h2
    cases h5 : g e2 (.val (.str z)) b with
    | none => rw [h5] at h4; cases h4
    | some c =>
      rw [h5] at h4
      cases h4
      refine ho F H σ env Sl R _ _ h1 _ fun x F1 H1 Sl1 s1 pu1 R1 r1 => ?_
      refine ⟨⟨z, pstr r1⟩, ?_⟩
      refine he F1 H1 σ e1 Sl1 R1 b _ h3 _ fun y F2 H2 Sl2 s2 pu2 R2 r2 => ?_
      refine hk F2 H2 σ _ Sl2 x y _ b _ R2 (RP.mono s2.exF r1) r2 h5 Q fun p vs rr np => ?_
      exact q p vs F2 H2 Sl2 (s1.trans s2) (pu_step (F := F) (F1 := F1) (F2 := F2) pu1 pu2) R2 rr np
  · cases h2
def gJoin : En → P → P → Option P := fun env p q => match p, sq env q with
  | .val (.str a), some ds => (allS ds).bind fun ys => if (ys.map (·.length)).sum + ys.length * a.length ≤ 16777216 then some (.val (.str (Txt.join a ys))) else none
  | _, _ => none
abbrev rJoinK (K : PySem.W.Frag) : V → List V → Hp → VK → Prop := fun x xs H Q => ∃ a p, ∃ ys : List Str, x = .str a ∧ xs = [.ref p] ∧ (SqL K H p (ys.map V.str) ∨ SqT K H p (ys.map V.str)) ∧ (ys.map (·.length)).sum + ys.length * a.length ≤ 16777216 ∧ Q (.str (Txt.join a ys)) H
theorem b_join {K : PySem.W.Frag} : BinK (fun x y H Q => rJoinK K x [y] H Q) gJoin := by
  intro F H σ env Sl x y p1 p2 p R h1 h2 e Q q
  unfold gJoin at e
  split at e
  · rename_i a ds h3
    cases h4 : allS ds with
    | none => rw [h4] at e; cases e
    | some ys =>
      rw [h4, Option.bind_some] at e
      split at e
      · rename_i hz
        cases e
        obtain ⟨l, vs, rfl, hl, r1⟩ := sq_of R h2 h3
        have hv := allS_ok h4 r1
        subst hv
        exact ⟨a, l, ys, pstr h1, rfl, .inl (SqL.of hl), hz, q _ F H (Ex.refl F) (Ex.refl H) R.ex (fun _ _ z => .inl z) rfl⟩
      · cases e
  · cases e
def gSplit : En → P → P → Option (List PyData) := fun _ p q => match p, q with
  | .val (.str a), .val (.str b) => if (b.length == 0) = false ∧ a.length + 2 ≤ sizeLine then some ((Txt.split a b).map .str) else none
  | _, _ => none
abbrev rSplitK : V → List V → Hp → VK → Prop := fun x xs H Q => ∃ a b, x = .str a ∧ xs = [.str b] ∧ (b.length == 0) = false ∧ a.length + 2 ≤ sizeLine ∧ rNewStrs (Txt.split a b) H Q
theorem b_split : BinL (fun x y H Q => rSplitK x [y] H Q) gSplit := by
  intro F H σ env Sl x y p1 p2 ds R h1 h2 e Q q
  unfold gSplit at e
  split at e
  · rename_i a b
    split at e
    · rename_i hz
      cases e
      exact ⟨a, b, pstr h1, by rw [pstr h2], hz.1, hz.2, fun p np => q p _ (strs_all _) np⟩
    · cases e
  · cases e
def gAddS : En → P → P → Option P := fun _ p q => match p, q with
  | .val (.str a), .val (.str b) => if a.length + b.length ≤ sizeLine then some (.val (.str (a ++ b))) else none
  | _, _ => none
theorem b_addS : BinK (fun x y H Q => ∃ i j, x = .str i ∧ y = .str j ∧ i.length + j.length ≤ sizeLine ∧ Q (.str (i ++ j)) H) gAddS := by
  intro F H σ env Sl x y p1 p2 p R h1 h2 e Q q
  unfold gAddS at e
  split at e
  · rename_i a b
    split at e
    · rename_i hz
      cases e
      exact ⟨a, b, pstr h1, pstr h2, hz, q _ F H (Ex.refl F) (Ex.refl H) R.ex (fun _ _ z => .inl z) rfl⟩
    · cases e
  · cases e
/-! ### f'..' -/
def mFmt (me : ME) : ME := bnd me fun p e => match p with
  | .val (.str y) => if y.length ≤ sizeLine then some (.val (.str y), e) else none
  | .val (.int i) => if i.natAbs.log2 < 1920 then some (.val (.str (toString i)), e) else none
  | _ => none
theorem re_fmt {pu : Bool} {te : TE} {me : ME} (h : RE pu te me) : RE pu (tFmt te) (mFmt me) := by
  intro F H σ env Sl R p env' e Q q
  obtain ⟨a, e1, h1, h2⟩ := bnd_of e
  split at h2
  · rename_i y
    split at h2
    · rename_i hz
      cases h2
      refine h F H σ env Sl R _ _ h1 _ fun x F1 H1 Sl1 s1 pu1 R1 r1 => ?_
      exact .inl ⟨y, pstr r1, hz, q _ F1 H1 Sl1 s1 pu1 R1 rfl⟩
    · cases h2
  · rename_i i
    split at h2
    · rename_i hz
      cases h2
      refine h F H σ env Sl R _ _ h1 _ fun x F1 H1 Sl1 s1 pu1 R1 r1 => ?_
      exact .inr ⟨i, pint r1, hz, q _ F1 H1 Sl1 s1 pu1 R1 rfl⟩
    · cases h2
  · cases h2
def mJs : List ME → Str → En → Option (Str × En)
  | [], acc, env => some (acc, env)
  | m :: ms, acc, env => match m env with
    | some (.val (.str y), e) => if (acc ++ y).length ≤ sizeLine then mJs ms (acc ++ y) e else none
    | _ => none
inductive RJs : Bool → List TE → List ME → Prop where
  | nil : RJs true [] []
  | cons {pu pv : Bool} {t : TE} {m : ME} {ts : List TE} {ms : List ME} (h : RE pu t m) (r : RJs pv ts ms) : RJs (pu && pv) (t :: ts) (m :: ms)
theorem rjs_run {pu : Bool} {ts : List TE} {ms : List ME} (h : RJs pu ts ms) : ∀ (acc : Str) F H σ env Sl, REnv F H σ env Sl → ∀ out env', mJs ms acc env = some (out, env') → ∀ Q : Str → Hp → Prop, (∀ F' H' Sl', Step F H Sl F' H' Sl' → (pu = true → env' = env ∧ Ex H H' ∧ Sl' = Sl) → REnv F' H' σ env' Sl' → Q out H') → tJs ts acc σ H Q := by
  induction h with
  | nil =>
    intro acc F H σ env Sl R out env' e Q q
    cases e
    exact q F H Sl Step.refl (fun _ => ⟨rfl, Ex.refl H, rfl⟩) R
  | @cons pu pv t m ts ms h r ih =>
    intro acc F H σ env Sl R out env' e Q q
    unfold mJs at e
    split at e
    · rename_i y e1 h1
      split at e
      · rename_i hz
        refine h F H σ env Sl R _ _ h1 _ fun x F1 H1 Sl1 s1 pu1 R1 r1 => ?_
        refine ⟨y, pstr r1, hz, ?_⟩
        refine ih (acc ++ y) F1 H1 σ e1 Sl1 R1 out env' e Q fun F' H' Sl' s2 pu2 R2 => ?_
        exact q F' H' Sl' (s1.trans s2) (pu_step (F := F) (F1 := F1) (F2 := F') pu1 pu2) R2
      · cases e
    · cases e
def mJoined (ms : List ME) : ME := bnd (mJs ms Str.empty) fun out e => some (.val (.str out), e)
theorem re_joined {pu : Bool} {ts : List TE} {ms : List ME} (h : RJs pu ts ms) : RE pu (fun σ H Q => tJs ts Str.empty σ H fun out H1 => Q (.str out) H1) (mJoined ms) := by
  intro F H σ env Sl R p env' e Q q
  obtain ⟨out, e1, h1, h2⟩ := bnd_of e
  cases h2
  exact rjs_run h Str.empty F H σ env Sl R out _ h1 _ fun F' H' Sl' s pu' R' => q _ F' H' Sl' s pu' R' rfl
end Tr
namespace Tr
open PySem PySem.Spec PyProof.Rows L2
/-! ### enumerate(list, k) -/
def IteC (K : PySem.W.Frag) (a : Addr) (c : Int) : It :=
  ⟨fun i H => ∃ (xs : List V) (x : V), SqL K H a xs ∧ xs[i]? = some x, fun i H v H' => ∃ T x, v = .ref T ∧ H T = none ∧ H' = upd H T (.tup [.int (c + (i : Nat)), x]) ∧ ∀ xs, SqL K H a xs → xs[i]? = some x, fun i H => ∃ xs : List V, SqL K H a xs ∧ xs.length ≤ i⟩
theorem turn_enumC {P : Program} {w : World} {K : PySem.W.Frag} {elts : List Expr} {kk : Nat} {tpos : Pos} (a e it : Addr) (c : Int) :
    Turn P w K (.Tuple elts kk tpos) (IteC K a c) [e, it] e (fun i h => (∃ old, IsEnum h e it (c + ((i : Nat) : Int)) old) ∧ h.IsListIter it a i ∧ e ≠ it ∧ a ≠ it ∧ a ≠ e) where
  mem := by simp
  obj := fun i h st b hb => by
    obtain ⟨⟨old, he⟩, ⟨o, ho, hc, hd⟩, _⟩ := st
    have e' : b = e ∨ b = it := by simpa using hb
    rcases e' with z | z
    · rw [z]; exact ⟨_, he, fun v q => nomatch q⟩
    · rw [z]; exact ⟨o, ho, fun v q => by rw [hd] at q; cases q⟩
  keep := fun i h h' st k => by
    obtain ⟨⟨old, he⟩, hi, hne, h1, h2⟩ := st
    exact ⟨⟨old, k e (by simp) _ he⟩, hi.at fun o q => k it (by simp) o q, hne, h1, h2⟩
  item := by
    intro X hP hw hK hc i pins s σ H E I hf st hg
    subst hP hw hK
    obtain ⟨⟨old, he⟩, hit, hne, h1, h2⟩ := st
    obtain ⟨xs, x, hq, hx⟩ := hg
    obtain ⟨its, rv, p, hz⟩ := I.list hq
    obtain ⟨u, hu, ru⟩ := rv.get hx
    have hel : e < s.heap.objs.size := Heap.lt_size he
    have hil : it < s.heap.objs.size := by obtain ⟨_, q, _⟩ := hit; exact Heap.lt_size q
    have hlt : i < its.toArray.size := by
      obtain ⟨q, _⟩ := List.getElem?_eq_some_iff.mp hu
      simpa using q
    have D := Draws.list (prog := X.prog) (w := X.w) (A := X.A.in1) (I.ok.hd hc) it a h1 its.toArray
    refine wpAny_pyNext_enum_itemC D he ⟨hit, p.isList⟩ hlt hne (by simp [hne, Ne.symm h2]) fun x' h' tk hP ho hs hT hsz hk => ?_
    obtain ⟨hit', hl'⟩ := hs
    have hxu : x' = u := by
      have e1 : its.toArray[i]? = some x' := hP
      rw [List.getElem?_toArray, hu] at e1
      exact (Option.some.inj e1).symm
    subst hxu
    refine ⟨_, rfl, wpAny_letOwnedTupleGo_enum (s := { s with heap := h', toks := tk + 1 }) ho fun h'' he' sb => ?_⟩
    have hT2 : h''.get? s.heap.objs.size = some { cls := .type "tuple", data := .seq #[.int (c + (i : Int)) tk, x'] } := (sb.2 _ (Nat.ne_of_gt hel)).trans hT
    have new : ObjOk X.prog X.w (upd H s.heap.objs.size (.tup [.int (c + (i : Nat)), x])) h'' s.heap.objs.size (.tup [.int (c + (i : Nat)), x]) :=
      ⟨by show 2 ≤ sizeLine; decide, [.int (c + (i : Int)) tk, x'], .cons ⟨_, rfl⟩ (.cons ru .nil), ⟨_, hT2, rfl, _, rfl⟩⟩
    have I1 : Inv X pins σ (upd H s.heap.objs.size (.tup [.int (c + (i : Nat)), x])) { s with heap := h'', toks := tk + 1 } :=
      I.turnedNew (ch := [e, it]) (fun b ob hb q => (sb.2 b (fun z => hb (by simp [z]))).trans (hk b ob (fun z => hb (by simp [z])) (fun z => hb (by simp [z])) q)) hf (Nat.le_refl _) new
    refine ⟨.ref s.heap.objs.size, _, I1, rfl, ⟨_, x, rfl, I.hok.fresh (Nat.le_refl _), rfl, fun ys hy => by rw [I.list_inj hy hq]; exact hx⟩, ⟨⟨x', ?_⟩, hit'.at fun o q => (sb.2 it (Ne.symm hne)).trans q, hne, h1, h2⟩, fun b hb => ?_⟩
    · have e1 : c + ((i + 1 : Nat) : Int) = c + (i : Int) + 1 := by omega
      rw [e1]; exact he'
    · have hb' : b < s.heap.objs.size := by
        have e' : b = e ∨ b = it := by simpa using hb
        rcases e' with z | z
        · rw [z]; exact hel
        · rw [z]; exact hil
      rw [upd_ne (Nat.ne_of_lt hb')]
      exact (hf b hb).1
  done := by
    intro X hP hw hK hc i pins s σ H E I hf st hg
    subst hP hw hK
    obtain ⟨⟨old, he⟩, hit, hne, h1, h2⟩ := st
    obtain ⟨xs, hq, hx⟩ := hg
    obtain ⟨its, rv, p, hz⟩ := I.list hq
    obtain ⟨f0, f1, f2, f3, f4, f5⟩ := hf it (by simp)
    have hl := rv.length
    have hT : s.TypeIs (.ref e) "enumerate" := ⟨_, he, rfl⟩
    unfold pyNext
    refine wpAny_bind (wpAny_attempt (wpAny_callSpecial?_slot (name := Str.ofString "__next__") hT F.slot_enumerate_next
      (wpAny_call_entry F.slot_enumerate_next hT F.entry_enumerate_next ?_ (F.args_enumerate_next_1 _))))
    show wpAny _ _ (field (.ref e) 2 >>= _) _ _ _
    refine wpAny_bind (wpAny_field he rfl (x := .ref it) rfl ?_)
    refine wpAny_bind (wpAny_nextOf_list_end (I.ok.hd hc) hit p.isList (by simp; omega) fun h' x he' hx' => ?_)
    obtain ⟨o, ho, hc'⟩ := hx'
    refine wpAny_bind (wpAny_isInstance (T := "StopIteration") (b := true) ⟨o, ho, hc'⟩ isSubtype_stop ?_)
    exact wpAny_pure ⟨rfl, I.turned (t' := s.toks) (fun b o hb q => he' b o hb q) f0 f1 f3 f4 f5⟩
  self := fun A i s Q E st h => by
    obtain ⟨⟨_, he⟩, _⟩ := st
    exact wpAny_pyIter_enum he h
def iEnumC (K : PySem.W.Frag) (ta : TA) : TI := fun σ H R => ta σ H fun vs H1 => ∃ a xs k, vs = [.ref a, .int k] ∧ -(2 ^ 63) ≤ k ∧ k < 2 ^ 63 ∧ SqL K H1 a xs ∧ R (IteC K a k) H1
theorem pi_enumC {X : Cx} {e e2 : Expr} {ta : TA} {p pos tpos : Pos} {elts : List Expr} {kk : Nat} (hg : Gl X "enumerate") (hm : X.mg "enumerate" = none) (ha : PA X [e, e2] ta) (hs : starEach [e, e2] X.env = [(false, eval e X.env), (false, eval e2 X.env)] := by rfl) (hs2 : starEach [e2] X.env = [(false, eval e2 X.env)] := by rfl) :
    PI X (.Tuple elts kk tpos) (.Call (.Name "enumerate" p) [e, e2] [] pos) (iEnumC X.K ta) := by
  refine ⟨fun pins s σ H R I h => ?_⟩
  refine Call_ (ld_blt I hg hm boot_enumerate (PyProof.Rows.callWith_type1 (thn (ha.run pos pins s σ H _ I h) fun us s1 ⟨vs, H1, I1, r1, q1⟩ => ?_) (by rw [hs, hs2]) (by rw [hs2]; rfl)))
  obtain ⟨a, xs, k, ex, k0, k1, hq, q⟩ := q1
  subst ex
  cases r1 with
  | cons r rr =>
    cases rr with
    | cons r' rr =>
      cases rr
      cases r
      obtain ⟨t, rfl⟩ := r'
      obtain ⟨its, rv, p', hz⟩ := I1.list hq
      have al : a < s1.heap.objs.size := by obtain ⟨_, z, _⟩ := p'.isList; exact Heap.lt_size z
      refine enum_begins (begins_list a its.toArray) p'.isList k0 k1 fun h' he hit hsz hk => wpAny_pyIter_enum he ?_
      have I2 : Inv X pins σ H1 { s1 with heap := h' } := I1.kept (t' := s1.toks) hk
      refine ⟨s1.heap.objs.size + 1, [s1.heap.objs.size + 1, s1.heap.objs.size], _, _, H1, rfl, I2, turn_enumC a (s1.heap.objs.size + 1) s1.heap.objs.size k, ⟨⟨.none, by rw [show k + ((0 : Nat) : Int) = k by omega]; exact he⟩, ⟨_, hit, rfl, rfl⟩, Nat.succ_ne_self _, Nat.ne_of_lt al, Nat.ne_of_lt (Nat.lt_succ_of_lt al)⟩, fun b hb => ?_, q⟩
      have e' : b = s1.heap.objs.size + 1 ∨ b = s1.heap.objs.size := by simpa using hb
      have hle : s1.heap.objs.size ≤ b := by
        rcases e' with z | z
        · rw [z]; exact Nat.le_add_right _ _
        · rw [z]; exact Nat.le_refl _
      exact I1.fpOk hle (I1.hok.fresh hle)
def enDC (c : Int) (ds : List PyData) : List PyData := (List.range ds.length).map fun k => .tuple [.int (c + (k : Nat)), ds.getD k .none]
theorem enDC_get {c : Int} {ds : List PyData} {i : Nat} : (enDC c ds)[i]? = (ds[i]?).map fun d => .tuple [.int (c + (i : Nat)), d] := by
  unfold enDC
  rw [List.getElem?_map]
  by_cases h : i < ds.length
  · rw [List.getElem?_range h, List.getElem?_eq_getElem h]
    simp [List.getD_eq_getElem?_getD, h]
  · rw [List.getElem?_eq_none (by rw [List.length_range]; omega), List.getElem?_eq_none (by omega)]; rfl
def mEnumC (ma : MA) : ML := bnd ma fun ps e => match ps with
  | [p, .val (.int k)] => match fzP e p with
    | some (.list ds, e2) => if -(2 ^ 63) ≤ k ∧ k < 2 ^ 63 then some (enDC k ds, e2) else none
    | _ => none
  | _ => none
theorem it_eC {K : PySem.W.Frag} {F : Hp} {a : Addr} {c : Int} {vs : List V} {ds : List PyData} (h : F a = some (.lst vs)) (r : All2 (Rp F) ds vs) : ItOk (IteC K a c) F (enDC c ds) := by
  intro F1 H1 e1 e2 i
  have hs : SqL K H1 a vs := SqL.of (e2 _ _ (e1 _ _ h))
  rw [enDC_get]
  refine ⟨fun d hd => ?_, fun hd => ⟨vs, hs, ?_⟩⟩
  · cases hd' : ds[i]? with
    | none => rw [hd'] at hd; cases hd
    | some d' =>
      rw [hd'] at hd
      cases hd
      obtain ⟨v, hv, rv⟩ := r.get hd'
      refine ⟨⟨vs, v, hs, hv⟩, fun x H' y => ?_⟩
      obtain ⟨T, x', rfl, nT, rfl, f⟩ := y
      have ex : x' = v := Option.some.inj ((f vs hs).symm.trans hv)
      subst ex
      obtain ⟨y1, y2, y3, y4, y5⟩ := new_tup (ds := [.int (c + (i : Nat)), d']) (vs := [.int (c + (i : Nat)), x']) e2 nT (.cons rfl (.cons (Rp.mono e1 rv) .nil))
      exact ⟨_, y1, y2, y3, y4, y5⟩
  · cases hd' : ds[i]? with
    | none =>
      rw [← r.len]
      exact List.getElem?_eq_none_iff.mp hd'
    | some d' => rw [hd'] at hd; cases hd
theorem ri_enumC {K : PySem.W.Frag} {pu : Bool} {ta : TA} {ma : MA} (h : RA pu ta ma) : RI (iEnumC K ta) (mEnumC ma) := by
  intro F H σ env Sl R ds env' e Q q
  obtain ⟨ps, e1, h1, h2⟩ := bnd_of e
  split at h2
  · rename_i p k
    split at h2
    · rename_i ds' e2 h3
      split at h2
      · rename_i hk
        cases h2
        refine h F H σ env Sl R _ _ h1 _ fun r F1 H1 Sl1 s1 pu1 R1 r1 => ?_
        cases r1 with
        | cons x t =>
          cases t with
          | cons y t =>
            cases t
            obtain ⟨F2, Sl2, s2, R2, r2⟩ := fz_ok R1 x h3
            obtain ⟨a, vs, rfl, hF, rr⟩ := rp_list.mp r2
            exact ⟨a, vs, k, by rw [pint y], hk.1, hk.2, SqL.of (R2.ex _ _ hF), q _ F2 H1 Sl2 (s1.trans s2) R2 (it_eC hF rr)⟩
      · cases h2
    · cases h2
  · cases h2
/-! ### for a, (b, c) in .. -/
def mgE (k : Nat) (is : List Nat) : PyData → En → Option En := fun d env => match d with
  | .tuple [a, b] => mgT is b (env.set k (some (.fz a)))
  | _ => none
theorem rg_en {K : PySem.W.Frag} {n k : Nat} {g : TGs} {is : List Nat} (h : RTs g is) (hn : is.length = n := by rfl) : RT' (k :: is) (gTup K 2 (gCons (gName k) (gCons (gTup K n g) gNil))) (mgE k is) := by
  intro F H σ env Sl x d R r env' e Q q
  unfold mgE at e
  split at e
  · rename_i a b
    obtain ⟨p, vs, rfl, hF, rr⟩ := rp_tuple.mp r
    cases rr with
    | cons r1 rr =>
      cases rr with
      | cons r2 rr =>
        cases rr
        refine ⟨p, _, rfl, SqT.of (R.ex _ _ hF), rfl, ?_⟩
        refine ⟨_, _, rfl, ?_⟩
        refine ⟨_, _, rfl, ?_⟩
        refine rg_tup (K := K) h hn F H _ _ _ _ _ (R.putD r1) r2 env' e _ fun σ' Sl' R' k1 p1 hl => ?_
        exact ⟨rfl, q σ' Sl' R' (fun j y z => (k1 j y z).2) (fun j z => (p1 j fun y => z (by simp [y])).trans (pin_set j fun y => z (by simp at y; simp [y]))) (hl.trans (List.length_set ..))⟩
  · cases e
end Tr
namespace Tr
open PySem PySem.Spec PyProof.Rows L2
section
variable {X : Cx} {K : PySem.W.Frag}
theorem pe_joinK {o e : Expr} {to te : TE} {apos pos : Pos} (ho : PE X o to) (he : PE X e te) (h : X.K = K := by rfl) (hs : starEach [e] X.env = [(false, eval e X.env)] := by rfl) (hbase : attributeBase o "join" X.env (eval o X.env) = eval o X.env := by rfl) (hline : (apos.endLine == pos.line) = true := by rfl) :
    PE X (.Call (.Attribute o "join" apos) [e] [] pos) (tM1 (rJoinK K) to te) := by
  subst h
  exact pe_join ho he hs hbase hline
theorem pi_enumCK {e e2 : Expr} {ta : TA} {p pos tpos : Pos} {elts : List Expr} {kk : Nat} (hg : Gl X "enumerate") (hm : X.mg "enumerate" = none) (ha : PA X [e, e2] ta) (h : X.K = K := by rfl) (hs : starEach [e, e2] X.env = [(false, eval e X.env), (false, eval e2 X.env)] := by rfl) (hs2 : starEach [e2] X.env = [(false, eval e2 X.env)] := by rfl) :
    PI X (.Tuple elts kk tpos) (.Call (.Name "enumerate" p) [e, e2] [] pos) (iEnumC K ta) := by
  subst h
  exact pi_enumC hg hm ha hs hs2
end
end Tr
namespace Tr
open PySem PySem.Spec PyProof.Rows L2
/-- may its text be told -/
def tellOk (d : PyData) : Prop := isTup d = false ∧ reprOk d = true ∧ deepD d ≤ 60 ∧ (reprD d).length ≤ sizeLine ∧ SeqAt.shaped (.str (reprD d)) = true
instance (d : PyData) : Decidable (tellOk d) := by unfold tellOk; infer_instance
/-- try: f(..) except X as error: kept = error; return kept is not None and repr(kept.f) == repr(x): i error's place, j kept's, k x's -/
def mTryEq (i j k n : Nat) (xf : XF) (ma : MA) : MS := bnd ma fun ps e => match prepX ps e with
  | some (os, e2) => match e2[j]? with
    | some (some (.fz .none)) => match xf os with
      | some (.ok _) => some (.rt (.fz (.bool false)), e2)
      | some (.ex m d) => match e2[k]? with
        | some (some (.fz d2)) => if m = n ∧ i ≠ j ∧ i ≠ k ∧ j ≠ k ∧ i < e2.length ∧ tellOk d ∧ tellOk d2 then some (.rt (.fz (.bool (PyData.eqv (.str (reprD d)) (.str (reprD d2))))), (e2.set i none).set j none) else none
        | _ => none
      | none => none
    | _ => none
  | none => none
def tEqRet (K : PySem.W.Frag) (j k : Nat) (f : Str) : TS := tRet (tAndV (tOp (fun x y H Q => y = .non ∧ Q (.bl (!decide (x = .non))) H) (tVar j) (tC .non)) (tOp (rEqD K) (tCB rRepr (tCons (tKf K f (tVar j)) tNil)) (tCB rRepr (tCons (tVar k) tNil))))
theorem rs_tryEq {K : PySem.W.Frag} {cl : Cl} {C : Addr} {f : Str} {i j k n : Nat} {pu : Bool} {ta : TA} {ma : MA} {xf : XF} (h : RA pu ta ma) (hcl : cl n = (C, f)) (kc : KcC K C f) (ex : PySem.W.exmOne K (.ref C) (.ref C) = some true) :
    RS [] (tSeq (tKeep K cl (.ref C) i j xf ta) (tEqRet K j k f)) (mTryEq i j k n xf ma) := by
  intro F H σ env Sl R c env' e D q
  obtain ⟨ps, e1, h1, h2⟩ := bnd_of e
  split at h2
  · rename_i os e2 h3
    split at h2
    · rename_i h5
      split at h2
      · rename_i o h4
        cases h2
        refine callX_any h R h1 h3 h4 (fun o' eo v F' H' Sl' T s R' nn => ?_) fun n d z => nomatch z
        obtain ⟨w, hw, rw'⟩ := R'.at_ j _ h5
        cases (show w = .non from rw')
        refine ⟨.non, hw, rfl, false, rfl, ?_⟩
        exact q (.bl false) F' H' σ Sl' (fun _ => False) s R' (fun _ _ => rfl) rfl (fun _ _ z => z.elim) (fun _ z => z.elim) fun _ z => z.elim
      · rename_i m d h4
        split at h2
        · rename_i d2 h6
          split at h2
          · rename_i hh
            obtain ⟨rfl, hij, hik, hjk, hil, ⟨nt, ok, dp, sz, sh⟩, ⟨nt2, ok2, dp2, sz2, sh2⟩⟩ := hh
            cases h2
            refine callX_any h R h1 h3 h4 (fun o z => nomatch z) fun n' d' z F' H' Sl' dx v s R' rv fd hd0 hd => ?_
            cases z
            rw [hcl] at hd ⊢
            refine ⟨true, ex, fun _ a na => ?_, fun z => nomatch z⟩
            have hjl : j < e2.length := (List.getElem?_eq_some_iff.mp h5).1
            have hl : σ.length = e2.length := R'.len
            refine ⟨.ref a, List.getElem?_set_self (by rw [hl]; exact hil), fun na2 => ?_⟩
            have hdxa : dx ≠ a := fun z => by rw [z, na] at hd; cases hd
            have hj : (((σ.set i (some (.ref a))).set j (some (.ref a))).set i none)[j]? = some (some (.ref a)) := by
              rw [List.getElem?_set_ne hij, List.getElem?_set_self (by rw [List.length_set, hl]; exact hjl)]
            have hd3 : (upd H' a (ExK a (.ref C) (some dx))) dx = some (.xd [(f, v)]) := by rw [upd_ne hdxa]; exact hd
            have exn : Ex H' (upd H' a (ExK a (.ref C) (some dx))) := Ex.new na
            obtain ⟨w2, hw2, rp2⟩ := R'.at_ k _ h6
            have hk2 : (((σ.set i (some (.ref a))).set j (some (.ref a))).set i none)[k]? = some (some w2) := by
              rw [List.getElem?_set_ne hik, List.getElem?_set_ne hjk, List.getElem?_set_ne hik]; exact hw2
            refine ⟨.ref a, hj, rfl, true, rfl, ?_⟩
            rw [if_pos rfl]
            refine ⟨.ref a, hj, a, C, dx, v, rfl, upd_same, hd3, kc, ?_⟩
            refine ⟨v, d, rfl, Rp.mono (R'.ex.trans exn) rv, nt, ok, dp, sz, ?_⟩
            refine ⟨w2, hk2, ?_⟩
            refine ⟨w2, d2, rfl, Rp.mono (R'.ex.trans exn) rp2, nt2, ok2, dp2, sz2, ?_⟩
            refine ⟨.str (reprD d), .str (reprD d2), (by exact Rp.dp (R'.ex.trans exn) rfl (SeqAt.canLay_of_shaped sh)), (by exact Rp.dp (R'.ex.trans exn) rfl (SeqAt.canLay_of_shaped sh2)), sh, sh2, ?_⟩
            have s2 : Step F' H' Sl' F' (upd H' a (ExK a (.ref C) (some dx))) Sl' := Step.grow (Ex.refl F') (fun b o z => exn b o z) fun b o z => .inl z
            refine q (.bl _) F' _ (((σ.set i (some (.ref a))).set j (some (.ref a))).set i none) Sl' (fun _ => False) (s.trans s2) ⟨R'.ex.trans exn, by simp [hl], fun k o hk => ?_, R'.dj, fun k b z => ?_⟩ (fun _ z => nomatch z) rfl (fun _ _ z => z.elim) (fun _ z => z.elim) fun _ z => z.elim
            · rcases rs_tryRet.set_at' hk with ⟨nk, hk2⟩
              rcases rs_tryRet.set_at' hk2 with ⟨nk2, hk3⟩
              obtain ⟨v2, e2', w2⟩ := R'.at_ k o hk3
              refine ⟨v2, ?_, w2.ext (Ex.refl F') fun b u _ y => exn b u y⟩
              rw [List.getElem?_set_ne (Ne.symm nk2), List.getElem?_set_ne (Ne.symm nk), List.getElem?_set_ne (Ne.symm nk2)]
              exact e2'
            · obtain ⟨y1, u, y2⟩ := R'.tr k b z
              exact ⟨y1, u, exn b u y2⟩
          · cases h2
        · cases h2
      · cases h2
    · cases h2
  · cases h2
end Tr
namespace Tr
open PySem PySem.Spec PyProof.Rows L2
/-! ### texts, typed -/
def strI (i : Int) : Str := toString i
def strG (i : Int) : Option Str := if i.natAbs.log2 < 1920 then some (strI i) else none
def addSG (a b : Str) : Option Str := if a.length + b.length ≤ sizeLine then some (a ++ b) else none
def fitG (s : Str) : Option Str := if s.length ≤ sizeLine then some s else none
def sgnG (z : Str) (i : Int) : Option Str := if z.length ≤ sizeLine then (atI z.cps.toList i).map fun c => ⟨#[c]⟩ else none
def joinG (a : Str) (ys : List Str) : Option Str := if (ys.map (·.length)).sum + ys.length * a.length ≤ 16777216 then some (Txt.join a ys) else none
def splitG (a b : Str) : Option (List Str) := if (b.length == 0) = false ∧ a.length + 2 ≤ sizeLine then some (Txt.split a b) else none
def jsG : List (Option Str) → Str → Option Str
  | [], acc => some acc
  | o :: os, acc => o.bind fun s => if (acc ++ s).length ≤ sizeLine then jsG os (acc ++ s) else none
section
variable {env : En}
theorem xo_strI {i : Int} : XV (fun e => (gStrI e [P.val (.int i)]).map fun r => (r, e)) env (strG i) (fun s => .val (.str s)) (fun _ => env) := fun s hs => by
  unfold strG at hs
  split at hs
  · rename_i h
    cases hs
    show Option.map _ (if _ then _ else _) = _
    rw [if_pos h]
    rfl
  · cases hs
theorem xo_addS {a b : Str} : XV (fun e => (gAddS e (P.val (.str a)) (P.val (.str b))).map fun r => (r, e)) env (addSG a b) (fun s => .val (.str s)) (fun _ => env) := fun s hs => by
  unfold addSG at hs
  split at hs
  · rename_i h
    cases hs
    show Option.map _ (if _ then _ else _) = _
    rw [if_pos h]
    rfl
  · cases hs
theorem xo_sgn {z : Str} {i : Int} : XV (fun e => (gIx e (P.val (.str z)) (P.val (.int i))).map fun r => (r, e)) env (sgnG z i) (fun s => .val (.str s)) (fun _ => env) := fun s hs => by
  unfold sgnG at hs
  split at hs
  · rename_i h
    show Option.map _ (if _ then _ else _) = _
    rw [if_pos h]
    cases e : atI z.cps.toList i with
    | none => rw [e] at hs; cases hs
    | some c => rw [e] at hs; cases hs; rfl
  · cases hs
theorem xo_join {a : Str} {ys : List Str} {p : P} (hs : sq env p = some (ys.map encS)) : XV (fun e => (gJoin e (P.val (.str a)) p).map fun r => (r, e)) env (joinG a ys) (fun s => .val (.str s)) (fun _ => env) := fun s h => by
  unfold joinG at h
  split at h
  · rename_i hz
    cases h
    have e1 : allS (ys.map encS) = some ys := allS_map ys
    unfold gJoin
    simp only [hs, e1, Option.bind_some]
    rw [if_pos hz]
    rfl
  · cases h
theorem xo_split {a b : Str} : XV (fun e => (gSplit e (P.val (.str a)) (P.val (.str b))).map fun r => (r, e)) env (splitG a b) (fun r => r.map encS) (fun _ => env) := fun s hs => by
  unfold splitG at hs
  split at hs
  · rename_i h
    cases hs
    show Option.map _ (if _ then _ else _) = _
    rw [if_pos h]
    rfl
  · cases hs
theorem xv_fmtI {me : ME} {i : Int} (h : me env = some (.val (.int i), env)) : XV (mFmt me) env (strG i) (fun s => .val (.str s)) (fun _ => env) := fun s hs => by
  unfold strG at hs
  split at hs
  · rename_i hz
    cases hs
    refine (bnd_eq h).trans ?_
    show (if _ then _ else _) = _
    rw [if_pos hz]
    rfl
  · cases hs
theorem xv_fmtS {me : ME} {t : Option Str} (h : XV me env t (fun s => .val (.str s)) (fun _ => env)) : XV (mFmt me) env (t.bind fitG) (fun s => .val (.str s)) (fun _ => env) := fun s hs => by
  cases ht : t with
  | none => rw [ht] at hs; cases hs
  | some z =>
    rw [ht, Option.bind_some] at hs
    unfold fitG at hs
    split at hs
    · rename_i hz
      cases hs
      refine (bnd_eq (h _ ht)).trans ?_
      show (if _ then _ else _) = _
      rw [if_pos hz]
    · cases hs
def XJ (ms : List ME) (env : En) (os : List (Option Str)) : Prop := ∀ acc out, jsG os acc = some out → mJs ms acc env = some (out, env)
theorem xj_nil : XJ [] env [] := fun acc out h => by cases h; rfl
theorem xj_cons {m : ME} {ms : List ME} {o : Option Str} {os : List (Option Str)} (h : XV m env o (fun s => .val (.str s)) (fun _ => env)) (k : XJ ms env os) : XJ (m :: ms) env (o :: os) := fun acc out hx => by
  cases ho : o with
  | none => rw [ho] at hx; cases hx
  | some s =>
    rw [ho] at hx
    have hx' : (if (acc ++ s).length ≤ sizeLine then jsG os (acc ++ s) else none) = some out := hx
    split at hx'
    · rename_i hz
      unfold mJs
      rw [h s ho]
      show (if _ then _ else _) = _
      rw [if_pos hz]
      exact k _ _ hx'
    · cases hx'
theorem xj_str {s : Str} : XV (mC (.str s)) env (some s) (fun s => .val (.str s)) (fun _ => env) := fun z hz => by cases hz; rfl
theorem xo_joined {ms : List ME} {os : List (Option Str)} (h : XJ ms env os) : XV (mJoined ms) env (jsG os Str.empty) (fun s => .val (.str s)) (fun _ => env) := fun s hs => bnd_eq (h _ _ hs)
end
/-! ### enumerate(xs, k) -/
def enLC {α : Type} (c : Int) (xs : List α) : List (Int × α) := xs.mapIdx fun i x => (c + ((i : Nat) : Int), x)
theorem enC_map {α : Type} {en : α → PyData} {c : Int} {xs : List α} : enDC c (xs.map en) = (enLC c xs).map (encT encI en) := by
  refine List.ext_getElem? fun i => ?_
  rw [enDC_get, List.getElem?_map, List.getElem?_map]
  unfold enLC
  rw [List.getElem?_mapIdx]
  cases xs[i]? <;> rfl
theorem oe_enumC {α : Type} {env : En} {en : α → PyData} {xs : List α} {ma : MA} {p : P} {k : Int} {e1 e2 : En} (h : ma env = some ([p, .val (.int k)], e1)) (hk : (decide (-(2 ^ 63) ≤ k) && decide (k < 2 ^ 63)) = true) (hs : fzP e1 p = some (.list (xs.map en), e2)) : mEnumC ma env = some ((enLC k xs).map (encT encI en), e2) := by
  rw [Bool.and_eq_true, decide_eq_true_eq, decide_eq_true_eq] at hk
  refine (bnd_eq h).trans ?_
  show (match fzP e1 p with | some (.list ds, e2) => if -(2 ^ 63) ≤ k ∧ k < 2 ^ 63 then some (enDC k ds, e2) else none | _ => none) = _
  rw [hs]
  show (if _ then _ else _) = _
  rw [if_pos hk, enC_map]
/-! ### the rest of a def by hand -/
theorem sv_hand {γ β : Type} {env : En} {m n : MS} {t1 : Option γ} {f : γ → β} {post : β → Ctl → En → Prop} (R : γ → Ctl → En → Prop) (h : ∀ c, t1 = some c → ∃ k e, m env = some (k, e) ∧ k ≠ .nx ∧ R c k e) (hp : ∀ c k e, R c k e → post (f c) k e) : SV (mSeq m n) env (t1.map f) post := fun b hb => by
  cases ht : t1 with
  | none => rw [ht] at hb; cases hb
  | some c =>
    rw [ht] at hb
    cases hb
    obtain ⟨k, e, h1, h2, h3⟩ := h c ht
    exact sv_exit h1 h2 (hp c k e h3) _ rfl
theorem fin0 {o o0 : O} {e : En} (h : e[0]? = some (some o)) : mDef.finL [0] [o0] e = some [o] := by
  unfold mDef.finL
  rw [h]
  rfl
end Tr
namespace Tr
open PySem PySem.Spec PyProof.Rows L2
/-! ### a number told of a held thing, which stays held: the reading sees that thing alone, as data -/
def mScoped (j : Nat) (m : ME) : ME := fun env => match env[j]? with
  | some (some o) => match o.dat with
    | some d => match m ((List.replicate env.length none).set j (some (.fz d))) with
      | some (.val (.int i), _) => some (.val (.int i), env)
      | _ => none
    | none => none
  | _ => none
theorem re_scoped {pu : Bool} {t : TE} {m : ME} {j : Nat} (h : RE pu t m) : RE true t (mScoped j m) := by
  intro F H σ env Sl R p env' e Q q
  unfold mScoped at e
  split at e
  · rename_i o h0
    split at e
    · rename_i d hd
      split at e
      · rename_i i e2 hm
        cases e
        obtain ⟨v, hv, w⟩ := R.at_ j _ h0
        obtain ⟨_, R1, rd⟩ := R.fix h0 hv hd
        have jl : j < env.length := (List.getElem?_eq_some_iff.mp h0).1
        have R2 : REnv (fixed F H (Sl j)) H σ ((List.replicate env.length none).set j (some (.fz d))) (fun _ _ => False) := by
          refine ⟨R1.ex, by rw [List.length_set, List.length_replicate]; exact R.len, fun k u hk => ?_, fun _ _ _ z => z.elim, fun _ _ z => z.elim⟩
          rcases set_at hk with ⟨rfl, e2, _⟩ | ⟨ne, h'⟩
          · cases e2
            exact ⟨v, hv, rd⟩
          · rw [List.getElem?_replicate] at h'
            split at h' <;> cases h'
        refine h _ H σ _ _ R2 _ _ hm Q fun r F' H' Sl' s pu' R' rr => ?_
        have ex : Ex H H' := fun b u hb => s.fr b u hb fun _ z => z
        refine q r F H' Sl ⟨Ex.refl F, fun b u hb _ => ex b u hb, fun b u hb => ⟨u, ex b u hb⟩, fun _ _ z => .inl z, fun _ _ z => .inl z⟩ (fun _ => ⟨rfl, ex, rfl⟩) ⟨R.ex.trans ex, R.len, fun k u hk => ?_, R.dj, fun k b z => ?_⟩ (pint rr)
        · obtain ⟨v2, e2', w2⟩ := R.at_ k u hk
          exact ⟨v2, e2', w2.ext (Ex.refl F) fun b u _ y => ex b u y⟩
        · obtain ⟨y1, u, y2⟩ := R.tr k b z
          exact ⟨y1, u, ex b u y2⟩
      · cases e
    · cases e
  · cases e
/-! ### xs.append(e), where xs is never read again -/
def mAppG (j : Nat) (ma : MA) : MS := fun env => match env[j]? with
  | some (some (.ow2 rows)) => match ma env with
    | some ([.val _], _) => if rows.length < sizeLine then some (.nx, env.set j none) else none
    | _ => none
  | _ => none
theorem rs_appG {K : PySem.W.Frag} {pn : List Nat} {ta : TA} {ma : MA} {j : Nat} (h : RA true ta ma) : RS pn (tDrop (tBM K "list" rAppend (tVar j) ta)) (mAppG j ma) := by
  intro F H σ env Sl R c env' e D q
  unfold mAppG at e
  split at e
  · rename_i rows h0
    split at e
    · rename_i d e1 h1
      split at e
      · rename_i hz
        cases e
        obtain ⟨a, rs, ea, hH, na, nd, sa, all⟩ := R.held2 h0
        refine ⟨_, ea, Or.inl ⟨rfl, _, SqL.of hH⟩, ?_⟩
        refine h F H σ env Sl R _ _ h1 _ fun r F1 H1 Sl1 s1 pu1 R1 r1 => ?_
        obtain ⟨rfl, x, rfl⟩ := pu1 rfl
        cases r1 with
        | cons y t =>
          cases t
          rename_i v
          have ha1 := x _ _ hH
          have fa := (R1.tr j a sa).1
          refine ⟨a, rs.map V.ref, v, rfl, rfl, ha1, by rw [List.length_map, ← all.len]; exact hz, ?_⟩
          have s4 : Step F1 H1 Sl1 F1 (upd H1 a (.lst (rs.map V.ref ++ [v]))) (lose Sl1 j) := ⟨Ex.refl _, fun b o hb n => by rw [upd_ne (fun z => n j (by rw [z]; exact sa))]; exact hb, fun b o hb => by
            by_cases z : b = a
            · subst z; exact ⟨_, upd_same⟩
            · exact ⟨o, by rw [upd_ne z]; exact hb⟩, fun _ _ z => .inl z.2, fun _ _ z => .inl z⟩
          refine q _ _ σ _ (s1.trans s4) ⟨fun b o hb => ?_, by rw [List.length_set]; exact R1.len, fun k u hk => ?_, fun k l b x y => R1.dj k l b x.2 y.2, fun k b z => ?_⟩ fun _ _ => rfl
          · rw [upd_ne (fun z => by rw [z, fa] at hb; cases hb)]; exact R1.ex b o hb
          · rcases set_at hk with ⟨rfl, e2, _⟩ | ⟨ne, h'⟩
            · cases e2
            · obtain ⟨v2, e2, w2⟩ := R1.at_ k u h'
              refine ⟨v2, e2, ?_⟩
              have w3 := w2.ext (Ex.refl F1) (H' := upd H1 a (.lst (rs.map V.ref ++ [v]))) fun b u s q => by rw [upd_ne (fun z => ne (R1.dj k j a (by rw [← z]; exact s) sa))]; exact q
              exact w3.sub fun b s => ⟨ne, s⟩
          · obtain ⟨y1, u, y2⟩ := R1.tr k b z.2
            refine ⟨y1, ?_⟩
            by_cases e : b = a
            · subst e; exact ⟨_, upd_same⟩
            · exact ⟨u, by rw [upd_ne e]; exact y2⟩
      · cases e
    · cases e
  · cases e
theorem vw_ow2 {α : Type} {en : α → PyData} {env : En} {j : Nat} {xs : List (List α)} (h : env[j]? = some (some (.ow2 (xs.map fun r => r.map en)))) : vw env (.var j) = some (encL (encL en) xs) := by
  unfold vw
  simp only [h]
  show some (PyData.list _) = some (PyData.list _)
  rw [List.map_map]
  rfl
end Tr
namespace Tr
open PySem PySem.Spec PyProof.Rows L2
/-- what k_head leaves, from the law's def as a plain function that also speaks of the top's own classes (z) -/
theorem walkH {Z : Type} {l : PySem.W.OpenLaw} {n k : Nat} {q : Program} {loose : List Str} {XP : (Str → Option Value) → Heap → Prop} {YP : World → Heap → Prop} {d : DefRec} {K : Params → PySem.W.Frag} {x : Str} {mf : PySem.W.Frag → Z → MF}
    (hn : l.most = some n) (hn2 : n ≤ sizeLine) (hdf : d.params.defaults = []) (room : Room k callerA) (hY : ∀ (w : World) (h : Heap), YP w h → (K w.params).In h)
    (F : ∀ (w : World) (mg : Str → Option Value) (fa : Addr) (h : Heap), (K w.params).In h → h.Ns mainGlobals mg → mg d.name = some (.ref fa) →
      ∃ (z : Z) (fd : FuncData), (∀ (s : Shared) (u : Value), BindsTo s fd ⟨[u], []⟩ [(x, u)]) ∧ ∀ base : Heap, (K w.params).In base → base.Ns mainGlobals mg → FnG l.prog w (K w.params) mg base k fa fd [x] (spOf [] (mf (K w.params) z)))
    (true_ : ∀ (K : PySem.W.Frag) (z : Z) (ns : List Int), ns.length ≤ n → ∃ os, mf K z [.sc K ns] = some (.fz (.bool true), os)) : PySem.W.WalkO q loose XP YP l.row.toRowW d [] (fun f vs => PySem.call f vs) := by
  refine Att.attach_call hn hdf ?_
  intro w s₀ s1 mg mb fa o pm cd doc a vs ns G Y ho hd hcd hmg hobj hints hlen hg
  have KX := hY w _ Y
  obtain ⟨z, fd, bi, hF⟩ := F w mg fa _ KX G.T.g hmg
  refine law_go KX G.T.g G.T.b G.T.builtins G.T.nolimit hg hobj hints (Nat.le_trans hlen hn2) room hF bi ?_
  intro H only hS
  obtain ⟨os, e⟩ := true_ (K w.params) z ns hlen
  refine ⟨H, [.sc (K w.params) ns], fun _ _ => False, _, os, ⟨Ex.refl H, rfl, fun i u z => ?_, fun _ _ _ z => z.elim, fun _ _ z => z.elim⟩, fun _ _ z => z.elim, fun j u z _ => ?_, e, ?_⟩
  · cases i with
    | zero => cases z; exact ⟨_, rfl, a, rfl, hS⟩
    | succ i => simp at z
  · cases j with
    | zero => cases z; rfl
    | succ j => simp at z
  · intro v F' H' Sl' T s R' hs' new
    exact new.own
/-- two functions of other names stand at other places -/
theorem fun_ne {K : PySem.W.Frag} {n q n' q' : Str} {st st' : Stmt} {f f' : Addr} {fd fd' : FuncData} (F : Fun K n q st f fd) (F' : Fun K n' q' st' f' fd') (h : n ≠ n') : f ≠ f' := by
  intro e
  subst e
  obtain ⟨oc, od, kV, doc, pm, an, cdv, ct, osl, h1, h2, h3⟩ := F.ex
  obtain ⟨oc', od', kV', doc', pm', an', cdv', ct', osl', h1', h2', h3'⟩ := F'.ex
  rw [h2] at h2'
  cases h2'
  rw [h1] at h1'
  injection h1' with e1
  exact h e1
/-- a written dict's keys, each with its hash -/
abbrev KeyOk (P : Params) (e : DictEntry) (k : Str) : Prop := (∃ t, e.key = .str k t) ∧ e.hash = PyData.keyHash P k
theorem keys_lit {P : Params} : ∀ {l : List DictEntry} {ks : List Str}, All2 (KeyOk P) l ks → PySem.W.KeysLit P l
  | [], _, _ => trivial
  | e :: r, _, .cons ⟨⟨t, h1⟩, h2⟩ hs => ⟨⟨_, t, h1, h2⟩, keys_lit hs⟩
theorem keys_all {P : Params} : ∀ {l : List DictEntry} {ks : List Str}, All2 (KeyOk P) l ks → All2 (fun (e : DictEntry) (k : Str) => ∃ t, e.key = .str k t) l ks
  | _, _, .nil => .nil
  | _, _, .cons ⟨h1, _⟩ hs => .cons h1 (keys_all hs)
end Tr
namespace Tr
open PySem PySem.Spec PyProof.Rows L2
/-! ### the typed words, as what they mean -/
theorem lt_line {n : Nat} (h : n ≤ 1000000) : n < sizeLine := by show n < 16777216; omega
theorem le_line {n : Nat} (h : n ≤ 1000000) : n ≤ sizeLine := Nat.le_of_lt (lt_line h)
theorem ixN_nat {n k : Nat} (h : k < n) : ixN n (k : Int) = some k := by
  unfold ixN
  rw [if_pos (by omega), if_pos (by omega), Int.toNat_natCast]
theorem atI_nat {α : Type} {xs : List α} {k : Nat} (h : k < xs.length) : atI xs (k : Int) = some xs[k] := by
  unfold atI
  rw [ixN_nat h, Option.bind_some, List.getElem?_eq_getElem h]
theorem atI_get {α : Type} {xs : List α} {k : Nat} {x : α} (h : xs[k]? = some x) : atI xs (k : Int) = some x := by
  obtain ⟨h1, h2⟩ := List.getElem?_eq_some_iff.mp h
  rw [atI_nat h1, h2]
theorem atI_int {α : Type} {xs : List α} {i : Int} (h0 : 0 ≤ i) (h : i < (xs.length : Int)) : atI xs i = some (xs[i.toNat]'(by omega)) := by
  have e : i = ((i.toNat : Nat) : Int) := by omega
  have hk : i.toNat < xs.length := by omega
  have := atI_nat (xs := xs) hk
  rw [← e] at this
  exact this
theorem atI_zero {α : Type} {x : α} {xs : List α} : atI (x :: xs) (0 : Int) = some x := atI_get (k := 0) rfl
theorem appG_of {α : Type} {xs : List α} {x : α} (h : xs.length < sizeLine) : appG xs x = some (xs ++ [x]) := if_pos h
theorem catG_of {α : Type} {xs ys : List α} (h : xs.length + ys.length ≤ sizeLine) : catG xs ys = some (xs ++ ys) := if_pos h
theorem insG_of {α : Type} {xs : List α} {k : Nat} {x : α} (h : xs.length < sizeLine) (hk : k < 2 ^ 63) : insG xs (k : Int) x = some (xs.take k ++ [x] ++ xs.drop k) := by
  unfold insG
  rw [if_pos ⟨h, by omega, by omega⟩, Int.toNat_natCast]
theorem setG_of {α : Type} {xs : List α} {k : Nat} {x : α} (h : k < xs.length) : setG xs (k : Int) x = some (xs.set k x) := by
  unfold setG
  rw [ixN_nat h]
  rfl
theorem sIx_n {n d k : Nat} : HT.sIx n d (some (k : Int)) = min k n := by
  show (if (k : Int) < 0 then ((k : Int) + (n : Int)).toNat else min (k : Int).toNat n) = min k n
  rw [if_neg (by omega), Int.toNat_natCast]
theorem cut_to {α : Type} {xs : List α} {k : Nat} : cutG xs none (some (k : Int)) = xs.take k := by
  unfold cutG
  rw [sIx_n]
  show (xs.drop 0).take (min k xs.length - 0) = _
  rw [List.drop_zero, Nat.sub_zero]
  by_cases h : k ≤ xs.length
  · rw [Nat.min_eq_left h]
  · rw [Nat.min_eq_right (by omega), List.take_of_length_le (Nat.le_refl _), List.take_of_length_le (by omega)]
theorem cut_from {α : Type} {xs : List α} {k : Nat} : cutG xs (some (k : Int)) none = xs.drop k := by
  unfold cutG
  rw [sIx_n]
  show (xs.drop (min k xs.length)).take (xs.length - min k xs.length) = _
  by_cases h : k ≤ xs.length
  · rw [Nat.min_eq_left h, List.take_of_length_le (by rw [List.length_drop]; exact Nat.le_refl _)]
  · rw [Nat.min_eq_right (by omega), List.drop_length, List.drop_of_length_le (by omega), List.take_nil]
theorem cut_one {α : Type} {x : α} {xs : List α} : cutG (x :: xs) (some (1 : Int)) none = xs := cut_from (k := 1)
theorem rng1_of {n : Nat} (h : n < 2 ^ 62) : rng1 (n : Int) = some (rangeL 0 n) := by
  unfold rng1
  rw [if_pos ⟨by omega, by omega⟩, Int.toNat_natCast]
theorem rngV_of {n : Nat} (h : n ≤ 2 ^ 24) : rngV 0 (n : Int) = some (rangeL 0 n) := by
  unfold rngV
  rw [if_pos ⟨⟨by omega, by omega, by omega, by omega⟩, by omega⟩, Int.sub_zero, Int.toNat_natCast]
theorem rangeL_len {lo : Int} {n : Nat} : (rangeL lo n).length = n := by unfold rangeL; simp
theorem rangeL_mem {lo : Int} {n : Nat} {x : Int} : x ∈ rangeL lo n ↔ lo ≤ x ∧ x < lo + n := by
  unfold rangeL
  rw [List.mem_map]
  constructor
  · rintro ⟨k, hk, rfl⟩
    have := List.mem_range.mp hk
    omega
  · rintro ⟨h1, h2⟩
    exact ⟨(x - lo).toNat, List.mem_range.mpr (by omega), by omega⟩
/-! loops -/
theorem forN_nil {α σ : Type} {body : α → σ → Option σ} {s : σ} : forN body [] s = some s := rfl
theorem forN_cons {α σ : Type} {body : α → σ → Option σ} {a : α} {as : List α} {s s' : σ} (h : body a s = some s') : forN body (a :: as) s = forN body as s' := by
  show (body a s).bind _ = _
  rw [h, Option.bind_some]
/-- what each turn makes of the state -/
theorem forN_fold {α σ : Type} {body : α → σ → Option σ} {f : α → σ → σ} (I : σ → Prop) : ∀ (xs : List α) (s : σ), I s → (∀ x ∈ xs, ∀ s, I s → body x s = some (f x s) ∧ I (f x s)) → forN body xs s = some (xs.foldl (fun s x => f x s) s) ∧ I (xs.foldl (fun s x => f x s) s)
  | [], s, hs, _ => ⟨rfl, hs⟩
  | a :: as, s, hs, h => by
    obtain ⟨h1, h2⟩ := h a (List.mem_cons_self ..) s hs
    rw [forN_cons h1]
    exact forN_fold I as _ h2 fun x hx => h x (List.mem_cons_of_mem _ hx)
/-- an invariant that counts the turns -/
theorem forN_inv {α σ : Type} {body : α → σ → Option σ} (I : Nat → σ → Prop) : ∀ (xs : List α) (k : Nat) (s : σ), I k s → (∀ (j : Nat) (x : α) (s : σ), x ∈ xs → xs[j]? = some x → I (k + j) s → ∃ s', body x s = some s' ∧ I (k + j + 1) s') → ∃ s', forN body xs s = some s' ∧ I (k + xs.length) s'
  | [], k, s, hs, _ => ⟨s, rfl, hs⟩
  | a :: as, k, s, hs, h => by
    obtain ⟨s1, h1, h2⟩ := h 0 a s (List.mem_cons_self ..) rfl hs
    obtain ⟨s', h3, h4⟩ := forN_inv I as (k + 1) s1 h2 fun j x s hx hj hi => by
      have e : k + 1 + j = k + (j + 1) := by omega
      rw [e] at hi ⊢
      exact h (j + 1) x s (List.mem_cons_of_mem _ hx) (by simpa using hj) hi
    refine ⟨s', (forN_cons h1).trans h3, ?_⟩
    have e : k + (a :: as).length = k + 1 + as.length := by simp; omega
    rw [e]
    exact h4
/-- a while: I holds at each test, μ goes down, R tells the end from here -/
theorem whN_run {σ : Type} {cond : σ → Option (Bool × σ)} {body : σ → Option σ} (I : σ → Prop) (μ : σ → Nat) (R : σ → σ → Prop)
    (h : ∀ s, I s → (∃ s', cond s = some (false, s') ∧ R s s') ∨ ∃ s1 s2, cond s = some (true, s1) ∧ body s1 = some s2 ∧ I s2 ∧ μ s2 < μ s ∧ ∀ s3, R s2 s3 → R s s3) : ∀ (n : Nat) (s : σ), I s → μ s < n → ∃ s', whN cond body n s = some s' ∧ R s s'
  | 0, _, _, hn => absurd hn (Nat.not_lt_zero _)
  | n + 1, s, hi, hn => by
    show ∃ s', ((cond s).bind fun r => if r.1 = true then (body r.2).bind (whN cond body n) else some r.2) = some s' ∧ R s s'
    rcases h s hi with ⟨s', h1, h2⟩ | ⟨s1, s2, h1, h2, h3, h4, h5⟩
    · exact ⟨s', by rw [h1]; rfl, h2⟩
    · obtain ⟨s', h6, h7⟩ := whN_run I μ R h n s2 h3 (by omega)
      exact ⟨s', by rw [h1, Option.bind_some, if_pos rfl, h2, Option.bind_some]; exact h6, h5 _ h7⟩
theorem whR_run {ρ σ : Type} {cond : σ → Option (Bool × σ)} {body : σ → Option (Rs ρ σ)} (I : σ → Prop) (μ : σ → Nat) (R : σ → Rs ρ σ → Prop)
    (h : ∀ s, I s → (∃ s', cond s = some (false, s') ∧ R s (.nx s')) ∨ ∃ s1, cond s = some (true, s1) ∧ ((∃ s2, body s1 = some (.nx s2) ∧ I s2 ∧ μ s2 < μ s ∧ ∀ s3, R s2 s3 → R s s3) ∨ (∃ s2, body s1 = some (.bk s2) ∧ R s (.nx s2)) ∨ ∃ r, body s1 = some (.rt r) ∧ R s (.rt r))) : ∀ (n : Nat) (s : σ), I s → μ s < n → ∃ s', whR cond body n s = some s' ∧ R s s'
  | 0, _, _, hn => absurd hn (Nat.not_lt_zero _)
  | n + 1, s, hi, hn => by
    unfold whR
    rcases h s hi with ⟨s', h1, h2⟩ | ⟨s1, h1, ⟨s2, h2, h3, h4, h5⟩ | ⟨s2, h2, h3⟩ | ⟨r, h2, h3⟩⟩
    · exact ⟨_, by rw [h1]; rfl, h2⟩
    · obtain ⟨s', h6, h7⟩ := whR_run I μ R h n s2 h3 (by omega)
      exact ⟨s', by rw [h1, Option.bind_some, if_pos rfl, h2, Option.bind_some]; exact h6, h5 _ h7⟩
    · exact ⟨_, by rw [h1, Option.bind_some, if_pos rfl, h2, Option.bind_some], h3⟩
    · exact ⟨_, by rw [h1, Option.bind_some, if_pos rfl, h2, Option.bind_some], h3⟩
/-! a rule as a table; what a sort asks of it -/
abbrev Log : Type := List (Int × Int)
structure Sq (r : List (List Int)) (n : Nat) : Prop where
  len : r.length = n
  row : ∀ x ∈ r, x.length = n
def InR (n : Nat) (x : Int) : Prop := 0 ≤ x ∧ x < n
def ansN (r : List (List Int)) (x y : Int) : Int := (r.getD x.toNat []).getD y.toNat 0
def bef (r : List (List Int)) (x y : Int) : Bool := decide (ansN r x y = -1)
theorem ans_at {r : List (List Int)} {n : Nat} {x y : Int} (h : Sq r n) (hx : InR n x) (hy : InR n y) : (atI r x).bind (fun row => (atI row y).map fun z => (row, z)) = some (r.getD x.toNat [], ansN r x y) := by
  have l1 : x < (r.length : Int) := by rw [h.len]; exact hx.2
  have k1 : x.toNat < r.length := by have := hx.1; omega
  rw [atI_int hx.1 l1, Option.bind_some]
  have l2 : (r[x.toNat]).length = n := h.row _ (List.getElem_mem _)
  have l3 : y < ((r[x.toNat]).length : Int) := by rw [l2]; exact hy.2
  have k2 : y.toNat < (r[x.toNat]).length := by have := hy.1; omega
  rw [atI_int hy.1 l3, Option.map_some]
  unfold ansN
  rw [List.getD_eq_getElem?_getD, List.getElem?_eq_getElem k1, Option.getD_some, List.getD_eq_getElem?_getD, List.getElem?_eq_getElem k2, Option.getD_some]
end Tr
namespace My
open PySem PySem.Spec PyProof.Rows L2 Tr
/-! the text: which statement of the top each def is -/
def topS (i : Nat) : Stmt := PySem.Challenge.pw_knotsorts_k60_rules_as_texts.main.body.getD i (.Pass ⟨0, 0, 0, 0⟩)
abbrev s_is_whole : Stmt := topS 4
theorem sc_is_whole : FnScope ["thing"] ["thing"] (defScope s_is_whole) := ⟨rfl, rfl, rfl, by decide +kernel, rfl, by decide +kernel, by decide +kernel⟩
abbrev s_is_answer : Stmt := topS 5
theorem sc_is_answer : FnScope ["thing"] ["thing"] (defScope s_is_answer) := ⟨rfl, rfl, rfl, by decide +kernel, rfl, by decide +kernel, by decide +kernel⟩
abbrev s_check_rule : Stmt := topS 6
theorem sc_check_rule : FnScope ["rule", "size", "item", "row", "other", "answer"] ["rule"] (defScope s_check_rule) := ⟨rfl, rfl, rfl, by decide +kernel, rfl, by decide +kernel, by decide +kernel⟩
abbrev s_square_of_zeros : Stmt := topS 9
theorem sc_square_of_zeros : FnScope ["size", "_"] ["size"] (defScope s_square_of_zeros) := ⟨rfl, rfl, rfl, by decide +kernel, rfl, by decide +kernel, by decide +kernel⟩
abbrev s_item_pairs : Stmt := topS 12
theorem sc_item_pairs : FnScope ["size", "x", "y"] ["size"] (defScope s_item_pairs) := ⟨rfl, rfl, rfl, by decide +kernel, rfl, by decide +kernel, by decide +kernel⟩
abbrev s_pair_line : Stmt := topS 13
theorem sc_pair_line : FnScope ["x", "y", "answer"] ["x", "y", "answer"] (defScope s_pair_line) := ⟨rfl, rfl, rfl, by decide +kernel, rfl, by decide +kernel, by decide +kernel⟩
abbrev s_format_rule : Stmt := topS 14
theorem sc_format_rule : FnScope ["rule", "lines", "x", "y"] ["rule"] (defScope s_format_rule) := ⟨rfl, rfl, rfl, by decide +kernel, rfl, by decide +kernel, by decide +kernel⟩
abbrev s_parse_size : Stmt := topS 15
theorem sc_parse_size : FnScope ["line", "size"] ["line"] (defScope s_parse_size) := ⟨rfl, rfl, rfl, by decide +kernel, rfl, by decide +kernel, by decide +kernel⟩
abbrev s_parse_answer : Stmt := topS 16
theorem sc_parse_answer : FnScope ["line", "x", "y", "answer"] ["line", "x", "y"] (defScope s_parse_answer) := ⟨rfl, rfl, rfl, by decide +kernel, rfl, by decide +kernel, by decide +kernel⟩
abbrev s_parse_rule : Stmt := topS 17
theorem sc_parse_rule : FnScope ["text", "lines", "size", "rule", "pairs", "number", "answer", "x", "y"] ["text"] (defScope s_parse_rule) := ⟨rfl, rfl, rfl, by decide +kernel, rfl, by decide +kernel, by decide +kernel⟩
abbrev s__law_draws : Stmt := topS 19
theorem sc__law_draws : FnScope ["cell"] ["cell"] (defScope s__law_draws) := ⟨rfl, rfl, rfl, by decide +kernel, rfl, by decide +kernel, by decide +kernel⟩
abbrev s__law_next : Stmt := topS 20
theorem sc__law_next : FnScope ["draws", "k", "number"] ["draws"] (defScope s__law_next) := ⟨rfl, rfl, rfl, by decide +kernel, rfl, by decide +kernel, by decide +kernel⟩
abbrev s__law_rule : Stmt := topS 21
theorem sc__law_rule : FnScope ["draws", "size", "kind", "told", "worths", "one", "other", "item", "answer", "near"] ["draws", "size"] (defScope s__law_rule) := ⟨rfl, rfl, rfl, by decide +kernel, rfl, by decide +kernel, by decide +kernel⟩
abbrev s__law_text : Stmt := topS 22
theorem sc__law_text : FnScope ["a_rule", "lines", "one", "other"] ["a_rule"] (defScope s__law_text) := ⟨rfl, rfl, rfl, by decide +kernel, rfl, by decide +kernel, by decide +kernel⟩
abbrev s__law_refused : Stmt := topS 23
theorem sc__law_refused : FnScope ["thing", "item", "kept", "e"] ["thing", "item"] (defScope s__law_refused) := ⟨rfl, rfl, rfl, by decide +kernel, rfl, by decide +kernel, by decide +kernel⟩
abbrev s__law_right : Stmt := topS 24
theorem sc__law_right : FnScope ["draws", "a_rule", "kept", "due", "told", "other", "first", "answers"] ["draws"] (defScope s__law_right) := ⟨rfl, rfl, rfl, by decide +kernel, rfl, by decide +kernel, by decide +kernel⟩
abbrev s_law : Stmt := topS 25
theorem sc_law : FnScope ["script", "cell", "draws", "turn"] ["script"] (defScope s_law) := ⟨rfl, rfl, rfl, by decide +kernel, rfl, by decide +kernel, by decide +kernel⟩
def fld : Nat → Str
  | 0 => "item"
  | _ => ""
def clOf (ca : Nat → Addr) : Cl := fun n => (ca n, fld n)
abbrev s_I_InvalidRule : Stmt := inClass (topS 1) 0
theorem sc_I_InvalidRule : FnScope ["self", "item"] ["self", "item"] (defScope s_I_InvalidRule) := ⟨rfl, rfl, rfl, by decide +kernel, rfl, by decide +kernel, by decide +kernel⟩
structure Tx (K : PySem.W.Frag) (mg : Str → Option Value) (ad : Nat → Addr) (fd : Nat → FuncData) (w : World) (ca ia : Nat → Addr) (ifd : Nat → FuncData) : Prop where
  F_is_whole : Fun K "is_whole" "is_whole" s_is_whole (ad 0) (fd 0)
  g_is_whole : mg "is_whole" = some (.ref (ad 0))
  b_is_whole : Binds K (fd 0) ["thing"] []
  F_is_answer : Fun K "is_answer" "is_answer" s_is_answer (ad 1) (fd 1)
  g_is_answer : mg "is_answer" = some (.ref (ad 1))
  b_is_answer : Binds K (fd 1) ["thing"] []
  F_check_rule : Fun K "check_rule" "check_rule" s_check_rule (ad 2) (fd 2)
  g_check_rule : mg "check_rule" = some (.ref (ad 2))
  b_check_rule : Binds K (fd 2) ["rule"] []
  F_square_of_zeros : Fun K "square_of_zeros" "square_of_zeros" s_square_of_zeros (ad 3) (fd 3)
  g_square_of_zeros : mg "square_of_zeros" = some (.ref (ad 3))
  b_square_of_zeros : Binds K (fd 3) ["size"] []
  F_item_pairs : Fun K "item_pairs" "item_pairs" s_item_pairs (ad 4) (fd 4)
  g_item_pairs : mg "item_pairs" = some (.ref (ad 4))
  b_item_pairs : Binds K (fd 4) ["size"] []
  F_pair_line : Fun K "pair_line" "pair_line" s_pair_line (ad 5) (fd 5)
  g_pair_line : mg "pair_line" = some (.ref (ad 5))
  b_pair_line : Binds K (fd 5) ["x", "y", "answer"] []
  F_format_rule : Fun K "format_rule" "format_rule" s_format_rule (ad 6) (fd 6)
  g_format_rule : mg "format_rule" = some (.ref (ad 6))
  b_format_rule : Binds K (fd 6) ["rule"] []
  F_parse_size : Fun K "parse_size" "parse_size" s_parse_size (ad 7) (fd 7)
  g_parse_size : mg "parse_size" = some (.ref (ad 7))
  b_parse_size : Binds K (fd 7) ["line"] []
  F_parse_answer : Fun K "parse_answer" "parse_answer" s_parse_answer (ad 8) (fd 8)
  g_parse_answer : mg "parse_answer" = some (.ref (ad 8))
  b_parse_answer : Binds K (fd 8) ["line", "x", "y"] []
  F_parse_rule : Fun K "parse_rule" "parse_rule" s_parse_rule (ad 9) (fd 9)
  g_parse_rule : mg "parse_rule" = some (.ref (ad 9))
  b_parse_rule : Binds K (fd 9) ["text"] []
  F__law_draws : Fun K "_law_draws" "_law_draws" s__law_draws (ad 10) (fd 10)
  g__law_draws : mg "_law_draws" = some (.ref (ad 10))
  b__law_draws : Binds K (fd 10) ["cell"] []
  F__law_next : Fun K "_law_next" "_law_next" s__law_next (ad 11) (fd 11)
  g__law_next : mg "_law_next" = some (.ref (ad 11))
  b__law_next : Binds K (fd 11) ["draws"] []
  F__law_rule : Fun K "_law_rule" "_law_rule" s__law_rule (ad 12) (fd 12)
  g__law_rule : mg "_law_rule" = some (.ref (ad 12))
  b__law_rule : Binds K (fd 12) ["draws", "size"] []
  F__law_text : Fun K "_law_text" "_law_text" s__law_text (ad 13) (fd 13)
  g__law_text : mg "_law_text" = some (.ref (ad 13))
  b__law_text : Binds K (fd 13) ["a_rule"] []
  F__law_refused : Fun K "_law_refused" "_law_refused" s__law_refused (ad 14) (fd 14)
  g__law_refused : mg "_law_refused" = some (.ref (ad 14))
  b__law_refused : Binds K (fd 14) ["thing", "item"] []
  F__law_right : Fun K "_law_right" "_law_right" s__law_right (ad 15) (fd 15)
  g__law_right : mg "_law_right" = some (.ref (ad 15))
  b__law_right : Binds K (fd 15) ["draws"] []
  F_law : Fun K "law" "law" s_law (ad 16) (fd 16)
  g_law : mg "law" = some (.ref (ad 16))
  b_law : Binds K (fd 16) ["script"] []
  b_ValueError : mg "ValueError" = none
  b_abs : mg "abs" = none
  b_all : mg "all" = none
  b_bool : mg "bool" = none
  b_enumerate : mg "enumerate" = none
  b_int : mg "int" = none
  b_isinstance : mg "isinstance" = none
  b_len : mg "len" = none
  b_list : mg "list" = none
  b_range : mg "range" = none
  b_repr : mg "repr" = none
  b_str : mg "str" = none
  c_MOST_ITEMS : ∃ t, mg "MOST_ITEMS" = some (.int 12 t)
  c_SIGNS : ∃ t, mg "SIGNS" = some (.str (Str.ofString "<=>") t)
  vV : PySem.W.findCls K (.type "ValueError") (.type "type") "__init__" = some (.val (.builtin "ValueError.__init__"))
  O_InvalidRule : OexC K (ca 0)
  iC_InvalidRule : PySem.W.findIn K (.ref (ca 0)) "__init__" = some (some (.ref (ia 0)))
  tI_InvalidRule : PySem.W.typeIn K (.ref (ia 0)) = some (.type "function")
  I_InvalidRule : Fun K "__init__" "InvalidRule.__init__" s_I_InvalidRule (ia 0) (ifd 0)
  bI_InvalidRule : Binds K (ifd 0) ["self", "item"] []
  gC_InvalidRule : mg "InvalidRule" = some (.ref (ca 0))
  noF_InvalidRule : PySem.W.findIn K (.ref (ca 0)) "item" = some none
  kc_InvalidRule : KcC K (ca 0) "item"
  ex_InvalidRule : PySem.W.exmOne K (.ref (ca 0)) (.ref (ca 0)) = some true
  kt_InvalidRule : PySem.W.kitOne K (.ref (ca 0)) (.type "ValueError") = some true
section
variable {P : Program} {w : World} {K : PySem.W.Frag} {mg : Str → Option Value} {base : Heap} {ad : Nat → Addr} {fd : Nat → FuncData} {ca ia : Nat → Addr} {ifd : Nat → FuncData}
theorem oki_InvalidRule (T : Tx K mg ad fd w ca ia ifd) : FnOk P w K mg base CX0 1 (ia 0) (ifd 0) ["self", "item"] (spI "item" (ca 0)) := by
  refine T.I_InvalidRule.ok sc_I_InvalidRule (fun vs H Q E h => by obtain ⟨a, v, rfl, _⟩ := h; rfl) (fun cdv A ou s H vs Q E hr h => ⟨_, pss_cons (ps_expr (pe_veinit (by rfl) T.b_ValueError T.vV (pa_cons (pv 0) (pa_cons pe_str pa_nil)))) (pss_one (ps_ost (pv 0) (pv 1))), ?_⟩)
  exact init_read rfl T.O_InvalidRule T.noF_InvalidRule h
def m_is_whole : MF := mDef 1 1 []
    (mRet (mAndV (mIsi "int" (mVar 0)) (mNotV (mIsi "bool" (mVar 0)))))
theorem ok_is_whole (T : Tx K mg ad fd w ca ia ifd) : FnG P w K mg base 1 (ad 0) (fd 0) ["thing"] (spOf [] m_is_whole) := by
  refine okG T.F_is_whole sc_is_whole (fun vs H Q E h => by_len h) (fun cdv A ou s H vs Q E hr gu h => ⟨_, (pss_one (ps_ret (pe_and (pe_callB (isiK (K := K)) (by rfl) T.b_isinstance (by decide +kernel) (pa_cons (pv 0) (pa_cons (pe_bltn (v := .ty "int") (by rfl) T.b_int (by decide +kernel) rfl) pa_nil))) (pe_one (pe_not (pe_callB (isiK (K := K)) (by rfl) T.b_isinstance (by decide +kernel) (pa_cons (pv 0) (pa_cons (pe_bltn (v := .ty "bool") (by rfl) T.b_bool (by decide +kernel) rfl) pa_nil)))))))), ?_⟩)
  exact def_ok (N := ["thing"]) (m := (mRet (mAndV (mIsi "int" (mVar 0)) (mNotV (mIsi "bool" (mVar 0)))))) ((rs_ret (re_andV (re_isi "int" re_var) (re_notV (re_isi "bool" re_var))))) h
def m_is_answer : MF := mDef 1 1 []
    (mRet (mAndV (mFz (mCall [] m_is_whole (mCons (mVar 0) mNil))) (mChain (gI0 fun i j => .bool (decide (i ≤ j))) (gI0 fun i j => .bool (decide (i ≤ j))) (mUn gNeg (mC (.int 1))) (mVar 0) (mC (.int 1)))))
theorem ok_is_answer (T : Tx K mg ad fd w ca ia ifd) : FnG P w K mg base 2 (ad 1) (fd 1) ["thing"] (spOf [] m_is_answer) := by
  refine okG T.F_is_answer sc_is_answer (fun vs H Q E h => by_len h) (fun cdv A ou s H vs Q E hr gu h => ⟨_, (pss_one (ps_ret (pe_and (pe_callG (ok_is_whole T) (hr.mono (by decide)) gu (by rfl) T.g_is_whole T.F_is_whole.kp T.b_is_whole .nil (pa_cons (pv 0) pa_nil)) (pe_one (pe_chain op_le op_le (pe_un un_neg pe_int) (pv 0) pe_int))))), ?_⟩)
  exact def_ok (N := ["thing"]) (m := (mRet (mAndV (mFz (mCall [] m_is_whole (mCons (mVar 0) mNil))) (mChain (gI0 fun i j => .bool (decide (i ≤ j))) (gI0 fun i j => .bool (decide (i ≤ j))) (mUn gNeg (mC (.int 1))) (mVar 0) (mC (.int 1)))))) ((rs_ret (re_andV (re_o (ro_call (ra_cons re_var ra_nil))) (re_chain b_le b_le (re_un re_int u_neg) re_var re_int)))) h
def m_check_rule : MF := mDef 6 1 []
    (mSeq (mIf (mOr (mNot (mT (mIsi "list" (mVar 0)))) (mNot (mT (mFn gAll (mCons (mLE (mLc (mItL (mVar 0)) (mgN 3) mYes (mIsi "list" (mVar 3)) [3])) mNil))))) mNever mNext)
    (mSeq (mAsg (mFn gLen (mCons (mVar 0) mNil)) (mgN 1))
    (mSeq (mFor (mEnum (mCons (mVar 0) mNil)) (mgT [2, 3]) (mIf (mOr (mT (mBin (gEq true) (mFn gLen (mCons (mVar 3) mNil)) (mVar 1))) (mNot (mT (mFn gAll (mCons (mLE (mLc (mItL (mVar 3)) (mgN 5) mYes (mFz (mCall [] m_is_answer (mCons (mVar 5) mNil))) [5])) mNil))))) mNever mNext))
    (mFor (mEnum (mCons (mVar 0) mNil)) (mgT [2, 3]) (mFor (mEnum (mCons (mVar 3) mNil)) (mgT [4, 5]) (mIf (mT (mBin (gEq true) (mVar 5) (mUn gNeg (mBin gIx (mBin gIx (mVar 0) (mVar 4)) (mVar 2))))) mNever mNext))))))
theorem ok_check_rule (T : Tx K mg ad fd w ca ia ifd) : FnG P w K mg base 3 (ad 2) (fd 2) ["rule"] (spOf [] m_check_rule) := by
  refine okG T.F_check_rule sc_check_rule (fun vs H Q E h => by_len h) (fun cdv A ou s H vs Q E hr gu h => ⟨_, (pss_cons (ps_if (PW.pt (pw_or (pt_not (pt_val (pe_callB (isiK (K := K)) (by rfl) T.b_isinstance (by decide +kernel) (pa_cons (pv 0) (pa_cons (pe_bltn (v := .ty "list") (by rfl) T.b_list (by decide +kernel) rfl) pa_nil))))) (pw_or1 (pt_not (pt_val (pe_callB (allK (K := K) rfl) (by rfl) T.b_all (by decide +kernel) (pa_cons (pe_lc (own := [("row", 3)]) (g := gName 3) (tt := tYes) rfl sc_check_rule.nd (pi_listK (K := K) (pv 0)) (blkOk_by (own := [("row", 3)]) (by kernel_rfl)) (fun _ _ _ _ _ => (pg_name (i := 3) sc_check_rule.nd rfl (Or.inl rfl))) (fun _ _ _ _ _ => pts_nil) (fun _ _ _ _ _ => (pe_callB (isiK (K := K)) (by rfl) T.b_isinstance (by decide +kernel) (pa_cons (pv 3) (pa_cons (pe_bltn (v := .ty "list") (by rfl) T.b_list (by decide +kernel) rfl) pa_nil))))) pa_nil))))))) (pss_one ps_never) pss_nil)
      (pss_cons (ps_set (i := 1) sc_check_rule.nd rfl (Or.inl rfl) (pe_callB (lenK (K := K)) (by rfl) T.b_len PySem.boot_len (pa_cons (pv 0) pa_nil)))
      (pss_cons (ps_for PassesOwn.never rfl (pi_enumK (K := K) (by rfl) T.b_enumerate (pa_cons (pv 0) pa_nil)) (pg_tupK (K := K) rfl (pgs_cons (pg_name (i := 2) sc_check_rule.nd rfl (Or.inl rfl)) (pgs_cons (pg_name (i := 3) sc_check_rule.nd rfl (Or.inl rfl)) pgs_nil))) (pss_one (ps_if (PW.pt (pw_or (pt_cmpR (neK (K := K) hr.units) (pe_callB (lenK (K := K)) (by rfl) T.b_len PySem.boot_len (pa_cons (pv 3) pa_nil)) (pv 1) (nomark _)) (pw_or1 (pt_not (pt_val (pe_callB (allK (K := K) rfl) (by rfl) T.b_all (by decide +kernel) (pa_cons (pe_lc (own := [("answer", 5)]) (g := gName 5) (tt := tYes) rfl sc_check_rule.nd (pi_listK (K := K) (pv 3)) (blkOk_by (own := [("answer", 5)]) (by kernel_rfl)) (fun _ _ _ _ _ => (pg_name (i := 5) sc_check_rule.nd rfl (Or.inl rfl))) (fun _ _ _ _ _ => pts_nil) (fun _ _ _ _ _ => (pe_callG (ok_is_answer T) (hr.mono (by decide)) gu (by rfl) T.g_is_answer T.F_is_answer.kp T.b_is_answer .nil (pa_cons (pv 5) pa_nil)))) pa_nil))))))) (pss_one ps_never) pss_nil)))
      (pss_one (ps_for PassesOwn.never rfl (pi_enumK (K := K) (by rfl) T.b_enumerate (pa_cons (pv 0) pa_nil)) (pg_tupK (K := K) rfl (pgs_cons (pg_name (i := 2) sc_check_rule.nd rfl (Or.inl rfl)) (pgs_cons (pg_name (i := 3) sc_check_rule.nd rfl (Or.inl rfl)) pgs_nil))) (pss_one (ps_for PassesOwn.never rfl (pi_enumK (K := K) (by rfl) T.b_enumerate (pa_cons (pv 3) pa_nil)) (pg_tupK (K := K) rfl (pgs_cons (pg_name (i := 4) sc_check_rule.nd rfl (Or.inl rfl)) (pgs_cons (pg_name (i := 5) sc_check_rule.nd rfl (Or.inl rfl)) pgs_nil))) (pss_one (ps_if (pt_cmpR (neK (K := K) hr.units) (pv 5) (pe_un un_neg (pe_ix (ixK (K := K)) (pe_ix (ixK (K := K)) (pv 0) (pv 4) (fun _ _ => rfl)) (pv 2) (fun _ _ => rfl))) (nomark _)) (pss_one ps_never) pss_nil))))))))), ?_⟩)
  exact def_ok (N := ["rule", "size", "item", "row", "other", "answer"]) (m := (mSeq (mIf (mOr (mNot (mT (mIsi "list" (mVar 0)))) (mNot (mT (mFn gAll (mCons (mLE (mLc (mItL (mVar 0)) (mgN 3) mYes (mIsi "list" (mVar 3)) [3])) mNil))))) mNever mNext)
    (mSeq (mAsg (mFn gLen (mCons (mVar 0) mNil)) (mgN 1))
    (mSeq (mFor (mEnum (mCons (mVar 0) mNil)) (mgT [2, 3]) (mIf (mOr (mT (mBin (gEq true) (mFn gLen (mCons (mVar 3) mNil)) (mVar 1))) (mNot (mT (mFn gAll (mCons (mLE (mLc (mItL (mVar 3)) (mgN 5) mYes (mFz (mCall [] m_is_answer (mCons (mVar 5) mNil))) [5])) mNil))))) mNever mNext))
    (mFor (mEnum (mCons (mVar 0) mNil)) (mgT [2, 3]) (mFor (mEnum (mCons (mVar 3) mNil)) (mgT [4, 5]) (mIf (mT (mBin (gEq true) (mVar 5) (mUn gNeg (mBin gIx (mBin gIx (mVar 0) (mVar 4)) (mVar 2))))) mNever mNext))))))) ((rs_seq (rs_if (rt_or (rt_not (rt_B (re_isi "list" re_var))) (rt_not (rt_B (re_fn (ra_cons (re_lc (ri_list re_var) rg_name rt_yes (re_isi "list" re_var)) ra_nil) f_all)))) rs_never rs_next)
      (rs_seq (rs_asg (re_fn (ra_cons re_var ra_nil) f_len) rg_name)
      (rs_seq (rs_for (ri_enum (ra_cons re_var ra_nil)) (rg_tup (rgs_cons (rgs_cons rgs_nil))) (rs_if (rt_or (rt_test (re_bin (re_fn (ra_cons re_var ra_nil) f_len) re_var b_ne)) (rt_not (rt_B (re_fn (ra_cons (re_lc (ri_list re_var) rg_name rt_yes (re_o (ro_call (ra_cons re_var ra_nil)))) ra_nil) f_all)))) rs_never rs_next))
      (rs_for (ri_enum (ra_cons re_var ra_nil)) (rg_tup (rgs_cons (rgs_cons rgs_nil))) (rs_for (ri_enum (ra_cons re_var ra_nil)) (rg_tup (rgs_cons (rgs_cons rgs_nil))) (rs_if (rt_test (re_bin re_var (re_un (re_bin (re_bin re_var re_var b_ix) re_var b_ix) u_neg) b_ne)) rs_never rs_next))))))) h
def x_check_rule : XF := xDef 6 1
    (xSeq (mIf (mOr (mNot (mT (mIsi "list" (mVar 0)))) (mNot (mT (mFn gAll (mCons (mLE (mLc (mItL (mVar 0)) (mgN 3) mYes (mIsi "list" (mVar 3)) [3])) mNil))))) (xRaise 0 (mCons (mC .none) mNil)) (xLift mNext))
    (xSeq (xLift (mAsg (mFn gLen (mCons (mVar 0) mNil)) (mgN 1)))
    (xSeq (xFor (mEnum (mCons (mVar 0) mNil)) (mgT [2, 3]) (mIf (mOr (mT (mBin (gEq true) (mFn gLen (mCons (mVar 3) mNil)) (mVar 1))) (mNot (mT (mFn gAll (mCons (mLE (mLc (mItL (mVar 3)) (mgN 5) mYes (mFz (mCall [] m_is_answer (mCons (mVar 5) mNil))) [5])) mNil))))) (xRaise 0 (mCons (mVar 2) mNil)) (xLift mNext)))
    (xFor (mEnum (mCons (mVar 0) mNil)) (mgT [2, 3]) (xFor (mEnum (mCons (mVar 3) mNil)) (mgT [4, 5]) (mIf (mT (mBin (gEq true) (mVar 5) (mUn gNeg (mBin gIx (mBin gIx (mVar 0) (mVar 4)) (mVar 2))))) (xRaise 0 (mCons (mVar 2) mNil)) (xLift mNext)))))))
theorem okx_check_rule (T : Tx K mg ad fd w ca ia ifd) : FnX P w K mg base 3 (ad 2) (fd 2) ["rule"] (spX (clOf ca) x_check_rule) := by
  refine okX T.F_check_rule sc_check_rule (fun vs H Q E h => byX_len h) (fun cdv A ou s H vs Q E hr gu h => ⟨_, (pss_cons (ps_if (PW.pt (pw_or (pt_not (pt_val (pe_callB (isiK (K := K)) (by rfl) T.b_isinstance (by decide +kernel) (pa_cons (pv 0) (pa_cons (pe_bltn (v := .ty "list") (by rfl) T.b_list (by decide +kernel) rfl) pa_nil))))) (pw_or1 (pt_not (pt_val (pe_callB (allK (K := K) rfl) (by rfl) T.b_all (by decide +kernel) (pa_cons (pe_lc (own := [("row", 3)]) (g := gName 3) (tt := tYes) rfl sc_check_rule.nd (pi_listK (K := K) (pv 0)) (blkOk_by (own := [("row", 3)]) (by kernel_rfl)) (fun _ _ _ _ _ => (pg_name (i := 3) sc_check_rule.nd rfl (Or.inl rfl))) (fun _ _ _ _ _ => pts_nil) (fun _ _ _ _ _ => (pe_callB (isiK (K := K)) (by rfl) T.b_isinstance (by decide +kernel) (pa_cons (pv 3) (pa_cons (pe_bltn (v := .ty "list") (by rfl) T.b_list (by decide +kernel) rfl) pa_nil))))) pa_nil))))))) (pss_one (ps_raise rfl (takes_of rfl rfl rfl rfl) (pmk_oex T.O_InvalidRule T.iC_InvalidRule T.tI_InvalidRule (oki_InvalidRule T) (hr.mono (by decide)) T.bI_InvalidRule .nil pass0 (by rfl) T.gC_InvalidRule (pa_cons pe_non pa_nil)))) pss_nil)
      (pss_cons (ps_set (i := 1) sc_check_rule.nd rfl (Or.inl rfl) (pe_callB (lenK (K := K)) (by rfl) T.b_len PySem.boot_len (pa_cons (pv 0) pa_nil)))
      (pss_cons (ps_for (passes_of rfl) rfl (pi_enumK (K := K) (by rfl) T.b_enumerate (pa_cons (pv 0) pa_nil)) (pg_tupK (K := K) rfl (pgs_cons (pg_name (i := 2) sc_check_rule.nd rfl (Or.inl rfl)) (pgs_cons (pg_name (i := 3) sc_check_rule.nd rfl (Or.inl rfl)) pgs_nil))) (pss_one (ps_if (PW.pt (pw_or (pt_cmpR (neK (K := K) hr.units) (pe_callB (lenK (K := K)) (by rfl) T.b_len PySem.boot_len (pa_cons (pv 3) pa_nil)) (pv 1) (nomark _)) (pw_or1 (pt_not (pt_val (pe_callB (allK (K := K) rfl) (by rfl) T.b_all (by decide +kernel) (pa_cons (pe_lc (own := [("answer", 5)]) (g := gName 5) (tt := tYes) rfl sc_check_rule.nd (pi_listK (K := K) (pv 3)) (blkOk_by (own := [("answer", 5)]) (by kernel_rfl)) (fun _ _ _ _ _ => (pg_name (i := 5) sc_check_rule.nd rfl (Or.inl rfl))) (fun _ _ _ _ _ => pts_nil) (fun _ _ _ _ _ => (pe_callG (ok_is_answer T) (hr.mono (by decide)) gu (by rfl) T.g_is_answer T.F_is_answer.kp T.b_is_answer .nil (pa_cons (pv 5) pa_nil)))) pa_nil))))))) (pss_one (ps_raise rfl (takes_of rfl rfl rfl rfl) (pmk_oex T.O_InvalidRule T.iC_InvalidRule T.tI_InvalidRule (oki_InvalidRule T) (hr.mono (by decide)) T.bI_InvalidRule .nil pass0 (by rfl) T.gC_InvalidRule (pa_cons (pv 2) pa_nil)))) pss_nil)))
      (pss_one (ps_for (passes_of rfl) rfl (pi_enumK (K := K) (by rfl) T.b_enumerate (pa_cons (pv 0) pa_nil)) (pg_tupK (K := K) rfl (pgs_cons (pg_name (i := 2) sc_check_rule.nd rfl (Or.inl rfl)) (pgs_cons (pg_name (i := 3) sc_check_rule.nd rfl (Or.inl rfl)) pgs_nil))) (pss_one (ps_for (passes_of rfl) rfl (pi_enumK (K := K) (by rfl) T.b_enumerate (pa_cons (pv 3) pa_nil)) (pg_tupK (K := K) rfl (pgs_cons (pg_name (i := 4) sc_check_rule.nd rfl (Or.inl rfl)) (pgs_cons (pg_name (i := 5) sc_check_rule.nd rfl (Or.inl rfl)) pgs_nil))) (pss_one (ps_if (pt_cmpR (neK (K := K) hr.units) (pv 5) (pe_un un_neg (pe_ix (ixK (K := K)) (pe_ix (ixK (K := K)) (pv 0) (pv 4) (fun _ _ => rfl)) (pv 2) (fun _ _ => rfl))) (nomark _)) (pss_one (ps_raise rfl (takes_of rfl rfl rfl rfl) (pmk_oex T.O_InvalidRule T.iC_InvalidRule T.tI_InvalidRule (oki_InvalidRule T) (hr.mono (by decide)) T.bI_InvalidRule .nil pass0 (by rfl) T.gC_InvalidRule (pa_cons (pv 2) pa_nil)))) pss_nil))))))))), ?_⟩)
  exact def_okX (N := ["rule", "size", "item", "row", "other", "answer"]) (m := (xSeq (mIf (mOr (mNot (mT (mIsi "list" (mVar 0)))) (mNot (mT (mFn gAll (mCons (mLE (mLc (mItL (mVar 0)) (mgN 3) mYes (mIsi "list" (mVar 3)) [3])) mNil))))) (xRaise 0 (mCons (mC .none) mNil)) (xLift mNext))
    (xSeq (xLift (mAsg (mFn gLen (mCons (mVar 0) mNil)) (mgN 1)))
    (xSeq (xFor (mEnum (mCons (mVar 0) mNil)) (mgT [2, 3]) (mIf (mOr (mT (mBin (gEq true) (mFn gLen (mCons (mVar 3) mNil)) (mVar 1))) (mNot (mT (mFn gAll (mCons (mLE (mLc (mItL (mVar 3)) (mgN 5) mYes (mFz (mCall [] m_is_answer (mCons (mVar 5) mNil))) [5])) mNil))))) (xRaise 0 (mCons (mVar 2) mNil)) (xLift mNext)))
    (xFor (mEnum (mCons (mVar 0) mNil)) (mgT [2, 3]) (xFor (mEnum (mCons (mVar 3) mNil)) (mgT [4, 5]) (mIf (mT (mBin (gEq true) (mVar 5) (mUn gNeg (mBin gIx (mBin gIx (mVar 0) (mVar 4)) (mVar 2))))) (xRaise 0 (mCons (mVar 2) mNil)) (xLift mNext)))))))) ((rx_seq (rx_if (rt_or (rt_not (rt_B (re_isi "list" re_var))) (rt_not (rt_B (re_fn (ra_cons (re_lc (ri_list re_var) rg_name rt_yes (re_isi "list" re_var)) ra_nil) f_all)))) (rx_raise (cl := clOf ca) rfl (ra_cons re_non ra_nil)) (rx_lift rs_next))
      (rx_seq (rx_lift (rs_asg (re_fn (ra_cons re_var ra_nil) f_len) rg_name))
      (rx_seq (rx_for (ri_enum (ra_cons re_var ra_nil)) (rg_tup (rgs_cons (rgs_cons rgs_nil))) (rx_if (rt_or (rt_test (re_bin (re_fn (ra_cons re_var ra_nil) f_len) re_var b_ne)) (rt_not (rt_B (re_fn (ra_cons (re_lc (ri_list re_var) rg_name rt_yes (re_o (ro_call (ra_cons re_var ra_nil)))) ra_nil) f_all)))) (rx_raise (cl := clOf ca) rfl (ra_cons re_var ra_nil)) (rx_lift rs_next)))
      (rx_for (ri_enum (ra_cons re_var ra_nil)) (rg_tup (rgs_cons (rgs_cons rgs_nil))) (rx_for (ri_enum (ra_cons re_var ra_nil)) (rg_tup (rgs_cons (rgs_cons rgs_nil))) (rx_if (rt_test (re_bin re_var (re_un (re_bin (re_bin re_var re_var b_ix) re_var b_ix) u_neg) b_ne)) (rx_raise (cl := clOf ca) rfl (ra_cons re_var ra_nil)) (rx_lift rs_next)))))))) h
def m_square_of_zeros : MF := mDef 2 1 []
    (mRetO (mLc2 (mRng1 (mCons (mVar 0) mNil)) (mgN 1) mYes (mLO (mBinL gRep (mLE (mDs (mCons (mC (.int 0)) mNil))) (mVar 0))) [1]))
theorem ok_square_of_zeros (T : Tx K mg ad fd w ca ia ifd) : FnG P w K mg base 1 (ad 3) (fd 3) ["size"] (spOf [] m_square_of_zeros) := by
  refine okG T.F_square_of_zeros sc_square_of_zeros (fun vs H Q E h => by_len h) (fun cdv A ou s H vs Q E hr gu h => ⟨_, (pss_one (ps_ret (pe_lc (own := [("_", 1)]) (g := gName 1) (tt := tYes) rfl sc_square_of_zeros.nd (pi_range1 (by rfl) T.b_range (pa_cons (pv 0) pa_nil)) (blkOk_by (own := [("_", 1)]) (by kernel_rfl)) (fun _ _ _ _ _ => (pg_name (i := 1) sc_square_of_zeros.nd rfl (Or.inl rfl))) (fun _ _ _ _ _ => pts_nil) (fun _ _ _ _ _ => (pe_op op_rep (pe_lst (pa_cons pe_int pa_nil)) (pv 0)))))), ?_⟩)
  exact def_ok (N := ["size", "_"]) (m := (mRetO (mLc2 (mRng1 (mCons (mVar 0) mNil)) (mgN 1) mYes (mLO (mBinL gRep (mLE (mDs (mCons (mC (.int 0)) mNil))) (mVar 0))) [1]))) ((rs_retO (ro_lc2 (ri_rng1 (ra_cons re_var ra_nil)) rg_name rt_yes (ro_l (rl_bin (re_l (rl_lst (ra_cons re_int ra_nil) (len_cons len_nil))) re_var b_rep))))) h
def m_item_pairs : MF := mDef 3 1 []
    (mRet (mLE (mLcc (mRng1 (mCons (mVar 0) mNil)) (mgN 1) mYes (mRng2 (mCons (mBin (gI0 fun i j => .int (i + j)) (mVar 1) (mC (.int 1))) (mCons (mVar 0) mNil))) (mgN 2) mYes (mTup (mCons (mVar 1) (mCons (mVar 2) mNil))) [1, 2] [2])))
theorem ok_item_pairs (T : Tx K mg ad fd w ca ia ifd) : FnG P w K mg base 1 (ad 4) (fd 4) ["size"] (spOf [] m_item_pairs) := by
  refine okG T.F_item_pairs sc_item_pairs (fun vs H Q E h => by_len h) (fun cdv A ou s H vs Q E hr gu h => ⟨_, (pss_one (ps_ret (pe_lc2 (own := [("x", 1), ("y", 2)]) (vs1 := [2]) (g := gName 1) (g1 := gName 2) (tt := tYes) (tt1 := tYes) rfl sc_item_pairs.nd (pi_range1 (by rfl) T.b_range (pa_cons (pv 0) pa_nil)) (blkOk_by (own := [("x", 1), ("y", 2)]) (by kernel_rfl)) (by decide) (fun _ _ _ _ _ => (pg_name (i := 1) sc_item_pairs.nd rfl (Or.inl rfl))) (fun _ _ _ _ _ => pts_nil) (fun _ _ _ _ _ => (pi_range2 (by rfl) T.b_range (pa_cons (pe_op op_add (pv 1) pe_int) (pa_cons (pv 0) pa_nil)))) (fun _ _ _ _ _ => (pg_name (i := 2) sc_item_pairs.nd rfl (Or.inl rfl))) (fun _ _ _ _ _ => pts_nil) (fun _ _ _ _ _ => (pe_tup (pa_cons (pv 1) (pa_cons (pv 2) pa_nil))))))), ?_⟩)
  exact def_ok (N := ["size", "x", "y"]) (m := (mRet (mLE (mLcc (mRng1 (mCons (mVar 0) mNil)) (mgN 1) mYes (mRng2 (mCons (mBin (gI0 fun i j => .int (i + j)) (mVar 1) (mC (.int 1))) (mCons (mVar 0) mNil))) (mgN 2) mYes (mTup (mCons (mVar 1) (mCons (mVar 2) mNil))) [1, 2] [2])))) ((rs_ret (re_lcc (ri_rng1 (ra_cons re_var ra_nil)) rg_name rt_yes (ri_rng2 (ra_cons (re_bin re_var re_int b_add) (ra_cons re_var ra_nil))) rg_name rt_yes (re_tup (ra_cons re_var (ra_cons re_var ra_nil)) (len_cons (len_cons len_nil)))))) h
def m_pair_line : MF := mDef 3 3 []
    (mRet (mJoined [(mFmt (mVar 0)), (mC (.str (Str.ofString " "))), (mFmt (mBin gIx (mC (.str (Str.ofString "<=>"))) (mBin (gI0 fun i j => .int (i + j)) (mVar 2) (mC (.int 1))))), (mC (.str (Str.ofString " "))), (mFmt (mVar 1))]))
theorem ok_pair_line (T : Tx K mg ad fd w ca ia ifd) : FnG P w K mg base 1 (ad 5) (fd 5) ["x", "y", "answer"] (spOf [] m_pair_line) := by
  refine okG T.F_pair_line sc_pair_line (fun vs H Q E h => by_len h) (fun cdv A ou s H vs Q E hr gu h => ⟨_, (pss_one (ps_ret (pe_joined (PJ.cons (pe_fmt (pv 0)) (PJ.cons pe_str (PJ.cons (pe_fmt (pe_ix (ixK (K := K)) (pe_glob (v := .str (Str.ofString "<=>")) (by rfl) (Classical.choose_spec T.c_SIGNS) ⟨_, rfl⟩) (pe_op op_add (pv 2) pe_int) (fun _ _ => rfl))) (PJ.cons pe_str (PJ.cons (pe_fmt (pv 1)) PJ.nil)))))))), ?_⟩)
  exact def_ok (N := ["x", "y", "answer"]) (m := (mRet (mJoined [(mFmt (mVar 0)), (mC (.str (Str.ofString " "))), (mFmt (mBin gIx (mC (.str (Str.ofString "<=>"))) (mBin (gI0 fun i j => .int (i + j)) (mVar 2) (mC (.int 1))))), (mC (.str (Str.ofString " "))), (mFmt (mVar 1))]))) ((rs_ret (re_joined (RJs.cons (re_fmt re_var) (RJs.cons re_str (RJs.cons (re_fmt (re_bin re_str (re_bin re_var re_int b_add) b_ix)) (RJs.cons re_str (RJs.cons (re_fmt re_var) RJs.nil)))))))) h
def m_format_rule : MF := mDef 4 1 []
    (mSeq (mDrop (mFz (mCall [] m_check_rule (mCons (mVar 0) mNil))))
    (mSeq (mAsg (mLE (mLc (mItL (mFz (mCall [] m_item_pairs (mCons (mFn gLen (mCons (mVar 0) mNil)) mNil)))) (mgT [2, 3]) mYes (mFz (mCall [] m_pair_line (mCons (mVar 2) (mCons (mVar 3) (mCons (mBin gIx (mBin gIx (mVar 0) (mVar 2)) (mVar 3)) mNil))))) [2, 3])) (mgN 1))
    (mRet (mM1 gJoin (mC (.str (Str.ofString "
"))) (mLE (mBinL gCat (mLE (mDs (mCons (mFn gStrI (mCons (mFn gLen (mCons (mVar 0) mNil)) mNil)) mNil))) (mVar 1)))))))
theorem ok_format_rule (T : Tx K mg ad fd w ca ia ifd) : FnG P w K mg base 4 (ad 6) (fd 6) ["rule"] (spOf [] m_format_rule) := by
  refine okG T.F_format_rule sc_format_rule (fun vs H Q E h => by_len h) (fun cdv A ou s H vs Q E hr gu h => ⟨_, (pss_cons (ps_expr (pe_callG (ok_check_rule T) (hr.mono (by decide)) gu (by rfl) T.g_check_rule T.F_check_rule.kp T.b_check_rule .nil (pa_cons (pv 0) pa_nil)))
      (pss_cons (ps_setLc (i := 1) (own := [("x", 2), ("y", 3)]) (g := gTup K 2 (gCons (gName 2) (gCons (gName 3) gNil))) (tt := tYes) rfl sc_format_rule.nd rfl rfl (sw_true rfl rfl rfl (by decide +kernel)) (pi_listK (K := K) (pe_callG (ok_item_pairs T) (hr.mono (by decide)) gu (by rfl) T.g_item_pairs T.F_item_pairs.kp T.b_item_pairs .nil (pa_cons (pe_callB (lenK (K := K)) (by rfl) T.b_len PySem.boot_len (pa_cons (pv 0) pa_nil)) pa_nil))) (blkOk_by (own := [("x", 2), ("y", 3)]) (by kernel_rfl)) (fun _ _ _ _ _ => (pg_tupK (K := K) rfl (pgs_cons (pg_name (i := 2) sc_format_rule.nd rfl (Or.inl rfl)) (pgs_cons (pg_name (i := 3) sc_format_rule.nd rfl (Or.inl rfl)) pgs_nil)))) (fun _ _ _ _ _ => pts_nil) (fun _ _ _ _ _ => (pe_callG (ok_pair_line T) (hr.mono (by decide)) gu (by rfl) T.g_pair_line T.F_pair_line.kp T.b_pair_line .nil (pa_cons (pv 2) (pa_cons (pv 3) (pa_cons (pe_ix (ixK (K := K)) (pe_ix (ixK (K := K)) (pv 0) (pv 2) (fun _ _ => rfl)) (pv 3) (fun _ _ => rfl)) pa_nil))))))
      (pss_one (ps_ret (pe_joinK (K := K) pe_str (pe_op op_cat (pe_lst (pa_cons (pe_callTy call_str_int (by rfl) T.b_str (by decide +kernel) (pa_cons (pe_callB (lenK (K := K)) (by rfl) T.b_len PySem.boot_len (pa_cons (pv 0) pa_nil)) pa_nil)) pa_nil)) (pv 1))))))), ?_⟩)
  exact def_ok (N := ["rule", "lines", "x", "y"]) (m := (mSeq (mDrop (mFz (mCall [] m_check_rule (mCons (mVar 0) mNil))))
    (mSeq (mAsg (mLE (mLc (mItL (mFz (mCall [] m_item_pairs (mCons (mFn gLen (mCons (mVar 0) mNil)) mNil)))) (mgT [2, 3]) mYes (mFz (mCall [] m_pair_line (mCons (mVar 2) (mCons (mVar 3) (mCons (mBin gIx (mBin gIx (mVar 0) (mVar 2)) (mVar 3)) mNil))))) [2, 3])) (mgN 1))
    (mRet (mM1 gJoin (mC (.str (Str.ofString "
"))) (mLE (mBinL gCat (mLE (mDs (mCons (mFn gStrI (mCons (mFn gLen (mCons (mVar 0) mNil)) mNil)) mNil))) (mVar 1)))))))) ((rs_seq (rs_drop (re_o (ro_call (ra_cons re_var ra_nil))))
      (rs_seq (rs_asg (re_lc (ri_list (re_o (ro_call (ra_cons (re_fn (ra_cons re_var ra_nil) f_len) ra_nil)))) (rg_tup (rgs_cons (rgs_cons rgs_nil))) rt_yes (re_o (ro_call (ra_cons re_var (ra_cons re_var (ra_cons (re_bin (re_bin re_var re_var b_ix) re_var b_ix) ra_nil)))))) rg_name)
      (rs_ret (re_m1 re_str (re_l (rl_bin (re_l (rl_lst (ra_cons (re_fn (ra_cons (re_fn (ra_cons re_var ra_nil) f_len) ra_nil) f_strI) ra_nil) (len_cons len_nil))) re_var b_cat)) b_join))))) h
def x_format_rule : XF := xDef 4 1
    (xSeq (xCall x_check_rule (mCons (mVar 0) mNil))
    (xSeq (xLift (mAsg (mLE (mLc (mItL (mFz (mCall [] m_item_pairs (mCons (mFn gLen (mCons (mVar 0) mNil)) mNil)))) (mgT [2, 3]) mYes (mFz (mCall [] m_pair_line (mCons (mVar 2) (mCons (mVar 3) (mCons (mBin gIx (mBin gIx (mVar 0) (mVar 2)) (mVar 3)) mNil))))) [2, 3])) (mgN 1)))
    (xLift (mRet (mM1 gJoin (mC (.str (Str.ofString "
"))) (mLE (mBinL gCat (mLE (mDs (mCons (mFn gStrI (mCons (mFn gLen (mCons (mVar 0) mNil)) mNil)) mNil))) (mVar 1))))))))
theorem okx_format_rule (T : Tx K mg ad fd w ca ia ifd) : FnX P w K mg base 4 (ad 6) (fd 6) ["rule"] (spX (clOf ca) x_format_rule) := by
  refine okX T.F_format_rule sc_format_rule (fun vs H Q E h => byX_len h) (fun cdv A ou s H vs Q E hr gu h => ⟨_, (pss_cons (ps_expr (pe_callX (okx_check_rule T) (hr.mono (by decide)) gu (by rfl) T.g_check_rule T.F_check_rule.kp T.b_check_rule (fun σ => passAt (takes_of rfl rfl rfl rfl) σ) (pa_cons (pv 0) pa_nil)))
      (pss_cons (ps_setLc (i := 1) (own := [("x", 2), ("y", 3)]) (g := gTup K 2 (gCons (gName 2) (gCons (gName 3) gNil))) (tt := tYes) rfl sc_format_rule.nd rfl rfl (sw_true rfl rfl rfl (by decide +kernel)) (pi_listK (K := K) (pe_callG (ok_item_pairs T) (hr.mono (by decide)) gu (by rfl) T.g_item_pairs T.F_item_pairs.kp T.b_item_pairs .nil (pa_cons (pe_callB (lenK (K := K)) (by rfl) T.b_len PySem.boot_len (pa_cons (pv 0) pa_nil)) pa_nil))) (blkOk_by (own := [("x", 2), ("y", 3)]) (by kernel_rfl)) (fun _ _ _ _ _ => (pg_tupK (K := K) rfl (pgs_cons (pg_name (i := 2) sc_format_rule.nd rfl (Or.inl rfl)) (pgs_cons (pg_name (i := 3) sc_format_rule.nd rfl (Or.inl rfl)) pgs_nil)))) (fun _ _ _ _ _ => pts_nil) (fun _ _ _ _ _ => (pe_callG (ok_pair_line T) (hr.mono (by decide)) gu (by rfl) T.g_pair_line T.F_pair_line.kp T.b_pair_line .nil (pa_cons (pv 2) (pa_cons (pv 3) (pa_cons (pe_ix (ixK (K := K)) (pe_ix (ixK (K := K)) (pv 0) (pv 2) (fun _ _ => rfl)) (pv 3) (fun _ _ => rfl)) pa_nil))))))
      (pss_one (ps_ret (pe_joinK (K := K) pe_str (pe_op op_cat (pe_lst (pa_cons (pe_callTy call_str_int (by rfl) T.b_str (by decide +kernel) (pa_cons (pe_callB (lenK (K := K)) (by rfl) T.b_len PySem.boot_len (pa_cons (pv 0) pa_nil)) pa_nil)) pa_nil)) (pv 1))))))), ?_⟩)
  exact def_okX (N := ["rule", "lines", "x", "y"]) (m := (xSeq (xCall x_check_rule (mCons (mVar 0) mNil))
    (xSeq (xLift (mAsg (mLE (mLc (mItL (mFz (mCall [] m_item_pairs (mCons (mFn gLen (mCons (mVar 0) mNil)) mNil)))) (mgT [2, 3]) mYes (mFz (mCall [] m_pair_line (mCons (mVar 2) (mCons (mVar 3) (mCons (mBin gIx (mBin gIx (mVar 0) (mVar 2)) (mVar 3)) mNil))))) [2, 3])) (mgN 1)))
    (xLift (mRet (mM1 gJoin (mC (.str (Str.ofString "
"))) (mLE (mBinL gCat (mLE (mDs (mCons (mFn gStrI (mCons (mFn gLen (mCons (mVar 0) mNil)) mNil)) mNil))) (mVar 1))))))))) ((rx_seq (rx_call (ra_cons re_var ra_nil))
      (rx_seq (rx_lift (rs_asg (re_lc (ri_list (re_o (ro_call (ra_cons (re_fn (ra_cons re_var ra_nil) f_len) ra_nil)))) (rg_tup (rgs_cons (rgs_cons rgs_nil))) rt_yes (re_o (ro_call (ra_cons re_var (ra_cons re_var (ra_cons (re_bin (re_bin re_var re_var b_ix) re_var b_ix) ra_nil)))))) rg_name))
      (rx_lift (rs_ret (re_m1 re_str (re_l (rl_bin (re_l (rl_lst (ra_cons (re_fn (ra_cons (re_fn (ra_cons re_var ra_nil) f_len) ra_nil) f_strI) ra_nil) (len_cons len_nil))) re_var b_cat)) b_join)))))) h
def m_parse_size : MF := mDef 2 1 []
    (mSeq (mFor (mRng1 (mCons (mBin (gI0 fun i j => .int (i + j)) (mC (.int 12)) (mC (.int 1))) mNil)) (mgN 1) (mIf (mT (mBin (gEq false) (mVar 0) (mFn gStrI (mCons (mVar 1) mNil)))) (mRet (mVar 1)) mNext))
    (mRet (mC .none)))
theorem ok_parse_size (T : Tx K mg ad fd w ca ia ifd) : FnG P w K mg base 1 (ad 7) (fd 7) ["line"] (spOf [] m_parse_size) := by
  refine okG T.F_parse_size sc_parse_size (fun vs H Q E h => by_len h) (fun cdv A ou s H vs Q E hr gu h => ⟨_, (pss_cons (ps_for PassesOwn.never rfl (pi_range1 (by rfl) T.b_range (pa_cons (pe_op op_add (pe_glob (v := .int 12) (by rfl) (Classical.choose_spec T.c_MOST_ITEMS) ⟨_, rfl⟩) pe_int) pa_nil)) (pg_name (i := 1) sc_parse_size.nd rfl (Or.inl rfl)) (pss_one (ps_if (pt_cmpR (eqK (K := K) hr.units) (pv 0) (pe_callTy call_str_int (by rfl) T.b_str (by decide +kernel) (pa_cons (pv 1) pa_nil)) (nomark _)) (pss_one (ps_ret (pv 1))) pss_nil)))
      (pss_one (ps_ret pe_non))), ?_⟩)
  exact def_ok (N := ["line", "size"]) (m := (mSeq (mFor (mRng1 (mCons (mBin (gI0 fun i j => .int (i + j)) (mC (.int 12)) (mC (.int 1))) mNil)) (mgN 1) (mIf (mT (mBin (gEq false) (mVar 0) (mFn gStrI (mCons (mVar 1) mNil)))) (mRet (mVar 1)) mNext))
    (mRet (mC .none)))) ((rs_seq (rs_for (ri_rng1 (ra_cons (re_bin re_int re_int b_add) ra_nil)) rg_name (rs_if (rt_test (re_bin re_var (re_fn (ra_cons re_var ra_nil) f_strI) b_eq)) (rs_ret re_var) rs_next))
      (rs_ret re_non))) h
def m_parse_answer : MF := mDef 4 3 []
    (mSeq (mFor (mItT (mTup (mCons (mUn gNeg (mC (.int 1))) (mCons (mC (.int 0)) (mCons (mC (.int 1)) mNil))))) (mgN 3) (mIf (mT (mBin (gEq false) (mVar 0) (mFz (mCall [] m_pair_line (mCons (mVar 1) (mCons (mVar 2) (mCons (mVar 3) mNil))))))) (mRet (mVar 3)) mNext))
    (mRet (mC .none)))
theorem ok_parse_answer (T : Tx K mg ad fd w ca ia ifd) : FnG P w K mg base 2 (ad 8) (fd 8) ["line", "x", "y"] (spOf [] m_parse_answer) := by
  refine okG T.F_parse_answer sc_parse_answer (fun vs H Q E h => by_len h) (fun cdv A ou s H vs Q E hr gu h => ⟨_, (pss_cons (ps_for PassesOwn.never rfl (pi_tupK (K := K) (pe_tup (pa_cons (pe_un un_neg pe_int) (pa_cons pe_int (pa_cons pe_int pa_nil))))) (pg_name (i := 3) sc_parse_answer.nd rfl (Or.inl rfl)) (pss_one (ps_if (pt_cmpR (eqK (K := K) hr.units) (pv 0) (pe_callG (ok_pair_line T) (hr.mono (by decide)) gu (by rfl) T.g_pair_line T.F_pair_line.kp T.b_pair_line .nil (pa_cons (pv 1) (pa_cons (pv 2) (pa_cons (pv 3) pa_nil)))) (nomark _)) (pss_one (ps_ret (pv 3))) pss_nil)))
      (pss_one (ps_ret pe_non))), ?_⟩)
  exact def_ok (N := ["line", "x", "y", "answer"]) (m := (mSeq (mFor (mItT (mTup (mCons (mUn gNeg (mC (.int 1))) (mCons (mC (.int 0)) (mCons (mC (.int 1)) mNil))))) (mgN 3) (mIf (mT (mBin (gEq false) (mVar 0) (mFz (mCall [] m_pair_line (mCons (mVar 1) (mCons (mVar 2) (mCons (mVar 3) mNil))))))) (mRet (mVar 3)) mNext))
    (mRet (mC .none)))) ((rs_seq (rs_for (ri_tup (re_tup (ra_cons (re_un re_int u_neg) (ra_cons re_int (ra_cons re_int ra_nil))) (len_cons (len_cons (len_cons len_nil))))) rg_name (rs_if (rt_test (re_bin re_var (re_o (ro_call (ra_cons re_var (ra_cons re_var (ra_cons re_var ra_nil))))) b_eq)) (rs_ret re_var) rs_next))
      (rs_ret re_non))) h
def m_parse_rule : MF := mDef 9 1 []
    (mSeq (mIf (mNot (mT (mIsi "str" (mVar 0)))) mNever mNext)
    (mSeq (mAsg (mLE (mM1 gSplit (mVar 0) (mC (.str (Str.ofString "
"))))) (mgN 1))
    (mSeq (mAsg (mFz (mCall [] m_parse_size (mCons (mBin gIx (mVar 1) (mC (.int 0))) mNil))) (mgN 2))
    (mSeq (mIf (mT (mBin (gIsN false) (mVar 2) (mC .none))) mNever mNext)
    (mSeq (mAsgO 3 (mCall [] m_square_of_zeros (mCons (mVar 2) mNil)))
    (mSeq (mAsg (mFz (mCall [] m_item_pairs (mCons (mVar 2) mNil))) (mgN 4))
    (mSeq (mFor (mEnumC (mCons (mVar 4) (mCons (mC (.int 1)) mNil))) (mgE 5 [7, 8]) (mSeq (mAsg (mIf (mT (mBin (gI0 fun i j => .bool (decide (i < j))) (mVar 5) (mFn gLen (mCons (mVar 1) mNil)))) (mFz (mCall [] m_parse_answer (mCons (mBin gIx (mVar 1) (mVar 5)) (mCons (mVar 7) (mCons (mVar 8) mNil))))) (mC .none)) (mgN 6))
    (mSeq (mIf (mT (mBin (gIsN false) (mVar 6) (mC .none))) mNever mNext)
    (mSeq (mSet2 3 (mVar 7) (mVar 8) (mVar 6))
    (mSet2 3 (mVar 8) (mVar 7) (mUn gNeg (mVar 6)))))))
    (mSeq (mIf (mT (mBin (gI0 fun i j => .bool (decide (j < i))) (mFn gLen (mCons (mVar 1) mNil)) (mBin (gI0 fun i j => .int (i + j)) (mFn gLen (mCons (mVar 4) mNil)) (mC (.int 1))))) mNever mNext)
    (mRetV 3)))))))))
theorem ok_parse_rule (T : Tx K mg ad fd w ca ia ifd) : FnG P w K mg base 3 (ad 9) (fd 9) ["text"] (spOf [] m_parse_rule) := by
  refine okG T.F_parse_rule sc_parse_rule (fun vs H Q E h => by_len h) (fun cdv A ou s H vs Q E hr gu h => ⟨_, (pss_cons (ps_if (pt_not (pt_val (pe_callB (isiK (K := K)) (by rfl) T.b_isinstance (by decide +kernel) (pa_cons (pv 0) (pa_cons (pe_bltn (v := .ty "str") (by rfl) T.b_str (by decide +kernel) rfl) pa_nil))))) (pss_one ps_never) pss_nil)
      (pss_cons (ps_set (i := 1) sc_parse_rule.nd rfl (Or.inl rfl) (pe_split (pv 0) pe_str))
      (pss_cons (ps_set (i := 2) sc_parse_rule.nd rfl (Or.inl rfl) (pe_callG (ok_parse_size T) (hr.mono (by decide)) gu (by rfl) T.g_parse_size T.F_parse_size.kp T.b_parse_size .nil (pa_cons (pe_ix (ixK (K := K)) (pv 1) pe_int (fun _ _ => rfl)) pa_nil)))
      (pss_cons (ps_if (pt_cmpR op_isN (pv 2) pe_non (nomark _)) (pss_one ps_never) pss_nil)
      (pss_cons (ps_set (i := 3) sc_parse_rule.nd rfl (Or.inl rfl) (pe_callG (ok_square_of_zeros T) (hr.mono (by decide)) gu (by rfl) T.g_square_of_zeros T.F_square_of_zeros.kp T.b_square_of_zeros .nil (pa_cons (pv 2) pa_nil)))
      (pss_cons (ps_set (i := 4) sc_parse_rule.nd rfl (Or.inl rfl) (pe_callG (ok_item_pairs T) (hr.mono (by decide)) gu (by rfl) T.g_item_pairs T.F_item_pairs.kp T.b_item_pairs .nil (pa_cons (pv 2) pa_nil)))
      (pss_cons (ps_for PassesOwn.never rfl (pi_enumCK (K := K) (by rfl) T.b_enumerate (pa_cons (pv 4) (pa_cons pe_int pa_nil))) (pg_tupK (K := K) rfl (pgs_cons (pg_name (i := 5) sc_parse_rule.nd rfl (Or.inl rfl)) (pgs_cons (pg_tupK (K := K) rfl (pgs_cons (pg_name (i := 7) sc_parse_rule.nd rfl (Or.inl rfl)) (pgs_cons (pg_name (i := 8) sc_parse_rule.nd rfl (Or.inl rfl)) pgs_nil))) pgs_nil))) (pss_cons (ps_set (i := 6) sc_parse_rule.nd rfl (Or.inl rfl) (pe_ifExp (pt_cmpR op_lt (pv 5) (pe_callB (lenK (K := K)) (by rfl) T.b_len PySem.boot_len (pa_cons (pv 1) pa_nil)) (nomark _)) (pe_callG (ok_parse_answer T) (hr.mono (by decide)) gu (by rfl) T.g_parse_answer T.F_parse_answer.kp T.b_parse_answer .nil (pa_cons (pe_ix (ixK (K := K)) (pv 1) (pv 5) (fun _ _ => rfl)) (pa_cons (pv 7) (pa_cons (pv 8) pa_nil)))) pe_non))
      (pss_cons (ps_if (pt_cmpR op_isN (pv 6) pe_non (nomark _)) (pss_one ps_never) pss_nil)
      (pss_cons (ps_asg (pv 6) (pg_sub (pe_ix (ixK (K := K)) (pv 3) (pv 7) (fun _ _ => rfl)) (pv 8) set_list))
      (pss_one (ps_asg (pe_un un_neg (pv 6)) (pg_sub (pe_ix (ixK (K := K)) (pv 3) (pv 8) (fun _ _ => rfl)) (pv 7) set_list)))))))
      (pss_cons (ps_if (pt_cmpR op_gt (pe_callB (lenK (K := K)) (by rfl) T.b_len PySem.boot_len (pa_cons (pv 1) pa_nil)) (pe_op op_add (pe_callB (lenK (K := K)) (by rfl) T.b_len PySem.boot_len (pa_cons (pv 4) pa_nil)) pe_int) (nomark _)) (pss_one ps_never) pss_nil)
      (pss_one (ps_ret (pv 3))))))))))), ?_⟩)
  exact def_ok (N := ["text", "lines", "size", "rule", "pairs", "number", "answer", "x", "y"]) (m := (mSeq (mIf (mNot (mT (mIsi "str" (mVar 0)))) mNever mNext)
    (mSeq (mAsg (mLE (mM1 gSplit (mVar 0) (mC (.str (Str.ofString "
"))))) (mgN 1))
    (mSeq (mAsg (mFz (mCall [] m_parse_size (mCons (mBin gIx (mVar 1) (mC (.int 0))) mNil))) (mgN 2))
    (mSeq (mIf (mT (mBin (gIsN false) (mVar 2) (mC .none))) mNever mNext)
    (mSeq (mAsgO 3 (mCall [] m_square_of_zeros (mCons (mVar 2) mNil)))
    (mSeq (mAsg (mFz (mCall [] m_item_pairs (mCons (mVar 2) mNil))) (mgN 4))
    (mSeq (mFor (mEnumC (mCons (mVar 4) (mCons (mC (.int 1)) mNil))) (mgE 5 [7, 8]) (mSeq (mAsg (mIf (mT (mBin (gI0 fun i j => .bool (decide (i < j))) (mVar 5) (mFn gLen (mCons (mVar 1) mNil)))) (mFz (mCall [] m_parse_answer (mCons (mBin gIx (mVar 1) (mVar 5)) (mCons (mVar 7) (mCons (mVar 8) mNil))))) (mC .none)) (mgN 6))
    (mSeq (mIf (mT (mBin (gIsN false) (mVar 6) (mC .none))) mNever mNext)
    (mSeq (mSet2 3 (mVar 7) (mVar 8) (mVar 6))
    (mSet2 3 (mVar 8) (mVar 7) (mUn gNeg (mVar 6)))))))
    (mSeq (mIf (mT (mBin (gI0 fun i j => .bool (decide (j < i))) (mFn gLen (mCons (mVar 1) mNil)) (mBin (gI0 fun i j => .int (i + j)) (mFn gLen (mCons (mVar 4) mNil)) (mC (.int 1))))) mNever mNext)
    (mRetV 3)))))))))) ((rs_seq (rs_if (rt_not (rt_B (re_isi "str" re_var))) rs_never rs_next)
      (rs_seq (rs_asg (re_l (rl_m1 re_var re_str b_split)) rg_name)
      (rs_seq (rs_asg (re_o (ro_call (ra_cons (re_bin re_var re_int b_ix) ra_nil))) rg_name)
      (rs_seq (rs_if (rt_test (re_bin re_var re_non b_isN)) rs_never rs_next)
      (rs_seq (rs_asgO (ro_call (ra_cons re_var ra_nil)))
      (rs_seq (rs_asg (re_o (ro_call (ra_cons re_var ra_nil))) rg_name)
      (rs_seq (rs_for (ri_enumC (ra_cons re_var (ra_cons re_int ra_nil))) (rg_en (rgs_cons (rgs_cons rgs_nil))) (rs_seq (rs_asg (re_if (rt_test (re_bin re_var (re_fn (ra_cons re_var ra_nil) f_len) b_lt)) (re_o (ro_call (ra_cons (re_bin re_var re_var b_ix) (ra_cons re_var (ra_cons re_var ra_nil))))) re_non) rg_name)
      (rs_seq (rs_if (rt_test (re_bin re_var re_non b_isN)) rs_never rs_next)
      (rs_seq (rs_set2 re_var re_var re_var)
      (rs_set2 (re_un re_var u_neg) re_var re_var)))))
      (rs_seq (rs_if (rt_test (re_bin (re_fn (ra_cons re_var ra_nil) f_len) (re_bin (re_fn (ra_cons re_var ra_nil) f_len) re_int b_add) b_gt)) rs_never rs_next)
      rs_retV))))))))) h
def m__law_draws : MF := mDef 1 1 []
    (mRetO (mLO (mDs (mCons (mBin gMod (mFn gInt (mCons (mVar 0) mNil)) (mBin gPow (mBin gPow (mBin gPow (mC (.int 10)) (mC (.int 60))) (mC (.int 60))) (mC (.int 4)))) (mCons (mC (.int 0)) (mCons (mBin (gI0 fun i j => .bool (decide (j ≤ i))) (mVar 0) (mBin gPow (mC (.int 10)) (mC (.int 18)))) mNil))))))
theorem ok__law_draws (T : Tx K mg ad fd w ca ia ifd) : FnG P w K mg base 1 (ad 10) (fd 10) ["cell"] (spOf [] m__law_draws) := by
  refine okG T.F__law_draws sc__law_draws (fun vs H Q E h => by_len h) (fun cdv A ou s H vs Q E hr gu h => ⟨_, (pss_one (ps_ret (pe_lst (pa_cons (pe_op op_modN (pe_callTy call_int1 (by rfl) T.b_int (by decide +kernel) (pa_cons (pv 0) pa_nil)) (pe_op op_powX (pe_op op_powX (pe_op op_powX pe_int pe_int) pe_int) pe_int)) (pa_cons pe_int (pa_cons (pe_cmpR op_ge (pv 0) (pe_op op_powX pe_int pe_int) (nomark _)) pa_nil)))))), ?_⟩)
  exact def_ok (N := ["cell"]) (m := (mRetO (mLO (mDs (mCons (mBin gMod (mFn gInt (mCons (mVar 0) mNil)) (mBin gPow (mBin gPow (mBin gPow (mC (.int 10)) (mC (.int 60))) (mC (.int 60))) (mC (.int 4)))) (mCons (mC (.int 0)) (mCons (mBin (gI0 fun i j => .bool (decide (j ≤ i))) (mVar 0) (mBin gPow (mC (.int 10)) (mC (.int 18)))) mNil))))))) ((rs_retO (ro_l (rl_lst (ra_cons (re_bin (re_fn (ra_cons re_var ra_nil) f_int) (re_bin (re_bin (re_bin re_int re_int b_pow) re_int b_pow) re_int b_pow) b_mod) (ra_cons re_int (ra_cons (re_bin re_var (re_bin re_int re_int b_pow) b_ge) ra_nil))) (len_cons (len_cons (len_cons len_nil))))))) h
def m__law_next : MF := mDef 3 1 [0]
    (mSeq (mSetI 0 (mC (.int 1)) (mBin (gI0 fun i j => .int (i + j)) (mBin gIx (mVar 0) (mC (.int 1))) (mC (.int 1))))
    (mSeq (mAsg (mBin gIx (mVar 0) (mC (.int 1))) (mgN 1))
    (mSeq (mIf (mT (mBin gIx (mVar 0) (mC (.int 2)))) (mSeq (mAsg (mBin gMod (mFn gInt (mCons (mBin gIx (mVar 0) (mC (.int 0))) mNil)) (mBin gPow (mC (.int 10)) (mC (.int 6)))) (mgN 2))
    (mSeq (mSetI 0 (mC (.int 0)) (mBin gFdiv (mBin gIx (mVar 0) (mC (.int 0))) (mBin gPow (mC (.int 10)) (mC (.int 6)))))
    (mRet (mVar 2)))) mNext)
    (mSeq (mAsg (mBin gMod (mFn gInt (mCons (mBin gMul (mBin (gI0 fun i j => .int (i + j)) (mBin (gI0 fun i j => .int (i + j)) (mBin gMod (mFn gInt (mCons (mBin gIx (mVar 0) (mC (.int 0))) mNil)) (mC (.int 1000003))) (mBin gMul (mBin gMul (mVar 1) (mVar 1)) (mC (.int 7919)))) (mVar 1)) (mC (.int 48271))) mNil)) (mC (.int 2147483629))) (mgN 2))
    (mSeq (mAsg (mBin gMod (mFn gInt (mCons (mBin gMul (mVar 2) (mVar 2)) mNil)) (mC (.int 2147483587))) (mgN 2))
    (mRet (mBin gFdiv (mBin gMod (mFn gInt (mCons (mBin gMul (mVar 2) (mBin (gI0 fun i j => .int (i + j)) (mVar 2) (mC (.int 2)))) mNil)) (mC (.int 2147483579))) (mC (.int 7)))))))))
theorem ok__law_next (T : Tx K mg ad fd w ca ia ifd) : FnG P w K mg base 1 (ad 11) (fd 11) ["draws"] (spOf [0] m__law_next) := by
  refine okG T.F__law_next sc__law_next (fun vs H Q E h => by_len h) (fun cdv A ou s H vs Q E hr gu h => ⟨_, (pss_cons (ps_asg (pe_op op_add (pe_ix (ixK (K := K)) (pv 0) pe_int (fun _ _ => rfl)) pe_int) (pg_sub (pv 0) pe_int set_list))
      (pss_cons (ps_set (i := 1) sc__law_next.nd rfl (Or.inl rfl) (pe_ix (ixK (K := K)) (pv 0) pe_int (fun _ _ => rfl)))
      (pss_cons (ps_if (pt_val (pe_ix (ixK (K := K)) (pv 0) pe_int (fun _ _ => rfl))) (pss_cons (ps_set (i := 2) sc__law_next.nd rfl (Or.inl rfl) (pe_op op_modN (pe_callTy call_int1 (by rfl) T.b_int (by decide +kernel) (pa_cons (pe_ix (ixK (K := K)) (pv 0) pe_int (fun _ _ => rfl)) pa_nil)) (pe_op op_powX pe_int pe_int)))
      (pss_cons (ps_asg (pe_op op_fdivN (pe_ix (ixK (K := K)) (pv 0) pe_int (fun _ _ => rfl)) (pe_op op_powX pe_int pe_int)) (pg_sub (pv 0) pe_int set_list))
      (pss_one (ps_ret (pv 2))))) pss_nil)
      (pss_cons (ps_set (i := 2) sc__law_next.nd rfl (Or.inl rfl) (pe_op op_modN (pe_callTy call_int1 (by rfl) T.b_int (by decide +kernel) (pa_cons (pe_op op_mulW (pe_op op_add (pe_op op_add (pe_op op_modN (pe_callTy call_int1 (by rfl) T.b_int (by decide +kernel) (pa_cons (pe_ix (ixK (K := K)) (pv 0) pe_int (fun _ _ => rfl)) pa_nil)) pe_int) (pe_op op_mulW (pe_op op_mulW (pv 1) (pv 1)) pe_int)) (pv 1)) pe_int) pa_nil)) pe_int))
      (pss_cons (ps_set (i := 2) sc__law_next.nd rfl (Or.inl rfl) (pe_op op_modN (pe_callTy call_int1 (by rfl) T.b_int (by decide +kernel) (pa_cons (pe_op op_mulW (pv 2) (pv 2)) pa_nil)) pe_int))
      (pss_one (ps_ret (pe_op op_fdivN (pe_op op_modN (pe_callTy call_int1 (by rfl) T.b_int (by decide +kernel) (pa_cons (pe_op op_mulW (pv 2) (pe_op op_add (pv 2) pe_int)) pa_nil)) pe_int) pe_int)))))))), ?_⟩)
  exact def_ok (N := ["draws", "k", "number"]) (m := (mSeq (mSetI 0 (mC (.int 1)) (mBin (gI0 fun i j => .int (i + j)) (mBin gIx (mVar 0) (mC (.int 1))) (mC (.int 1))))
    (mSeq (mAsg (mBin gIx (mVar 0) (mC (.int 1))) (mgN 1))
    (mSeq (mIf (mT (mBin gIx (mVar 0) (mC (.int 2)))) (mSeq (mAsg (mBin gMod (mFn gInt (mCons (mBin gIx (mVar 0) (mC (.int 0))) mNil)) (mBin gPow (mC (.int 10)) (mC (.int 6)))) (mgN 2))
    (mSeq (mSetI 0 (mC (.int 0)) (mBin gFdiv (mBin gIx (mVar 0) (mC (.int 0))) (mBin gPow (mC (.int 10)) (mC (.int 6)))))
    (mRet (mVar 2)))) mNext)
    (mSeq (mAsg (mBin gMod (mFn gInt (mCons (mBin gMul (mBin (gI0 fun i j => .int (i + j)) (mBin (gI0 fun i j => .int (i + j)) (mBin gMod (mFn gInt (mCons (mBin gIx (mVar 0) (mC (.int 0))) mNil)) (mC (.int 1000003))) (mBin gMul (mBin gMul (mVar 1) (mVar 1)) (mC (.int 7919)))) (mVar 1)) (mC (.int 48271))) mNil)) (mC (.int 2147483629))) (mgN 2))
    (mSeq (mAsg (mBin gMod (mFn gInt (mCons (mBin gMul (mVar 2) (mVar 2)) mNil)) (mC (.int 2147483587))) (mgN 2))
    (mRet (mBin gFdiv (mBin gMod (mFn gInt (mCons (mBin gMul (mVar 2) (mBin (gI0 fun i j => .int (i + j)) (mVar 2) (mC (.int 2)))) mNil)) (mC (.int 2147483579))) (mC (.int 7)))))))))) ((rs_seq (rs_setI (re_bin (re_bin re_var re_int b_ix) re_int b_add) re_int)
      (rs_seq (rs_asg (re_bin re_var re_int b_ix) rg_name)
      (rs_seq (rs_if (rt_B (re_bin re_var re_int b_ix)) (rs_seq (rs_asg (re_bin (re_fn (ra_cons (re_bin re_var re_int b_ix) ra_nil) f_int) (re_bin re_int re_int b_pow) b_mod) rg_name)
      (rs_seq (rs_setI (re_bin (re_bin re_var re_int b_ix) (re_bin re_int re_int b_pow) b_fdiv) re_int)
      (rs_ret re_var))) rs_next)
      (rs_seq (rs_asg (re_bin (re_fn (ra_cons (re_bin (re_bin (re_bin (re_bin (re_fn (ra_cons (re_bin re_var re_int b_ix) ra_nil) f_int) re_int b_mod) (re_bin (re_bin re_var re_var b_mul) re_int b_mul) b_add) re_var b_add) re_int b_mul) ra_nil) f_int) re_int b_mod) rg_name)
      (rs_seq (rs_asg (re_bin (re_fn (ra_cons (re_bin re_var re_var b_mul) ra_nil) f_int) re_int b_mod) rg_name)
      (rs_ret (re_bin (re_bin (re_fn (ra_cons (re_bin re_var (re_bin re_var re_int b_add) b_mul) ra_nil) f_int) re_int b_mod) re_int b_fdiv)))))))) h
def m__law_rule : MF := mDef 10 2 [0]
    (mSeq (mAsg (mBin gMod (mFn gInt (mCons (mFz (mCall [0] m__law_next (mCons (mVar 0) mNil))) mNil)) (mC (.int 6))) (mgN 2))
    (mSeq (mAsgO 3 (mLc2 (mRng1 (mCons (mVar 1) mNil)) (mgN 7) mYes (mLO (mBinL gRep (mLE (mDs (mCons (mC (.int 0)) mNil))) (mVar 1))) [7]))
    (mSeq (mAsg (mLE (mLc (mRng1 (mCons (mVar 1) mNil)) (mgN 7) mYes (mBin gMod (mFn gInt (mCons (mFz (mCall [0] m__law_next (mCons (mVar 0) mNil))) mNil)) (mBin (gI0 fun i j => .int (i + j)) (mVar 1) (mC (.int 3)))) [7])) (mgN 4))
    (mSeq (mFor (mRng1 (mCons (mVar 1) mNil)) (mgN 5) (mFor (mRng2 (mCons (mBin (gI0 fun i j => .int (i + j)) (mVar 5) (mC (.int 1))) (mCons (mVar 1) mNil))) (mgN 6) (mSeq (mAsg (mBin (gI0 fun i j => .int (i - j)) (mBin gMod (mFn gInt (mCons (mFz (mCall [0] m__law_next (mCons (mVar 0) mNil))) mNil)) (mC (.int 3))) (mC (.int 1))) (mgN 8))
    (mSeq (mIf (mT (mBin (gI0 fun i j => .bool (decide (i < j))) (mVar 2) (mC (.int 2)))) (mAsg (mBin gIx (mLE (mDs (mCons (mUn gNeg (mC (.int 1))) (mCons (mC (.int 1)) mNil)))) (mBin gMod (mFn gInt (mCons (mFz (mCall [0] m__law_next (mCons (mVar 0) mNil))) mNil)) (mC (.int 2)))) (mgN 8)) (mIf (mT (mBin (gI0 fun i j => .bool (decide (i < j))) (mVar 2) (mC (.int 5)))) (mSeq (mAsg (mFn gInt (mCons (mBin (gI0 fun i j => .bool (decide (j < i))) (mFn gAbs (mCons (mBin (gI0 fun i j => .int (i - j)) (mBin gIx (mVar 4) (mVar 5)) (mBin gIx (mVar 4) (mVar 6))) mNil)) (mBin (gI0 fun i j => .int (i - j)) (mVar 2) (mC (.int 3)))) mNil)) (mgN 9))
    (mSeq (mAsg (mBin gMul (mBin (gI0 fun i j => .int (i - j)) (mC (.int 1)) (mBin gMul (mC (.int 2)) (mFn gInt (mCons (mBin (gI0 fun i j => .bool (decide (i < j))) (mBin gIx (mVar 4) (mVar 5)) (mBin gIx (mVar 4) (mVar 6))) mNil)))) (mVar 9)) (mgN 8))
    (mIf (mAnd (mT (mBin (gEq false) (mVar 2) (mC (.int 3)))) (mT (mBin (gEq false) (mBin gMod (mFn gInt (mCons (mFz (mCall [0] m__law_next (mCons (mVar 0) mNil))) mNil)) (mC (.int 7))) (mC (.int 0))))) (mAsg (mUn gNeg (mVar 8)) (mgN 8)) mNext))) mNext))
    (mSeq (mSet2 3 (mVar 5) (mVar 6) (mVar 8))
    (mSet2 3 (mVar 6) (mVar 5) (mUn gNeg (mVar 8))))))))
    (mRet (mVar 3))))))
theorem ok__law_rule (T : Tx K mg ad fd w ca ia ifd) : FnG P w K mg base 2 (ad 12) (fd 12) ["draws", "size"] (spOf [0] m__law_rule) := by
  refine okG T.F__law_rule sc__law_rule (fun vs H Q E h => by_len h) (fun cdv A ou s H vs Q E hr gu h => ⟨_, (pss_cons (ps_set (i := 2) sc__law_rule.nd rfl (Or.inl rfl) (pe_op op_modN (pe_callTy call_int1 (by rfl) T.b_int (by decide +kernel) (pa_cons (pe_callG (ok__law_next T) (hr.mono (by decide)) gu (by rfl) T.g__law_next T.F__law_next.kp T.b__law_next .nil (pa_cons (pv 0) pa_nil)) pa_nil)) pe_int))
      (pss_cons (ps_setLc (i := 3) (own := [("item", 7)]) (g := gName 7) (tt := tYes) rfl sc__law_rule.nd rfl rfl (sw_true rfl rfl rfl (by decide +kernel)) (pi_range1 (by rfl) T.b_range (pa_cons (pv 1) pa_nil)) (blkOk_by (own := [("item", 7)]) (by kernel_rfl)) (fun _ _ _ _ _ => (pg_name (i := 7) sc__law_rule.nd rfl (Or.inl rfl))) (fun _ _ _ _ _ => pts_nil) (fun _ _ _ _ _ => (pe_op op_rep (pe_lst (pa_cons pe_int pa_nil)) (pv 1))))
      (pss_cons (ps_setLc (i := 4) (own := [("item", 7)]) (g := gName 7) (tt := tYes) rfl sc__law_rule.nd rfl rfl (sw_true rfl rfl rfl (by decide +kernel)) (pi_range1 (by rfl) T.b_range (pa_cons (pv 1) pa_nil)) (blkOk_by (own := [("item", 7)]) (by kernel_rfl)) (fun _ _ _ _ _ => (pg_name (i := 7) sc__law_rule.nd rfl (Or.inl rfl))) (fun _ _ _ _ _ => pts_nil) (fun _ _ _ _ _ => (pe_op op_modN (pe_callTy call_int1 (by rfl) T.b_int (by decide +kernel) (pa_cons (pe_callG (ok__law_next T) (hr.mono (by decide)) gu (by rfl) T.g__law_next T.F__law_next.kp T.b__law_next .nil (pa_cons (pv 0) pa_nil)) pa_nil)) (pe_op op_add (pv 1) pe_int))))
      (pss_cons (ps_for PassesOwn.never rfl (pi_range1 (by rfl) T.b_range (pa_cons (pv 1) pa_nil)) (pg_name (i := 5) sc__law_rule.nd rfl (Or.inl rfl)) (pss_one (ps_for PassesOwn.never rfl (pi_range2 (by rfl) T.b_range (pa_cons (pe_op op_add (pv 5) pe_int) (pa_cons (pv 1) pa_nil))) (pg_name (i := 6) sc__law_rule.nd rfl (Or.inl rfl)) (pss_cons (ps_set (i := 8) sc__law_rule.nd rfl (Or.inl rfl) (pe_op op_sub (pe_op op_modN (pe_callTy call_int1 (by rfl) T.b_int (by decide +kernel) (pa_cons (pe_callG (ok__law_next T) (hr.mono (by decide)) gu (by rfl) T.g__law_next T.F__law_next.kp T.b__law_next .nil (pa_cons (pv 0) pa_nil)) pa_nil)) pe_int) pe_int))
      (pss_cons (ps_if (pt_cmpR op_lt (pv 2) pe_int (nomark _)) (pss_one (ps_set (i := 8) sc__law_rule.nd rfl (Or.inl rfl) (pe_ix (ixK (K := K)) (pe_lst (pa_cons (pe_un un_neg pe_int) (pa_cons pe_int pa_nil))) (pe_op op_modN (pe_callTy call_int1 (by rfl) T.b_int (by decide +kernel) (pa_cons (pe_callG (ok__law_next T) (hr.mono (by decide)) gu (by rfl) T.g__law_next T.F__law_next.kp T.b__law_next .nil (pa_cons (pv 0) pa_nil)) pa_nil)) pe_int) (fun _ _ => rfl)))) (pss_one (ps_if (pt_cmpR op_lt (pv 2) pe_int (nomark _)) (pss_cons (ps_set (i := 9) sc__law_rule.nd rfl (Or.inl rfl) (pe_callTy call_int1 (by rfl) T.b_int (by decide +kernel) (pa_cons (pe_cmpR op_gt (pe_callB call_abs (by rfl) T.b_abs (by decide +kernel) (pa_cons (pe_op op_sub (pe_ix (ixK (K := K)) (pv 4) (pv 5) (fun _ _ => rfl)) (pe_ix (ixK (K := K)) (pv 4) (pv 6) (fun _ _ => rfl))) pa_nil)) (pe_op op_sub (pv 2) pe_int) (nomark _)) pa_nil)))
      (pss_cons (ps_set (i := 8) sc__law_rule.nd rfl (Or.inl rfl) (pe_op op_mulW (pe_op op_sub pe_int (pe_op op_mulW pe_int (pe_callTy call_int1 (by rfl) T.b_int (by decide +kernel) (pa_cons (pe_cmpR op_lt (pe_ix (ixK (K := K)) (pv 4) (pv 5) (fun _ _ => rfl)) (pe_ix (ixK (K := K)) (pv 4) (pv 6) (fun _ _ => rfl)) (nomark _)) pa_nil)))) (pv 9)))
      (pss_one (ps_if (PW.pt (pw_and (pt_cmpR (eqK (K := K) hr.units) (pv 2) pe_int (nomark _)) (pw_and1 (pt_cmpR (eqK (K := K) hr.units) (pe_op op_modN (pe_callTy call_int1 (by rfl) T.b_int (by decide +kernel) (pa_cons (pe_callG (ok__law_next T) (hr.mono (by decide)) gu (by rfl) T.g__law_next T.F__law_next.kp T.b__law_next .nil (pa_cons (pv 0) pa_nil)) pa_nil)) pe_int) pe_int (nomark _))))) (pss_one (ps_set (i := 8) sc__law_rule.nd rfl (Or.inl rfl) (pe_un un_neg (pv 8)))) pss_nil)))) pss_nil)))
      (pss_cons (ps_asg (pv 8) (pg_sub (pe_ix (ixK (K := K)) (pv 3) (pv 5) (fun _ _ => rfl)) (pv 6) set_list))
      (pss_one (ps_asg (pe_un un_neg (pv 8)) (pg_sub (pe_ix (ixK (K := K)) (pv 3) (pv 6) (fun _ _ => rfl)) (pv 5) set_list)))))))))
      (pss_one (ps_ret (pv 3))))))), ?_⟩)
  exact def_ok (N := ["draws", "size", "kind", "told", "worths", "one", "other", "item", "answer", "near"]) (m := (mSeq (mAsg (mBin gMod (mFn gInt (mCons (mFz (mCall [0] m__law_next (mCons (mVar 0) mNil))) mNil)) (mC (.int 6))) (mgN 2))
    (mSeq (mAsgO 3 (mLc2 (mRng1 (mCons (mVar 1) mNil)) (mgN 7) mYes (mLO (mBinL gRep (mLE (mDs (mCons (mC (.int 0)) mNil))) (mVar 1))) [7]))
    (mSeq (mAsg (mLE (mLc (mRng1 (mCons (mVar 1) mNil)) (mgN 7) mYes (mBin gMod (mFn gInt (mCons (mFz (mCall [0] m__law_next (mCons (mVar 0) mNil))) mNil)) (mBin (gI0 fun i j => .int (i + j)) (mVar 1) (mC (.int 3)))) [7])) (mgN 4))
    (mSeq (mFor (mRng1 (mCons (mVar 1) mNil)) (mgN 5) (mFor (mRng2 (mCons (mBin (gI0 fun i j => .int (i + j)) (mVar 5) (mC (.int 1))) (mCons (mVar 1) mNil))) (mgN 6) (mSeq (mAsg (mBin (gI0 fun i j => .int (i - j)) (mBin gMod (mFn gInt (mCons (mFz (mCall [0] m__law_next (mCons (mVar 0) mNil))) mNil)) (mC (.int 3))) (mC (.int 1))) (mgN 8))
    (mSeq (mIf (mT (mBin (gI0 fun i j => .bool (decide (i < j))) (mVar 2) (mC (.int 2)))) (mAsg (mBin gIx (mLE (mDs (mCons (mUn gNeg (mC (.int 1))) (mCons (mC (.int 1)) mNil)))) (mBin gMod (mFn gInt (mCons (mFz (mCall [0] m__law_next (mCons (mVar 0) mNil))) mNil)) (mC (.int 2)))) (mgN 8)) (mIf (mT (mBin (gI0 fun i j => .bool (decide (i < j))) (mVar 2) (mC (.int 5)))) (mSeq (mAsg (mFn gInt (mCons (mBin (gI0 fun i j => .bool (decide (j < i))) (mFn gAbs (mCons (mBin (gI0 fun i j => .int (i - j)) (mBin gIx (mVar 4) (mVar 5)) (mBin gIx (mVar 4) (mVar 6))) mNil)) (mBin (gI0 fun i j => .int (i - j)) (mVar 2) (mC (.int 3)))) mNil)) (mgN 9))
    (mSeq (mAsg (mBin gMul (mBin (gI0 fun i j => .int (i - j)) (mC (.int 1)) (mBin gMul (mC (.int 2)) (mFn gInt (mCons (mBin (gI0 fun i j => .bool (decide (i < j))) (mBin gIx (mVar 4) (mVar 5)) (mBin gIx (mVar 4) (mVar 6))) mNil)))) (mVar 9)) (mgN 8))
    (mIf (mAnd (mT (mBin (gEq false) (mVar 2) (mC (.int 3)))) (mT (mBin (gEq false) (mBin gMod (mFn gInt (mCons (mFz (mCall [0] m__law_next (mCons (mVar 0) mNil))) mNil)) (mC (.int 7))) (mC (.int 0))))) (mAsg (mUn gNeg (mVar 8)) (mgN 8)) mNext))) mNext))
    (mSeq (mSet2 3 (mVar 5) (mVar 6) (mVar 8))
    (mSet2 3 (mVar 6) (mVar 5) (mUn gNeg (mVar 8))))))))
    (mRet (mVar 3))))))) ((rs_seq (rs_asg (re_bin (re_fn (ra_cons (re_o (ro_call (ra_cons re_var ra_nil))) ra_nil) f_int) re_int b_mod) rg_name)
      (rs_seq (rs_asgO (ro_lc2 (ri_rng1 (ra_cons re_var ra_nil)) rg_name rt_yes (ro_l (rl_bin (re_l (rl_lst (ra_cons re_int ra_nil) (len_cons len_nil))) re_var b_rep))))
      (rs_seq (rs_asg (re_lc (ri_rng1 (ra_cons re_var ra_nil)) rg_name rt_yes (re_bin (re_fn (ra_cons (re_o (ro_call (ra_cons re_var ra_nil))) ra_nil) f_int) (re_bin re_var re_int b_add) b_mod)) rg_name)
      (rs_seq (rs_for (ri_rng1 (ra_cons re_var ra_nil)) rg_name (rs_for (ri_rng2 (ra_cons (re_bin re_var re_int b_add) (ra_cons re_var ra_nil))) rg_name (rs_seq (rs_asg (re_bin (re_bin (re_fn (ra_cons (re_o (ro_call (ra_cons re_var ra_nil))) ra_nil) f_int) re_int b_mod) re_int b_sub) rg_name)
      (rs_seq (rs_if (rt_test (re_bin re_var re_int b_lt)) (rs_asg (re_bin (re_l (rl_lst (ra_cons (re_un re_int u_neg) (ra_cons re_int ra_nil)) (len_cons (len_cons len_nil)))) (re_bin (re_fn (ra_cons (re_o (ro_call (ra_cons re_var ra_nil))) ra_nil) f_int) re_int b_mod) b_ix) rg_name) (rs_if (rt_test (re_bin re_var re_int b_lt)) (rs_seq (rs_asg (re_fn (ra_cons (re_bin (re_fn (ra_cons (re_bin (re_bin re_var re_var b_ix) (re_bin re_var re_var b_ix) b_sub) ra_nil) f_abs) (re_bin re_var re_int b_sub) b_gt) ra_nil) f_int) rg_name)
      (rs_seq (rs_asg (re_bin (re_bin re_int (re_bin re_int (re_fn (ra_cons (re_bin (re_bin re_var re_var b_ix) (re_bin re_var re_var b_ix) b_lt) ra_nil) f_int) b_mul) b_sub) re_var b_mul) rg_name)
      (rs_if (rt_and (rt_test (re_bin re_var re_int b_eq)) (rt_test (re_bin (re_bin (re_fn (ra_cons (re_o (ro_call (ra_cons re_var ra_nil))) ra_nil) f_int) re_int b_mod) re_int b_eq))) (rs_asg (re_un re_var u_neg) rg_name) rs_next))) rs_next))
      (rs_seq (rs_set2 re_var re_var re_var)
      (rs_set2 (re_un re_var u_neg) re_var re_var))))))
      (rs_ret re_var)))))) h
def m__law_text : MF := mDef 4 1 []
    (mSeq (mAsgO 1 (mLO (mDs (mCons (mFn gStrI (mCons (mFn gLen (mCons (mVar 0) mNil)) mNil)) mNil))))
    (mSeq (mFor (mRng1 (mCons (mFn gLen (mCons (mVar 0) mNil)) mNil)) (mgN 2) (mFor (mRng2 (mCons (mBin (gI0 fun i j => .int (i + j)) (mVar 2) (mC (.int 1))) (mCons (mFn gLen (mCons (mVar 0) mNil)) mNil))) (mgN 3) (mApp 1 (mCons (mBin gAddS (mBin gAddS (mFn gStrI (mCons (mVar 2) mNil)) (mBin gIx (mLE (mDs (mCons (mC (.str (Str.ofString " = "))) (mCons (mC (.str (Str.ofString " > "))) (mCons (mC (.str (Str.ofString " < "))) mNil))))) (mBin gIx (mBin gIx (mVar 0) (mVar 2)) (mVar 3)))) (mFn gStrI (mCons (mVar 3) mNil))) mNil))))
    (mRet (mM1 gJoin (mC (.str (Str.ofString "
"))) (mVar 1)))))
theorem ok__law_text (T : Tx K mg ad fd w ca ia ifd) : FnG P w K mg base 1 (ad 13) (fd 13) ["a_rule"] (spOf [] m__law_text) := by
  refine okG T.F__law_text sc__law_text (fun vs H Q E h => by_len h) (fun cdv A ou s H vs Q E hr gu h => ⟨_, (pss_cons (ps_set (i := 1) sc__law_text.nd rfl (Or.inl rfl) (pe_lst (pa_cons (pe_callTy call_str_int (by rfl) T.b_str (by decide +kernel) (pa_cons (pe_callB (lenK (K := K)) (by rfl) T.b_len PySem.boot_len (pa_cons (pv 0) pa_nil)) pa_nil)) pa_nil)))
      (pss_cons (ps_for PassesOwn.never rfl (pi_range1 (by rfl) T.b_range (pa_cons (pe_callB (lenK (K := K)) (by rfl) T.b_len PySem.boot_len (pa_cons (pv 0) pa_nil)) pa_nil)) (pg_name (i := 2) sc__law_text.nd rfl (Or.inl rfl)) (pss_one (ps_for PassesOwn.never rfl (pi_range2 (by rfl) T.b_range (pa_cons (pe_op op_add (pv 2) pe_int) (pa_cons (pe_callB (lenK (K := K)) (by rfl) T.b_len PySem.boot_len (pa_cons (pv 0) pa_nil)) pa_nil))) (pg_name (i := 3) sc__law_text.nd rfl (Or.inl rfl)) (pss_one (ps_expr (bmK (K := K) (pe_bm PySem.F.plainAttrs_list PySem.F.slot_list_append PySem.F.type_list_append mt_append (pv 1) (pa_cons (pe_op op_add_str (pe_op op_add_str (pe_callTy call_str_int (by rfl) T.b_str (by decide +kernel) (pa_cons (pv 2) pa_nil)) (pe_ix (ixK (K := K)) (pe_lst (pa_cons pe_str (pa_cons pe_str (pa_cons pe_str pa_nil)))) (pe_ix (ixK (K := K)) (pe_ix (ixK (K := K)) (pv 0) (pv 2) (fun _ _ => rfl)) (pv 3) (fun _ _ => rfl)) (fun _ _ => rfl))) (pe_callTy call_str_int (by rfl) T.b_str (by decide +kernel) (pa_cons (pv 3) pa_nil))) pa_nil))))))))
      (pss_one (ps_ret (pe_joinK (K := K) pe_str (pv 1)))))), ?_⟩)
  exact def_ok (N := ["a_rule", "lines", "one", "other"]) (m := (mSeq (mAsgO 1 (mLO (mDs (mCons (mFn gStrI (mCons (mFn gLen (mCons (mVar 0) mNil)) mNil)) mNil))))
    (mSeq (mFor (mRng1 (mCons (mFn gLen (mCons (mVar 0) mNil)) mNil)) (mgN 2) (mFor (mRng2 (mCons (mBin (gI0 fun i j => .int (i + j)) (mVar 2) (mC (.int 1))) (mCons (mFn gLen (mCons (mVar 0) mNil)) mNil))) (mgN 3) (mApp 1 (mCons (mBin gAddS (mBin gAddS (mFn gStrI (mCons (mVar 2) mNil)) (mBin gIx (mLE (mDs (mCons (mC (.str (Str.ofString " = "))) (mCons (mC (.str (Str.ofString " > "))) (mCons (mC (.str (Str.ofString " < "))) mNil))))) (mBin gIx (mBin gIx (mVar 0) (mVar 2)) (mVar 3)))) (mFn gStrI (mCons (mVar 3) mNil))) mNil))))
    (mRet (mM1 gJoin (mC (.str (Str.ofString "
"))) (mVar 1)))))) ((rs_seq (rs_asgO (ro_l (rl_lst (ra_cons (re_fn (ra_cons (re_fn (ra_cons re_var ra_nil) f_len) ra_nil) f_strI) ra_nil) (len_cons len_nil))))
      (rs_seq (rs_for (ri_rng1 (ra_cons (re_fn (ra_cons re_var ra_nil) f_len) ra_nil)) rg_name (rs_for (ri_rng2 (ra_cons (re_bin re_var re_int b_add) (ra_cons (re_fn (ra_cons re_var ra_nil) f_len) ra_nil))) rg_name (rs_app (ra_cons (re_bin (re_bin (re_fn (ra_cons re_var ra_nil) f_strI) (re_bin (re_l (rl_lst (ra_cons re_str (ra_cons re_str (ra_cons re_str ra_nil))) (len_cons (len_cons (len_cons len_nil))))) (re_bin (re_bin re_var re_var b_ix) re_var b_ix) b_ix) b_addS) (re_fn (ra_cons re_var ra_nil) f_strI) b_addS) ra_nil))))
      (rs_ret (re_m1 re_str re_var b_join))))) h
def m__law_refused : MF := mDef 4 2 []
    (mSeq (mAsg (mC .none) (mgN 2))
    (mTryEq 3 2 1 0 x_format_rule (mCons (mVar 0) mNil)))
theorem ok__law_refused (T : Tx K mg ad fd w ca ia ifd) : FnG P w K mg base 5 (ad 14) (fd 14) ["thing", "item"] (spOf [] m__law_refused) := by
  refine okG T.F__law_refused sc__law_refused (fun vs H Q E h => by_len h) (fun cdv A ou s H vs Q E hr gu h => ⟨_, (pss_cons (ps_set (i := 2) sc__law_refused.nd rfl (Or.inl rfl) pe_non)
      (pss_cons (ps_try_keep (i := 3) (c := .ref (ca 0)) rfl rfl rfl sc__law_refused.nd rfl rfl ⟨by rfl, by decide, .inl T.gC_InvalidRule⟩ takes0 (fun W pn xe tk _ => pss_one (ps_expr (pe_callX (okx_format_rule T) (hr.mono (by decide)) gu (by rfl) T.g_format_rule T.F_format_rule.kp T.b_format_rule (fun σ => passAt tk σ) (pa_cons (pv 0) pa_nil)))) (fun a oe cls d pn hz hf => pss_one (ps_set (i := 2) sc__law_refused.nd rfl (Or.inl rfl) (pv 3))))
      (pss_one (ps_ret (pe_and (pe_cmpR op_notN (pv 2) pe_non (nomark _)) (pe_one (pe_cmpR (eqK (K := K) hr.units) (pe_callB (call_repr gu hr.units) (by rfl) T.b_repr (by decide +kernel) (pa_cons (kfK (K := K) (pv 2)) pa_nil)) (pe_callB (call_repr gu hr.units) (by rfl) T.b_repr (by decide +kernel) (pa_cons (pv 1) pa_nil)) (nomark _)))))))), ?_⟩)
  exact def_ok (N := ["thing", "item", "kept", "e"]) (m := (mSeq (mAsg (mC .none) (mgN 2))
    (mTryEq 3 2 1 0 x_format_rule (mCons (mVar 0) mNil)))) ((rs_seq (rs_asg re_non rg_name)
      (rs_tryEq (cl := clOf ca) (ra_cons re_var ra_nil) rfl T.kc_InvalidRule T.ex_InvalidRule))) h
def m__law_right : MF := mDef 8 1 [0]
    (mSeq (mAsg (mFz (mCall [0] m__law_rule (mCons (mVar 0) (mCons (mBin gMod (mFn gInt (mCons (mFz (mCall [0] m__law_next (mCons (mVar 0) mNil))) mNil)) (mC (.int 13))) mNil)))) (mgN 1))
    (mSeq (mAsg (mFn gRepr (mCons (mVar 1) mNil)) (mgN 2))
    (mSeq (mAsg (mFz (mCall [] m__law_text (mCons (mVar 1) mNil))) (mgN 3))
    (mSeq (mIf (mOr (mT (mBin (gEq true) (mFz (mCall [] m_format_rule (mCons (mVar 1) mNil))) (mVar 3))) (mOr (mT (mBin (gEq true) (mFz (mCallN [] [0] m_format_rule mNil (mCons (mVar 1) mNil))) (mVar 3))) (mT (mBin (gEq true) (mFn gRepr (mCons (mVar 1) mNil)) (mVar 2))))) (mRet (mC (.bool false))) mNext)
    (mSeq (mAsg2 4 5 (mCall [] m_parse_rule (mCons (mVar 3) mNil)) (mFzO (mFz (mCallN [] [0] m_parse_rule mNil (mCons (mVar 3) mNil)))))
    (mSeq (mIf (mOr (mT (mBin (gEq true) (mFn gRepr (mCons (mVar 4) mNil)) (mVar 2))) (mT (mBin (gEq true) (mVar 5) (mVar 1)))) (mRet (mC (.bool false))) mNext)
    (mSeq (mIf (mT (mBin (gEq true) (mVar 4) (mLE (mDs mNil)))) (mAlias 4 6 (mC (.int 0)) (mCons (mC .none) mNil)
    (mIf (mT (mBin (gEq true) (mScoped 4 (mFn gLen (mCons (mLE (mLc (mItL (mVar 4)) (mgN 7) (mT (mBin (gIn false) (mC .none) (mVar 7))) (mVar 7) [7])) mNil))) (mC (.int 1)))) (mRet (mC (.bool false))) mNext)) mNext)
    (mSeq (mAppG 4 (mCons (mC .none) mNil))
    (mSeq (mIf (mT (mBin (gEq true) (mFz (mCall [] m_parse_rule (mCons (mVar 3) mNil))) (mVar 1))) (mRet (mC (.bool false))) mNext)
    (mRet (mAndV (mFz (mCall [] m__law_refused (mCons (mC .none) (mCons (mC .none) mNil)))) (mAndV (mFz (mCall [] m__law_refused (mCons (mLE (mDs (mCons (mLE (mDs (mCons (mC (.int 0)) (mCons (mC (.int 1)) mNil)))) (mCons (mLE (mDs (mCons (mC (.int 1)) (mCons (mC (.int 0)) mNil)))) mNil)))) (mCons (mC (.int 0)) mNil)))) (mFz (mCall [] m__law_refused (mCons (mLE (mDs (mCons (mLE (mDs (mCons (mC (.int 0)) mNil))) (mCons (mLE (mDs (mCons (mC (.int 0)) (mCons (mC (.int 0)) mNil)))) mNil)))) (mCons (mC (.int 0)) mNil))))))))))))))))
theorem ok__law_right (T : Tx K mg ad fd w ca ia ifd) : FnG P w K mg base 6 (ad 15) (fd 15) ["draws"] (spOf [0] m__law_right) := by
  refine okG T.F__law_right sc__law_right (fun vs H Q E h => by_len h) (fun cdv A ou s H vs Q E hr gu h => ⟨_, (pss_cons (ps_set (i := 1) sc__law_right.nd rfl (Or.inl rfl) (pe_callG (ok__law_rule T) (hr.mono (by decide)) gu (by rfl) T.g__law_rule T.F__law_rule.kp T.b__law_rule .nil (pa_cons (pv 0) (pa_cons (pe_op op_modN (pe_callTy call_int1 (by rfl) T.b_int (by decide +kernel) (pa_cons (pe_callG (ok__law_next T) (hr.mono (by decide)) gu (by rfl) T.g__law_next T.F__law_next.kp T.b__law_next .nil (pa_cons (pv 0) pa_nil)) pa_nil)) pe_int) pa_nil))))
      (pss_cons (ps_set (i := 2) sc__law_right.nd rfl (Or.inl rfl) (pe_callB (call_repr gu hr.units) (by rfl) T.b_repr (by decide +kernel) (pa_cons (pv 1) pa_nil)))
      (pss_cons (ps_set (i := 3) sc__law_right.nd rfl (Or.inl rfl) (pe_callG (ok__law_text T) (hr.mono (by decide)) gu (by rfl) T.g__law_text T.F__law_text.kp T.b__law_text .nil (pa_cons (pv 1) pa_nil)))
      (pss_cons (ps_if (PW.pt (pw_or (pt_cmpR (neK (K := K) hr.units) (pe_callG (ok_format_rule T) (hr.mono (by decide)) gu (by rfl) T.g_format_rule T.F_format_rule.kp T.b_format_rule .nil (pa_cons (pv 1) pa_nil)) (pv 3) (nomark _)) (pw_or (pt_cmpR (neK (K := K) hr.units) (pe_callGK0 (ok_format_rule T) (hr.mono (by decide)) gu (by rfl) T.g_format_rule T.F_format_rule.kp (kb_of (n := 0) (ks := ["rule"]) T.F_format_rule [0] (fun _ _ _ _ _ _ us ws l1 l2 => match us, l1, ws, l2 with | [], _, [_], _ => rfl)) (pk_cons (pv 1) pk_nil)) (pv 3) (nomark _)) (pw_or1 (pt_cmpR (neK (K := K) hr.units) (pe_callB (call_repr gu hr.units) (by rfl) T.b_repr (by decide +kernel) (pa_cons (pv 1) pa_nil)) (pv 2) (nomark _)))))) (pss_one (ps_ret pe_bl)) pss_nil)
      (pss_cons (ps_par (by rfl) sc__law_right.nd (i := 4) (j := 5) rfl rfl (by decide) rfl rfl (pa_cons (pe_callG (ok_parse_rule T) (hr.mono (by decide)) gu (by rfl) T.g_parse_rule T.F_parse_rule.kp T.b_parse_rule .nil (pa_cons (pv 3) pa_nil)) (pa_cons (pe_callGK0 (ok_parse_rule T) (hr.mono (by decide)) gu (by rfl) T.g_parse_rule T.F_parse_rule.kp (kb_of (n := 0) (ks := ["text"]) T.F_parse_rule [0] (fun _ _ _ _ _ _ us ws l1 l2 => match us, l1, ws, l2 with | [], _, [_], _ => rfl)) (pk_cons (pv 3) pk_nil)) pa_nil)) (by rfl))
      (pss_cons (ps_if (PW.pt (pw_or (pt_cmpR (neK (K := K) hr.units) (pe_callB (call_repr gu hr.units) (by rfl) T.b_repr (by decide +kernel) (pa_cons (pv 4) pa_nil)) (pv 2) (nomark _)) (pw_or1 (pt_cmpR (neK (K := K) hr.units) (pv 5) (pv 1) (nomark _))))) (pss_one (ps_ret pe_bl)) pss_nil)
      (pss_cons (ps_if (pt_cmpR (neK (K := K) hr.units) (pv 4) (pe_lst pa_nil) (nomark _)) (pss_cons (ps_set (i := 6) sc__law_right.nd rfl (Or.inl rfl) (pe_ix (ixK (K := K)) (pv 4) pe_int (fun _ _ => rfl)))
      (pss_cons (ps_expr (bmK (K := K) (pe_bm PySem.F.plainAttrs_list PySem.F.slot_list_append PySem.F.type_list_append mt_append (pv 6) (pa_cons pe_non pa_nil))))
      (pss_one (ps_if (pt_cmpR (neK (K := K) hr.units) (pe_callB (lenK (K := K)) (by rfl) T.b_len PySem.boot_len (pa_cons (pe_lc (own := [("answers", 7)]) (g := gName 7) rfl sc__law_right.nd (pi_listK (K := K) (pv 4)) (blkOk_by (own := [("answers", 7)]) (by kernel_rfl)) (fun _ _ _ _ _ => (pg_name (i := 7) sc__law_right.nd rfl (Or.inl rfl))) (fun _ _ _ _ _ => (pts_one (pt_cmpR (inK (K := K)) pe_non (pv 7) (by with_unfolding_all rfl)))) (fun _ _ _ _ _ => (pv 7))) pa_nil)) pe_int (nomark _)) (pss_one (ps_ret pe_bl)) pss_nil)))) pss_nil)
      (pss_cons (ps_expr (bmK (K := K) (pe_bm PySem.F.plainAttrs_list PySem.F.slot_list_append PySem.F.type_list_append mt_append (pv 4) (pa_cons pe_non pa_nil))))
      (pss_cons (ps_if (pt_cmpR (neK (K := K) hr.units) (pe_callG (ok_parse_rule T) (hr.mono (by decide)) gu (by rfl) T.g_parse_rule T.F_parse_rule.kp T.b_parse_rule .nil (pa_cons (pv 3) pa_nil)) (pv 1) (nomark _)) (pss_one (ps_ret pe_bl)) pss_nil)
      (pss_one (ps_ret (pe_and (pe_callG (ok__law_refused T) (hr.mono (by decide)) gu (by rfl) T.g__law_refused T.F__law_refused.kp T.b__law_refused .nil (pa_cons pe_non (pa_cons pe_non pa_nil))) (pe_and (pe_callG (ok__law_refused T) (hr.mono (by decide)) gu (by rfl) T.g__law_refused T.F__law_refused.kp T.b__law_refused .nil (pa_cons (pe_lst (pa_cons (pe_lst (pa_cons pe_int (pa_cons pe_int pa_nil))) (pa_cons (pe_lst (pa_cons pe_int (pa_cons pe_int pa_nil))) pa_nil))) (pa_cons pe_int pa_nil))) (pe_one (pe_callG (ok__law_refused T) (hr.mono (by decide)) gu (by rfl) T.g__law_refused T.F__law_refused.kp T.b__law_refused .nil (pa_cons (pe_lst (pa_cons (pe_lst (pa_cons pe_int pa_nil)) (pa_cons (pe_lst (pa_cons pe_int (pa_cons pe_int pa_nil))) pa_nil))) (pa_cons pe_int pa_nil))))))))))))))))), ?_⟩)
  exact def_ok (N := ["draws", "a_rule", "kept", "due", "told", "other", "first", "answers"]) (m := (mSeq (mAsg (mFz (mCall [0] m__law_rule (mCons (mVar 0) (mCons (mBin gMod (mFn gInt (mCons (mFz (mCall [0] m__law_next (mCons (mVar 0) mNil))) mNil)) (mC (.int 13))) mNil)))) (mgN 1))
    (mSeq (mAsg (mFn gRepr (mCons (mVar 1) mNil)) (mgN 2))
    (mSeq (mAsg (mFz (mCall [] m__law_text (mCons (mVar 1) mNil))) (mgN 3))
    (mSeq (mIf (mOr (mT (mBin (gEq true) (mFz (mCall [] m_format_rule (mCons (mVar 1) mNil))) (mVar 3))) (mOr (mT (mBin (gEq true) (mFz (mCallN [] [0] m_format_rule mNil (mCons (mVar 1) mNil))) (mVar 3))) (mT (mBin (gEq true) (mFn gRepr (mCons (mVar 1) mNil)) (mVar 2))))) (mRet (mC (.bool false))) mNext)
    (mSeq (mAsg2 4 5 (mCall [] m_parse_rule (mCons (mVar 3) mNil)) (mFzO (mFz (mCallN [] [0] m_parse_rule mNil (mCons (mVar 3) mNil)))))
    (mSeq (mIf (mOr (mT (mBin (gEq true) (mFn gRepr (mCons (mVar 4) mNil)) (mVar 2))) (mT (mBin (gEq true) (mVar 5) (mVar 1)))) (mRet (mC (.bool false))) mNext)
    (mSeq (mIf (mT (mBin (gEq true) (mVar 4) (mLE (mDs mNil)))) (mAlias 4 6 (mC (.int 0)) (mCons (mC .none) mNil)
    (mIf (mT (mBin (gEq true) (mScoped 4 (mFn gLen (mCons (mLE (mLc (mItL (mVar 4)) (mgN 7) (mT (mBin (gIn false) (mC .none) (mVar 7))) (mVar 7) [7])) mNil))) (mC (.int 1)))) (mRet (mC (.bool false))) mNext)) mNext)
    (mSeq (mAppG 4 (mCons (mC .none) mNil))
    (mSeq (mIf (mT (mBin (gEq true) (mFz (mCall [] m_parse_rule (mCons (mVar 3) mNil))) (mVar 1))) (mRet (mC (.bool false))) mNext)
    (mRet (mAndV (mFz (mCall [] m__law_refused (mCons (mC .none) (mCons (mC .none) mNil)))) (mAndV (mFz (mCall [] m__law_refused (mCons (mLE (mDs (mCons (mLE (mDs (mCons (mC (.int 0)) (mCons (mC (.int 1)) mNil)))) (mCons (mLE (mDs (mCons (mC (.int 1)) (mCons (mC (.int 0)) mNil)))) mNil)))) (mCons (mC (.int 0)) mNil)))) (mFz (mCall [] m__law_refused (mCons (mLE (mDs (mCons (mLE (mDs (mCons (mC (.int 0)) mNil))) (mCons (mLE (mDs (mCons (mC (.int 0)) (mCons (mC (.int 0)) mNil)))) mNil)))) (mCons (mC (.int 0)) mNil))))))))))))))))) ((rs_seq (rs_asg (re_o (ro_call (ra_cons re_var (ra_cons (re_bin (re_fn (ra_cons (re_o (ro_call (ra_cons re_var ra_nil))) ra_nil) f_int) re_int b_mod) ra_nil)))) rg_name)
      (rs_seq (rs_asg (re_fn (ra_cons re_var ra_nil) f_repr) rg_name)
      (rs_seq (rs_asg (re_o (ro_call (ra_cons re_var ra_nil))) rg_name)
      (rs_seq (rs_if (rt_or (rt_test (re_bin (re_o (ro_call (ra_cons re_var ra_nil))) re_var b_ne)) (rt_or (rt_test (re_bin (re_o (ro_callN ra_nil (ra_cons re_var ra_nil) len_nil (len_cons len_nil))) re_var b_ne)) (rt_test (re_bin (re_fn (ra_cons re_var ra_nil) f_repr) re_var b_ne)))) (rs_ret re_bl) rs_next)
      (rs_seq (rs_asg2 (ro_call (ra_cons re_var ra_nil)) (ro_e (re_o (ro_callN ra_nil (ra_cons re_var ra_nil) len_nil (len_cons len_nil)))))
      (rs_seq (rs_if (rt_or (rt_test (re_bin (re_fn (ra_cons re_var ra_nil) f_repr) re_var b_ne)) (rt_test (re_bin re_var re_var b_ne))) (rs_ret re_bl) rs_next)
      (rs_seq (rs_if (rt_test (re_bin re_var (re_l (rl_lst ra_nil len_nil)) b_ne)) (rs_alias re_int (ra_cons re_non ra_nil)
      (rs_if (rt_test (re_bin (re_scoped (j := 4) (re_fn (ra_cons (re_lc (ri_list re_var) rg_name (rt_test (re_bin re_non re_var (b_in false))) re_var) ra_nil) f_len)) re_int b_ne)) (rs_ret re_bl) rs_next)) rs_next)
      (rs_seq (rs_appG (ra_cons re_non ra_nil))
      (rs_seq (rs_if (rt_test (re_bin (re_o (ro_call (ra_cons re_var ra_nil))) re_var b_ne)) (rs_ret re_bl) rs_next)
      (rs_ret (re_andV (re_o (ro_call (ra_cons re_non (ra_cons re_non ra_nil)))) (re_andV (re_o (ro_call (ra_cons (re_l (rl_lst (ra_cons (re_l (rl_lst (ra_cons re_int (ra_cons re_int ra_nil)) (len_cons (len_cons len_nil)))) (ra_cons (re_l (rl_lst (ra_cons re_int (ra_cons re_int ra_nil)) (len_cons (len_cons len_nil)))) ra_nil)) (len_cons (len_cons len_nil)))) (ra_cons re_int ra_nil)))) (re_o (ro_call (ra_cons (re_l (rl_lst (ra_cons (re_l (rl_lst (ra_cons re_int ra_nil) (len_cons len_nil))) (ra_cons (re_l (rl_lst (ra_cons re_int (ra_cons re_int ra_nil)) (len_cons (len_cons len_nil)))) ra_nil)) (len_cons (len_cons len_nil)))) (ra_cons re_int ra_nil))))))))))))))))) h
noncomputable def m_law (K : PySem.W.Frag) (ca : Nat → Addr) : MF := mDef 4 1 []
    (mSeq (mFor (mItL (mLE (mBinL gCat (mLE (mSlS K 0 mNoPart (mPart (mC (.int 6))))) (mLE (mDs (mCons (mC (.int 0)) mNil)))))) (mgN 1) (mSeq (mAsgO 2 (mCall [] m__law_draws (mCons (mVar 1) mNil)))
    (mFor (mRng1 (mCons (mC (.int 3)) mNil)) (mgN 3) (mIf (mNot (mT (mFz (mCall [0] m__law_right (mCons (mVar 2) mNil))))) (mRet (mC (.bool false))) mNext))))
    (mRet (mC (.bool true))))
theorem ok_law (T : Tx K mg ad fd w ca ia ifd) : FnG P w K mg base 7 (ad 16) (fd 16) ["script"] (spOf [] (m_law K ca)) := by
  refine okG T.F_law sc_law (fun vs H Q E h => by_len h) (fun cdv A ou s H vs Q E hr gu h => ⟨_, (pss_cons (ps_for PassesOwn.never rfl (pi_listK (K := K) (pe_op op_cat (pe_slice (slK (K := K)) (pv 0) po_none (po_some pe_int)) (pe_lst (pa_cons pe_int pa_nil)))) (pg_name (i := 1) sc_law.nd rfl (Or.inl rfl)) (pss_cons (ps_set (i := 2) sc_law.nd rfl (Or.inl rfl) (pe_callG (ok__law_draws T) (hr.mono (by decide)) gu (by rfl) T.g__law_draws T.F__law_draws.kp T.b__law_draws .nil (pa_cons (pv 1) pa_nil)))
      (pss_one (ps_for PassesOwn.never rfl (pi_range1 (by rfl) T.b_range (pa_cons pe_int pa_nil)) (pg_name (i := 3) sc_law.nd rfl (Or.inl rfl)) (pss_one (ps_if (pt_not (pt_val (pe_callG (ok__law_right T) (hr.mono (by decide)) gu (by rfl) T.g__law_right T.F__law_right.kp T.b__law_right .nil (pa_cons (pv 2) pa_nil)))) (pss_one (ps_ret pe_bl)) pss_nil))))))
      (pss_one (ps_ret pe_bl))), ?_⟩)
  exact def_ok (N := ["script", "cell", "draws", "turn"]) (m := (mSeq (mFor (mItL (mLE (mBinL gCat (mLE (mSlS K 0 mNoPart (mPart (mC (.int 6))))) (mLE (mDs (mCons (mC (.int 0)) mNil)))))) (mgN 1) (mSeq (mAsgO 2 (mCall [] m__law_draws (mCons (mVar 1) mNil)))
    (mFor (mRng1 (mCons (mC (.int 3)) mNil)) (mgN 3) (mIf (mNot (mT (mFz (mCall [0] m__law_right (mCons (mVar 2) mNil))))) (mRet (mC (.bool false))) mNext))))
    (mRet (mC (.bool true))))) ((rs_seq (rs_for (ri_list (re_l (rl_bin (re_l (rl_slS rq_none (rq_some re_int))) (re_l (rl_lst (ra_cons re_int ra_nil) (len_cons len_nil))) b_cat))) rg_name (rs_seq (rs_asgO (ro_call (ra_cons re_var ra_nil)))
      (rs_for (ri_rng1 (ra_cons re_int ra_nil)) rg_name (rs_if (rt_not (rt_B (re_o (ro_call (ra_cons re_var ra_nil))))) (rs_ret re_bl) rs_next))))
      (rs_ret re_bl))) h
end
end My
namespace My
open PySem PySem.Spec PyProof.Rows L2 Tr
open Prod (fst snd)
theorem def_same {n np : Nat} {m : MS} {os os' : List O} {r : O} (h : mDef n np [] m os = some (r, os')) : os' = os := by
  unfold mDef at h
  split at h
  · split at h
    · cases h; rfl
    · cases h; rfl
    · cases h
  · cases h
def isYes : Option (O × List O) → Bool
  | some (.fz (.bool true), _) => true
  | _ => false
theorem isYes_of {r : Option (O × List O)} (h : isYes r = true) : ∃ os, r = some (.fz (.bool true), os) := by
  unfold isYes at h
  split at h
  · exact ⟨_, rfl⟩
  · cases h
theorem ref_of {a b : PyData} (h : isYes (m__law_refused [.fz a, .fz b]) = true) : m__law_refused [.fz a, .fz b] = some (.fz (.bool true), [.fz a, .fz b]) := by
  obtain ⟨os, e⟩ := isYes_of h
  have := def_same e
  rw [this] at e
  exact e
theorem ref1 : m__law_refused [.fz .none, .fz .none] = some (.fz (.bool true), [.fz .none, .fz .none]) := ref_of (by decide +kernel)
abbrev bad1 : PyData := .list [.list [.int 0, .int 1], .list [.int 1, .int 0]]
abbrev bad2 : PyData := .list [.list [.int 0], .list [.int 0, .int 0]]
theorem ref2 : m__law_refused [.fz bad1, .fz (.int 0)] = some (.fz (.bool true), [.fz bad1, .fz (.int 0)]) := ref_of (by decide +kernel)
theorem ref3 : m__law_refused [.fz bad2, .fz (.int 0)] = some (.fz (.bool true), [.fz bad2, .fz (.int 0)]) := ref_of (by decide +kernel)
/-- a call of known things -/
theorem call1 {mf : MF} {os os' : List O} {r : O} {ps : List P} {env : En} (h : mf os = some (r, os')) (hs : os' = os) (h1 : prepA [] 0 ps env = some (os, os.map fun _ => none, env)) : callP [] mf ps env = some (r, env) := by
  subst hs
  have g1 : ∀ l : List O, lentsOk (l.map fun _ => (none : Option Nat)) = true := fun l => by
    induction l with
    | nil => rfl
    | cons a l ih => exact ih
  have g2 : ∀ (l : List O) (e : En), lendA (l.map fun _ => (none : Option Nat)) l e = some l := fun l e => by
    induction l with
    | nil => rfl
    | cons a l ih => show (lendA (l.map fun _ => none) l e).map (a :: ·) = _; rw [ih]; rfl
  have g3 : ∀ (l : List O) (e : En), backA (l.map fun _ => (none : Option Nat)) l e = some e := fun l e => by
    induction l with
    | nil => rfl
    | cons a l ih => exact ih
  unfold callP
  rw [h1]
  simp only [g1, if_true, g2, h, g3]
theorem lc_filter {mi : ML} {mt : MT} {i : Nat} {env e e0 : En} {ds : List PyData} (t : PyData → Bool) (h : mi env = some (ds, e)) (h0 : e.set i none = e0) (hw : e0.set i none = e0) (hi : i < e0.length) (hy : ∀ d ∈ ds, mt (e0.set i (some (.fz d))) = some (t d, e0.set i (some (.fz d)))) (hz : ds.length ≤ sizeLine) :
    mLc mi (mgN i) mt (mVar i) [i] env = some (ds.filter t, e0) := by
  have go : ∀ (ds acc : List PyData), (∀ d ∈ ds, mt (e0.set i (some (.fz d))) = some (t d, e0.set i (some (.fz d)))) → acc.length + ds.length ≤ sizeLine → mLcGo (mgN i) mt (mVar i) [i] ds acc e0 = some (acc ++ ds.filter t, e0) := by
    intro ds
    induction ds with
    | nil => intro acc _ _; show some (acc, e0) = _; rw [List.filter_nil, List.append_nil]
    | cons d r ih =>
      intro acc hy hz
      rw [List.length_cons] at hz
      have h1 := hy d (by simp)
      have g1 : mgN i d e0 = some (e0.set i (some (.fz d))) := rfl
      have v1 : mVar i (e0.set i (some (.fz d))) = some (.val d, e0.set i (some (.fz d))) := by
        unfold mVar
        rw [List.getElem?_set_self hi]
      have w1 : wipeE (e0.set i (some (.fz d))) [i] = e0 := by
        show (e0.set i (some (.fz d))).set i none = e0
        rw [List.set_set, hw]
      unfold mLcGo
      simp only [g1, h1]
      cases ht : t d with
      | true =>
        simp only [v1, fzP, w1]
        rw [if_pos (by omega), ih _ (fun x hx => hy x (by simp [hx])) (by rw [List.length_append, List.length_singleton]; omega), List.filter_cons_of_pos ht, List.append_assoc]
        rfl
      | false =>
        simp only [w1]
        rw [ih _ (fun x hx => hy x (by simp [hx])) (by omega), List.filter_cons_of_neg (by rw [ht]; exact Bool.false_ne_true)]
  unfold mLc bnd
  simp only [h]
  show mLcGo (mgN i) mt (mVar i) [i] ds [] (e.set i none) = _
  rw [h0, go ds [] hy (by simpa using hz), List.nil_append]
end My
namespace My
open PySem PySem.Spec L2 Tr
open Prod (fst snd)
theorem alias_eq {j l n : Nat} {mi : ME} {ma : MA} {m : MS} {env e1 e2 : En} {rows : List (List PyData)} {row : List PyData} {x : Int} {d : PyData} (h : env[j]? = some (some (.ow2 rows))) (hi : mi env = some (.val (.int x), e1)) (hx : ixN rows.length x = some n) (hr : rows[n]? = some row) (ha : ma (env.set l none) = some ([.val d], e2)) (hl : l < env.length ∧ row.length < sizeLine) :
    mAlias j l mi ma m env = m ((env.set l none).set j (some (.ow2 (rows.set n (row ++ [d]))))) := by
  unfold mAlias
  simp only [h, hi, hx, hr, ha]
  rw [if_pos hl]
theorem seq_eq {a b : MS} {env e1 : En} (h : a env = some (.nx, e1)) : mSeq a b env = b e1 := by unfold mSeq; rw [h]
def hasN : PyData → Bool
  | .list xs => xs.any fun y => PyData.eqv y .none
  | _ => false
theorem eqv_in (i : Int) : PyData.eqv (.int i) .none = false := by simp [PyData.eqv]
theorem eqv_nn : PyData.eqv .none .none = true := by simp [PyData.eqv]
theorem hasN_row (xs : List Int) : hasN (encL encI xs) = false := by
  show (xs.map encI).any _ = false
  rw [List.any_map, List.any_eq_false]
  intro i _
  show ¬ (PyData.eqv (.int i) .none = true)
  rw [eqv_in]
  exact Bool.false_ne_true
theorem hasN_odd (xs : List Int) : hasN (.list (xs.map encI ++ [PyData.none])) = true := by
  show (xs.map encI ++ [PyData.none]).any _ = true
  rw [List.any_append]
  show (_ || ([PyData.none].any fun y => PyData.eqv y .none)) = true
  rw [show ([PyData.none].any fun y => PyData.eqv y .none) = true from by show (PyData.eqv .none .none || false) = true; rw [eqv_nn]; rfl, Bool.or_true]
theorem flat_ints (xs : List Int) : (xs.map encI).all flat = true := by
  rw [List.all_map, List.all_eq_true]
  intro i _
  rfl
abbrev inT : MT := mT (mBin (gIn false) (mC .none) (mVar 7))
theorem in_test {e : En} {xs : List PyData} (h : e[7]? = some (some (.fz (.list xs)))) (hf : xs.all flat = true) : inT e = some (hasN (.list xs), e) := by
  have v : mVar 7 e = some (.val (.list xs), e) := by unfold mVar; simp only [h]
  have g : mBin (gIn false) (mC .none) (mVar 7) e = some (.val (.bool (hasN (.list xs))), e) := by
    refine (bnd_eq (a := .val .none) rfl).trans ((bnd_eq v).trans ?_)
    show Option.map _ (if (flat .none && xs.all flat) = true then _ else _) = _
    rw [hf]
    show some (P.val (.bool (false ^^ xs.any fun y => PyData.eqv y .none)), e) = _
    rw [Bool.false_xor]
    rfl
  exact (bnd_eq g).trans rfl
abbrev cntE : ME := mFn gLen (mCons (mLE (mLc (mItL (mVar 4)) (mgN 7) inT (mVar 7) [7])) mNil)
theorem cnt_ok {row : List Int} {rest : List (List Int)} {e : En} (hl : rest.length < 1000000) (he : e = [none, none, none, none, some (.fz (.list (.list (row.map encI ++ [PyData.none]) :: rest.map (encL encI)))), none, none, none]) : cntE e = some (.val (.int 1), e) := by
  subst he
  have lc := lc_filter (mi := mItL (mVar 4)) (mt := inT) (i := 7) (env := [none, none, none, none, some (.fz (.list (.list (row.map encI ++ [PyData.none]) :: rest.map (encL encI)))), none, none, none]) (e := [none, none, none, none, some (.fz (.list (.list (row.map encI ++ [PyData.none]) :: rest.map (encL encI)))), none, none, none]) (e0 := [none, none, none, none, some (.fz (.list (.list (row.map encI ++ [PyData.none]) :: rest.map (encL encI)))), none, none, none]) (ds := .list (row.map encI ++ [PyData.none]) :: rest.map (encL encI)) hasN rfl rfl rfl (show 7 < 8 by decide) (fun d hd => by
    rcases List.mem_cons.mp hd with rfl | hd
    · exact in_test rfl (by rw [List.all_append, flat_ints]; rfl)
    · obtain ⟨xs, _, rfl⟩ := List.mem_map.mp hd
      exact in_test rfl (flat_ints xs)) (by rw [List.length_cons, List.length_map]; exact le_line (by omega))
  have ft : (PyData.list (row.map encI ++ [PyData.none]) :: rest.map (encL encI)).filter hasN = [.list (row.map encI ++ [PyData.none])] := by
    rw [List.filter_cons_of_pos (hasN_odd row)]
    congr 1
    refine List.filter_eq_nil_iff.mpr fun d hd => ?_
    obtain ⟨xs, _, rfl⟩ := List.mem_map.mp hd
    rw [hasN_row]
    exact Bool.false_ne_true
  rw [ft] at lc
  exact (bnd_eq ((bnd_eq ((bnd_eq lc).trans rfl)).trans rfl)).trans rfl
/-! ### the rest of _law_right -/
abbrev T1 : MS := mIf (mT (mBin (gEq true) (mVar 4) (mLE (mDs mNil)))) (mAlias 4 6 (mC (.int 0)) (mCons (mC .none) mNil)
    (mIf (mT (mBin (gEq true) (mScoped 4 cntE) (mC (.int 1)))) (mRet (mC (.bool false))) mNext)) mNext
abbrev T3 : MS := mIf (mT (mBin (gEq true) (mFz (mCall [] m_parse_rule (mCons (mVar 3) mNil))) (mVar 1))) (mRet (mC (.bool false))) mNext
abbrev T4 : MS := mRet (mAndV (mFz (mCall [] m__law_refused (mCons (mC .none) (mCons (mC .none) mNil)))) (mAndV (mFz (mCall [] m__law_refused (mCons (mLE (mDs (mCons (mLE (mDs (mCons (mC (.int 0)) (mCons (mC (.int 1)) mNil)))) (mCons (mLE (mDs (mCons (mC (.int 1)) (mCons (mC (.int 0)) mNil)))) mNil)))) (mCons (mC (.int 0)) mNil)))) (mFz (mCall [] m__law_refused (mCons (mLE (mDs (mCons (mLE (mDs (mCons (mC (.int 0)) mNil))) (mCons (mLE (mDs (mCons (mC (.int 0)) (mCons (mC (.int 0)) mNil)))) mNil)))) (mCons (mC (.int 0)) mNil))))))
structure TailOk (r : List (List Int)) (due : Str) (told : List (List Int)) : Prop where
  eq : told = r
  len : r.length < 1000
  lens : ∀ row ∈ r, row.length < 1000
  pr : m_parse_rule [.fz (encS due)] = some (.ow2 (r.map fun r => r.map encI), [.fz (encS due)])
open Classical in
noncomputable def t_tail (r : List (List Int)) (due : Str) (told : List (List Int)) : Option Bool := if TailOk r due told then some true else none
theorem tail_of {r : List (List Int)} {due : Str} {told : List (List Int)} (h : TailOk r due told) : t_tail r due told = some true := if_pos h
theorem enc_rows (r : List (List Int)) : (r.map fun x => x.map encI).map PyData.list = r.map (encL encI) := by rw [List.map_map]; rfl
theorem neq_of {ma mb : ME} {env : En} {a b : List (List Int)} {p q : P} (ha : ma env = some (p, env)) (hb : mb env = some (q, env)) (va : vw env p = some (encL (encL encI) a)) (vb : vw env q = some (encL (encL encI) b)) : mT (mBin (gEq true) ma mb) env = some (!decide (a = b), env) := by
  have e : mBin (gEq true) ma mb env = some (.val (.bool (true ^^ decide (a = b))), env) := (bnd_eq ha).trans ((bnd_eq hb).trans (oe_eq0 (eo_L (eo_L eo_I)) va vb))
  refine (bnd_eq e).trans ?_
  rw [Bool.true_xor]
  rfl
theorem if_eq {t : MT} {a b : MS} {env e : En} {c : Bool} (h : t env = some (c, e)) : mIf t a b env = if c = true then a e else b e := by
  refine (bnd_eq h).trans ?_
  cases c <;> rfl
section
variable {D : List PyData} {r : List (List Int)} {due : Str} {x2 x5 x6 : Option O}
abbrev E8 (D : List PyData) (r : List (List Int)) (x2 : Option O) (due : Str) (x4 x5 x6 : Option O) : En := [some (.ow D), some (.fz (encL (encL encI) r)), x2, some (.fz (encS due)), x4, x5, x6, none]
theorem T1_ok (hl : r.length < 1000) (hr : ∀ row ∈ r, row.length < 1000) : ∃ rows x6', T1 (E8 D r x2 due (some (.ow2 (r.map fun r => r.map encI))) x5 x6) = some (.nx, E8 D r x2 due (some (.ow2 rows)) x5 x6') ∧ rows.length = r.length := by
  have t := neq_of (ma := mVar 4) (mb := mLE (mDs mNil)) (env := E8 D r x2 due (some (.ow2 (r.map fun r => r.map encI))) x5 x6) (a := r) (b := []) (p := .var 4) (q := .val (.list [])) rfl rfl (by show some (PyData.list _) = _; rw [enc_rows]; rfl) rfl
  cases r with
  | nil =>
    refine ⟨[], x6, (if_eq t).trans ?_, rfl⟩
    rfl
  | cons row rest =>
    have hz := hr row (List.mem_cons_self ..)
    rw [List.length_cons] at hl
    refine ⟨(row.map encI ++ [PyData.none]) :: rest.map fun r => r.map encI, none, (if_eq t).trans ?_, by rw [List.length_cons, List.length_map, List.length_cons]⟩
    rw [if_pos (by rw [decide_eq_false (fun z => nomatch z)]; rfl)]
    refine (alias_eq (n := 0) (rows := row.map encI :: rest.map fun r => r.map encI) (row := row.map encI) (x := 0) (d := .none) (e1 := E8 D (row :: rest) x2 due (some (.ow2 ((row :: rest).map fun r => r.map encI))) x5 x6) rfl rfl (ixN_nat (k := 0) (by rw [List.length_cons]; omega)) rfl rfl ⟨(show 6 < 8 by decide), by rw [List.length_map]; exact lt_line (by omega)⟩).trans ?_
    have sc : mScoped 4 cntE (E8 D (row :: rest) x2 due (some (.ow2 ((row.map encI ++ [PyData.none]) :: rest.map fun r => r.map encI))) x5 none) = some (.val (.int 1), E8 D (row :: rest) x2 due (some (.ow2 ((row.map encI ++ [PyData.none]) :: rest.map fun r => r.map encI))) x5 none) := by
      unfold mScoped
      show (match cntE [none, none, none, none, some (.fz (.list (((row.map encI ++ [PyData.none]) :: rest.map fun r => r.map encI).map PyData.list))), none, none, none] with | some (.val (.int i), _) => some (P.val (.int i), _) | _ => none) = _
      rw [List.map_cons, enc_rows, cnt_ok (by omega) rfl]
    have t2 : mT (mBin (gEq true) (mScoped 4 cntE) (mC (.int 1))) (E8 D (row :: rest) x2 due (some (.ow2 ((row.map encI ++ [PyData.none]) :: rest.map fun r => r.map encI))) x5 none) = some (false, E8 D (row :: rest) x2 due (some (.ow2 ((row.map encI ++ [PyData.none]) :: rest.map fun r => r.map encI))) x5 none) := by
      have e : mBin (gEq true) (mScoped 4 cntE) (mC (.int 1)) (E8 D (row :: rest) x2 due (some (.ow2 ((row.map encI ++ [PyData.none]) :: rest.map fun r => r.map encI))) x5 none) = some (.val (.bool (true ^^ decide ((1 : Int) = 1))), _) := (bnd_eq sc).trans ((bnd_eq (a := .val (.int 1)) rfl).trans (oe_eq0 (a := (1 : Int)) (b := 1) eo_I rfl rfl))
      exact (bnd_eq e).trans rfl
    exact (if_eq t2).trans rfl
theorem T3_ok {x4 : Option O} (h : m_parse_rule [.fz (encS due)] = some (.ow2 (r.map fun r => r.map encI), [.fz (encS due)])) : T3 (E8 D r x2 due x4 x5 x6) = some (.nx, E8 D r x2 due x4 x5 x6) := by
  have c := call1 (ps := [.val (encS due)]) (env := E8 D r x2 due x4 x5 x6) h rfl rfl
  have c2 : mFz (mCall [] m_parse_rule (mCons (mVar 3) mNil)) (E8 D r x2 due x4 x5 x6) = some (.val (encL (encL encI) r), E8 D r x2 due x4 x5 x6) := by
    refine (bnd_eq (a := .ow2 (r.map fun r => r.map encI)) ((bnd_eq (a := [.val (encS due)]) rfl).trans c)).trans ?_
    show some (P.val (.list _), _) = _
    rw [enc_rows]
    rfl
  have t := neq_of (ma := mFz (mCall [] m_parse_rule (mCons (mVar 3) mNil))) (mb := mVar 1) (a := r) (b := r) c2 rfl rfl rfl
  rw [decide_eq_true rfl] at t
  exact (if_eq t).trans rfl
theorem T4_ok {x4 : Option O} : T4 (E8 D r x2 due x4 x5 x6) = some (.rt (.fz (.bool true)), E8 D r x2 due x4 x5 x6) := by
  have c1 := call1 (ps := [.val .none, .val .none]) (env := E8 D r x2 due x4 x5 x6) ref1 rfl rfl
  have c2 := call1 (ps := [.val bad1, .val (.int 0)]) (env := E8 D r x2 due x4 x5 x6) ref2 rfl rfl
  have c3 := call1 (ps := [.val bad2, .val (.int 0)]) (env := E8 D r x2 due x4 x5 x6) ref3 rfl rfl
  have f1 : mFz (mCall [] m__law_refused (mCons (mC .none) (mCons (mC .none) mNil))) (E8 D r x2 due x4 x5 x6) = some (.val (.bool true), E8 D r x2 due x4 x5 x6) := (bnd_eq (a := .fz (.bool true)) ((bnd_eq (a := [.val .none, .val .none]) rfl).trans c1)).trans rfl
  have f2 : mFz (mCall [] m__law_refused (mCons (mLE (mDs (mCons (mLE (mDs (mCons (mC (.int 0)) (mCons (mC (.int 1)) mNil)))) (mCons (mLE (mDs (mCons (mC (.int 1)) (mCons (mC (.int 0)) mNil)))) mNil)))) (mCons (mC (.int 0)) mNil))) (E8 D r x2 due x4 x5 x6) = some (.val (.bool true), E8 D r x2 due x4 x5 x6) := (bnd_eq (a := .fz (.bool true)) ((bnd_eq (a := [.val bad1, .val (.int 0)]) rfl).trans c2)).trans rfl
  have f3 : mFz (mCall [] m__law_refused (mCons (mLE (mDs (mCons (mLE (mDs (mCons (mC (.int 0)) mNil))) (mCons (mLE (mDs (mCons (mC (.int 0)) (mCons (mC (.int 0)) mNil)))) mNil)))) (mCons (mC (.int 0)) mNil))) (E8 D r x2 due x4 x5 x6) = some (.val (.bool true), E8 D r x2 due x4 x5 x6) := (bnd_eq (a := .fz (.bool true)) ((bnd_eq (a := [.val bad2, .val (.int 0)]) rfl).trans c3)).trans rfl
  have tst : ∀ {m : ME}, m (E8 D r x2 due x4 x5 x6) = some (.val (.bool true), E8 D r x2 due x4 x5 x6) → mT m (E8 D r x2 due x4 x5 x6) = some (true, E8 D r x2 due x4 x5 x6) := fun h => (bnd_eq h).trans rfl
  have and_ : ∀ {m n : ME}, m (E8 D r x2 due x4 x5 x6) = some (.val (.bool true), E8 D r x2 due x4 x5 x6) → n (E8 D r x2 due x4 x5 x6) = some (.val (.bool true), E8 D r x2 due x4 x5 x6) → mAndV m n (E8 D r x2 due x4 x5 x6) = some (.val (.bool true), E8 D r x2 due x4 x5 x6) := fun h1 h2 => (bnd_eq (tst h1)).trans h2
  exact (bnd_eq (and_ f1 (and_ f2 f3))).trans rfl
theorem xv_tail {told : List (List Int)} : ∀ c, t_tail r due told = some c → ∃ k e, mSeq T1 (mSeq (mAppG 4 (mCons (mC .none) mNil)) (mSeq T3 T4)) (E8 D r x2 due (some (.ow2 (told.map fun r => r.map encI))) x5 x6) = some (k, e) ∧ k ≠ .nx ∧ (k = .rt (.fz (encB c)) ∧ e[0]? = some (some (.ow D))) := by
  intro c hc
  unfold t_tail at hc
  split at hc
  case isFalse => cases hc
  rename_i h
  cases hc
  obtain ⟨rfl, hl, hr, hp⟩ := h
  obtain ⟨rows, x6', t1, rl⟩ := T1_ok (D := D) (due := due) (x2 := x2) (x5 := x5) (x6 := x6) hl hr
  have t2 : mAppG 4 (mCons (mC .none) mNil) (E8 D told x2 due (some (.ow2 rows)) x5 x6') = some (.nx, E8 D told x2 due none x5 x6') := by
    show (if rows.length < sizeLine then some (Ctl.nx, _) else none) = _
    rw [if_pos (by rw [rl]; exact lt_line (by omega))]
    rfl
  refine ⟨_, _, (seq_eq t1).trans ((seq_eq t2).trans ((seq_eq (T3_ok hp)).trans T4_ok)), (fun z => nomatch z), rfl, rfl⟩
end
end My
namespace My
open PySem PySem.Spec PyProof.Rows L2 Tr
noncomputable section
open Prod (fst snd)
def t_is_whole (thing_1_ : Int) : Option Bool := some (true && (!false))
theorem tk_is_whole (thing_1_ : Int) : ∀ bb, t_is_whole thing_1_ = some bb → m_is_whole [(O.fz (encI thing_1_))] = some ((fun (bb : Bool) => (O.fz (encB bb))) bb, (fun (bb : Bool) => [(O.fz (encI thing_1_))]) bb) := by
  unfold t_is_whole m_is_whole
  refine def_T (ro := (fun (bb : Bool) => (O.fz (encB bb)))) (ios := (fun (bb : Bool) => [(O.fz (encI thing_1_))])) rfl ?_
  show SV _ [some (O.fz (encI thing_1_))] _ _
  refine sv_last ?_
  exact sv_exit (ct := (Ctl.rt (O.fz (encB (true && (!false)))))) (e := [some (O.fz (encI thing_1_))]) ((bnd_eq (a := (P.val (encB (true && (!false))))) (e := [some (O.fz (encI thing_1_))]) (oe_andV rfl rfl)).trans rfl) (fun h => nomatch h) ⟨.inl rfl, rfl⟩
def t_is_answer (thing_2_ : Int) : Option Bool := (((t_is_whole thing_2_).map fun b3_ => (b3_, ())).bind fun b6_ => if (fst b6_) = true then (fun s4_ => (some ((decide ((-(1 : Int)) ≤ thing_2_) && decide (thing_2_ ≤ (1 : Int))), ()))) (snd b6_) else some (false, (snd b6_))).map fun b5_ => (fst b5_)
theorem tk_is_answer (thing_2_ : Int) : ∀ bb, t_is_answer thing_2_ = some bb → m_is_answer [(O.fz (encI thing_2_))] = some ((fun (bb : Bool) => (O.fz (encB bb))) bb, (fun (bb : Bool) => [(O.fz (encI thing_2_))]) bb) := by
  unfold t_is_answer m_is_answer
  refine def_T (ro := (fun (bb : Bool) => (O.fz (encB bb)))) (ios := (fun (bb : Bool) => [(O.fz (encI thing_2_))])) rfl ?_
  show SV _ [some (O.fz (encI thing_2_))] _ _
  refine sv_last ?_
  exact sv_exitV (ct := fun b5_ => (Ctl.rt (O.fz (encB (fst b5_))))) (st := fun b5_ => [some (O.fz (encI thing_2_))]) (xv_VP (xv_andVV (E := (fun s4_ => [some (O.fz (encI thing_2_))])) (t2 := (fun s4_ => (some ((decide ((-(1 : Int)) ≤ thing_2_) && decide (thing_2_ ≤ (1 : Int))), ())))) (xv_map (t := (t_is_whole thing_2_)) (f := fun b3_ => (b3_, ())) (xv_VP (xv_PV' (a := [(P.val (encI thing_2_))]) (e2 := [some (O.fz (encI thing_2_))]) rfl (xo_call (tk_is_whole thing_2_) rfl rfl rfl (fun _ => rfl))) (fun b3_ => rfl))) (fun s4_ => (xv_some (oe_chain rfl rfl rfl)))) (fun b5_ => rfl)) (fun _ h => nomatch h) (fun _ => ⟨.inl rfl, rfl⟩)
def t_check_rule (rule_7_ : (List (List Int))) : Option Unit := (if (!true) = true then some (true, ()) else ((cmpT (fun a8_ => true) rule_7_).map fun b9_ => ((!(List.all b9_ id)), ()))).bind fun b10_ => if (fst b10_) = true then ((none : Option Unit)) else ((some ((List.length rule_7_ : Nat) : Int)).bind fun (size_12_ : Int) => (forN (fun (a14_ : (Int × (List Int))) (s25_ : Unit) => (if (!(decide (((List.length (snd a14_) : Nat) : Int) = size_12_))) = true then some (true, ()) else ((cmpO (fun _ => some true) (fun a29_ => (t_is_answer a29_).map fun b30_ => b30_) (snd a14_)).map fun b31_ => ((!(List.all b31_ id)), ()))).bind fun b32_ => if (fst b32_) = true then ((none : Option Unit)) else (some ())) (enL rule_7_) ()).bind fun (s25_ : Unit) => (forN (fun (a34_ : (Int × (List Int))) (s63_ : Unit) => (forN (fun (a69_ : (Int × Int)) (s76_ : Unit) => ((atI rule_7_ (fst a69_)).bind fun b80_ => (atI b80_ (fst a34_)).map fun b81_ => (b80_, b81_)).bind fun q82_ => if (!(decide ((snd a69_) = (-(snd q82_))))) = true then ((none : Option Unit)) else (some ())) (enL (snd a34_)) ()).bind fun (s76_ : Unit) => some ()) (enL rule_7_) ()).bind fun (s63_ : Unit) => some ())
theorem tk_check_rule (rule_7_ : (List (List Int))) : ∀ bb, t_check_rule rule_7_ = some bb → m_check_rule [(O.fz ((encL (encL encI)) rule_7_))] = some ((fun (bb : Unit) => (O.fz .none)) bb, (fun (bb : Unit) => [(O.fz ((encL (encL encI)) rule_7_))]) bb) := by
  unfold t_check_rule m_check_rule
  refine def_T (ro := (fun (bb : Unit) => (O.fz .none))) (ios := (fun (bb : Unit) => [(O.fz ((encL (encL encI)) rule_7_))])) rfl ?_
  show SV _ [some (O.fz ((encL (encL encI)) rule_7_)), none, none, none, none, none] _ _
  refine sv_last ?_
  refine sv_assoc ?_
  refine sv_ifV (st := fun b10_ => [some (O.fz ((encL (encL encI)) rule_7_)), none, none, none, none, none]) (xv_orP (s := ()) (E := (fun s11_ => [some (O.fz ((encL (encL encI)) rule_7_)), none, none, none, none, none])) rfl (xv_map (t := (cmpT (fun a8_ => true) rule_7_)) (f := fun b9_ => ((!(List.all b9_ id)), ())) (xv_not (xv_VP (xv_VP (xv_VP (xv_VP (xv_PV' (a := (List.map (encL encI) rule_7_)) (e2 := [some (O.fz ((encL (encL encI)) rule_7_)), none, none, none, none, none]) rfl (lc_T (en := (encL encI)) (en' := encB) (E1 := (fun a8_ => [some (O.fz ((encL (encL encI)) rule_7_)), none, none, some (O.fz ((encL encI) a8_)), none, none])) rfl (fun _ => rfl) (fun a8_ => rfl) (fun _ => rfl))) (fun b9_ => rfl)) (fun b9_ => rfl)) (fun b9_ => (oe_all rfl))) (fun b9_ => rfl))))) ?_ ?_
  · intro b10_
    exact sv_never
  · intro b10_
    refine sv_nx (e := [some (O.fz ((encL (encL encI)) rule_7_)), none, none, none, none, none]) rfl ?_
    refine sv_assoc ?_
    refine sv_nx (e := [some (O.fz ((encL (encL encI)) rule_7_)), some (O.fz (encI ((List.length rule_7_ : Nat) : Int))), none, none, none, none]) ((bnd_eq (a := (P.val (encI ((List.length rule_7_ : Nat) : Int)))) (e := [some (O.fz ((encL (encL encI)) rule_7_)), none, none, none, none, none]) ((bnd_eq (a := [(P.val ((encL (encL encI)) rule_7_))]) (e := [some (O.fz ((encL (encL encI)) rule_7_)), none, none, none, none, none]) rfl).trans (oe_len rfl))).trans rfl) ?_
    refine sv_let (v := ((List.length rule_7_ : Nat) : Int)) (E := fun (y13_ : Int) => [some (O.fz ((encL (encL encI)) rule_7_)), some (O.fz (encI y13_)), none, none, none, none]) ?_
    intro size_12_
    refine sv_assoc ?_
    refine sv_forN (en := (encT encI (encL encI))) (e := [some (O.fz ((encL (encL encI)) rule_7_)), some (O.fz (encI size_12_)), none, none, none, none]) (Q := fun (s25_ : Unit) e28_ => ∃ u26_, ∃ u27_, e28_ = [some (O.fz ((encL (encL encI)) rule_7_)), some (O.fz (encI size_12_)), u26_, u27_, none, none]) (oe_enum (p := (P.val ((encL (encL encI)) rule_7_))) (xs := rule_7_) rfl rfl) ⟨_, _, rfl⟩ ?_ ?_
    · rintro a14_ s25_ _ ⟨u26_, u27_, rfl⟩
      refine ⟨[some (O.fz ((encL (encL encI)) rule_7_)), some (O.fz (encI size_12_)), some (O.fz (encI (fst a14_))), some (O.fz ((encL encI) (snd a14_))), none, none], rfl, ?_⟩
      refine sv_last ?_
      refine sv_ifV (st := fun b32_ => [some (O.fz ((encL (encL encI)) rule_7_)), some (O.fz (encI size_12_)), some (O.fz (encI (fst a14_))), some (O.fz ((encL encI) (snd a14_))), none, none]) (xv_orP (s := ()) (E := (fun s33_ => [some (O.fz ((encL (encL encI)) rule_7_)), some (O.fz (encI size_12_)), some (O.fz (encI (fst a14_))), some (O.fz ((encL encI) (snd a14_))), none, none])) ((bnd_eq (a := (P.val (encB (!(decide (((List.length (snd a14_) : Nat) : Int) = size_12_)))))) (e := [some (O.fz ((encL (encL encI)) rule_7_)), some (O.fz (encI size_12_)), some (O.fz (encI (fst a14_))), some (O.fz ((encL encI) (snd a14_))), none, none]) ((bnd_eq (a := (P.val (encI ((List.length (snd a14_) : Nat) : Int)))) (e := [some (O.fz ((encL (encL encI)) rule_7_)), some (O.fz (encI size_12_)), some (O.fz (encI (fst a14_))), some (O.fz ((encL encI) (snd a14_))), none, none]) ((bnd_eq (a := [(P.val ((encL encI) (snd a14_)))]) (e := [some (O.fz ((encL (encL encI)) rule_7_)), some (O.fz (encI size_12_)), some (O.fz (encI (fst a14_))), some (O.fz ((encL encI) (snd a14_))), none, none]) rfl).trans (oe_len rfl))).trans ((bnd_eq (a := (P.val (encI size_12_))) (e := [some (O.fz ((encL (encL encI)) rule_7_)), some (O.fz (encI size_12_)), some (O.fz (encI (fst a14_))), some (O.fz ((encL encI) (snd a14_))), none, none]) rfl).trans (oe_eq (a := ((List.length (snd a14_) : Nat) : Int)) (b := size_12_) eo_I rfl rfl)))).trans rfl) (xv_map (t := (cmpO (fun _ => some true) (fun a29_ => (t_is_answer a29_).map fun b30_ => b30_) (snd a14_))) (f := fun b31_ => ((!(List.all b31_ id)), ())) (xv_not (xv_VP (xv_VP (xv_VP (xv_VP (xv_PV' (a := (List.map encI (snd a14_))) (e2 := [some (O.fz ((encL (encL encI)) rule_7_)), some (O.fz (encI size_12_)), some (O.fz (encI (fst a14_))), some (O.fz ((encL encI) (snd a14_))), none, none]) rfl (lc_O (en := encI) (en' := encB) (E1 := (fun a29_ => [some (O.fz ((encL (encL encI)) rule_7_)), some (O.fz (encI size_12_)), some (O.fz (encI (fst a14_))), some (O.fz ((encL encI) (snd a14_))), none, some (O.fz (encI a29_))])) rfl (fun _ => rfl) (fun _ => xv_some rfl) (fun a29_ => xv_map (xv_VP (xv_PV' (a := [(P.val (encI a29_))]) (e2 := [some (O.fz ((encL (encL encI)) rule_7_)), some (O.fz (encI size_12_)), some (O.fz (encI (fst a14_))), some (O.fz ((encL encI) (snd a14_))), none, some (O.fz (encI a29_))]) rfl (xo_call (tk_is_answer a29_) rfl rfl rfl (fun _ => rfl))) (fun b30_ => rfl))) (fun _ => rfl))) (fun b31_ => rfl)) (fun b31_ => rfl)) (fun b31_ => (oe_all rfl))) (fun b31_ => rfl))))) ?_ ?_
      · intro b32_
        exact sv_never
      · intro b32_
        refine sv_nx (e := [some (O.fz ((encL (encL encI)) rule_7_)), some (O.fz (encI size_12_)), some (O.fz (encI (fst a14_))), some (O.fz ((encL encI) (snd a14_))), none, none]) rfl ?_
        exact sv_end ⟨.inl rfl, _, _, rfl⟩
    rintro s25_ _ ⟨u26_, u27_, rfl⟩
    refine sv_forN (en := (encT encI (encL encI))) (e := [some (O.fz ((encL (encL encI)) rule_7_)), some (O.fz (encI size_12_)), u26_, u27_, none, none]) (Q := fun (s63_ : Unit) e68_ => ∃ u64_, ∃ u65_, ∃ u66_, ∃ u67_, e68_ = [some (O.fz ((encL (encL encI)) rule_7_)), some (O.fz (encI size_12_)), u64_, u65_, u66_, u67_]) (oe_enum (p := (P.val ((encL (encL encI)) rule_7_))) (xs := rule_7_) rfl rfl) ⟨_, _, _, _, rfl⟩ ?_ ?_
    · rintro a34_ s63_ _ ⟨u64_, u65_, u66_, u67_, rfl⟩
      refine ⟨[some (O.fz ((encL (encL encI)) rule_7_)), some (O.fz (encI size_12_)), some (O.fz (encI (fst a34_))), some (O.fz ((encL encI) (snd a34_))), u66_, u67_], rfl, ?_⟩
      refine sv_last ?_
      refine sv_forN (en := (encT encI encI)) (e := [some (O.fz ((encL (encL encI)) rule_7_)), some (O.fz (encI size_12_)), some (O.fz (encI (fst a34_))), some (O.fz ((encL encI) (snd a34_))), u66_, u67_]) (Q := fun (s76_ : Unit) e79_ => ∃ u77_, ∃ u78_, e79_ = [some (O.fz ((encL (encL encI)) rule_7_)), some (O.fz (encI size_12_)), some (O.fz (encI (fst a34_))), some (O.fz ((encL encI) (snd a34_))), u77_, u78_]) (oe_enum (p := (P.val ((encL encI) (snd a34_)))) (xs := (snd a34_)) rfl rfl) ⟨_, _, rfl⟩ ?_ ?_
      · rintro a69_ s76_ _ ⟨u77_, u78_, rfl⟩
        refine ⟨[some (O.fz ((encL (encL encI)) rule_7_)), some (O.fz (encI size_12_)), some (O.fz (encI (fst a34_))), some (O.fz ((encL encI) (snd a34_))), some (O.fz (encI (fst a69_))), some (O.fz (encI (snd a69_)))], rfl, ?_⟩
        refine sv_last ?_
        refine sv_ifV (st := fun q82_ => [some (O.fz ((encL (encL encI)) rule_7_)), some (O.fz (encI size_12_)), some (O.fz (encI (fst a34_))), some (O.fz ((encL encI) (snd a34_))), some (O.fz (encI (fst a69_))), some (O.fz (encI (snd a69_)))]) (xv_VP (xv_PV' (a := (P.val (encI (snd a69_)))) (e2 := [some (O.fz ((encL (encL encI)) rule_7_)), some (O.fz (encI size_12_)), some (O.fz (encI (fst a34_))), some (O.fz ((encL encI) (snd a34_))), some (O.fz (encI (fst a69_))), some (O.fz (encI (snd a69_)))]) rfl (xv_VP (xv_VP (xv_VV (t := (atI rule_7_ (fst a69_))) (t2 := fun b80_ => (atI b80_ (fst a34_))) (cv := fun q82_ => (P.val (encI (snd q82_)))) (st2 := fun q82_ => [some (O.fz ((encL (encL encI)) rule_7_)), some (O.fz (encI size_12_)), some (O.fz (encI (fst a34_))), some (O.fz ((encL encI) (snd a34_))), some (O.fz (encI (fst a69_))), some (O.fz (encI (snd a69_)))]) (xv_PV' (a := (P.val ((encL (encL encI)) rule_7_))) (e2 := [some (O.fz ((encL (encL encI)) rule_7_)), some (O.fz (encI size_12_)), some (O.fz (encI (fst a34_))), some (O.fz ((encL encI) (snd a34_))), some (O.fz (encI (fst a69_))), some (O.fz (encI (snd a69_)))]) rfl (xv_PV' (a := (P.val (encI (fst a69_)))) (e2 := [some (O.fz ((encL (encL encI)) rule_7_)), some (O.fz (encI size_12_)), some (O.fz (encI (fst a34_))), some (O.fz ((encL encI) (snd a34_))), some (O.fz (encI (fst a69_))), some (O.fz (encI (snd a69_)))]) rfl (xo_ix rfl))) (fun b80_ => (xv_PV' (a := (P.val (encI (fst a34_)))) (e2 := [some (O.fz ((encL (encL encI)) rule_7_)), some (O.fz (encI size_12_)), some (O.fz (encI (fst a34_))), some (O.fz ((encL encI) (snd a34_))), some (O.fz (encI (fst a69_))), some (O.fz (encI (snd a69_)))]) rfl (xo_ix rfl)))) (fun q82_ => rfl)) (fun q82_ => (oe_eq (a := (snd a69_)) (b := (-(snd q82_))) eo_I rfl rfl)))) (fun q82_ => rfl)) ?_ ?_
        · intro q82_
          exact sv_never
        · intro q82_
          refine sv_nx (e := [some (O.fz ((encL (encL encI)) rule_7_)), some (O.fz (encI size_12_)), some (O.fz (encI (fst a34_))), some (O.fz ((encL encI) (snd a34_))), some (O.fz (encI (fst a69_))), some (O.fz (encI (snd a69_)))]) rfl ?_
          exact sv_end ⟨.inl rfl, _, _, rfl⟩
      rintro s76_ _ ⟨u77_, u78_, rfl⟩
      exact sv_end ⟨.inl rfl, _, _, _, _, rfl⟩
    rintro s63_ _ ⟨u64_, u65_, u66_, u67_, rfl⟩
    exact sv_end ⟨.inr ⟨rfl, rfl⟩, rfl⟩
def t_square_of_zeros (size_83_ : Int) : Option (List (List Int)) := ((rng1 size_83_).bind fun b84_ => (cmpO (fun _ => some true) (fun a85_ => (repG [(0 : Int)] size_83_).map fun b86_ => b86_) b84_).map fun b87_ => (b84_, b87_)).map fun q88_ => (snd q88_)
theorem tk_square_of_zeros (size_83_ : Int) : ∀ bb, t_square_of_zeros size_83_ = some bb → m_square_of_zeros [(O.fz (encI size_83_))] = some ((fun (bb : (List (List Int))) => (O.ow2 (List.map (fun r => List.map encI r) bb))) bb, (fun (bb : (List (List Int))) => [(O.fz (encI size_83_))]) bb) := by
  unfold t_square_of_zeros m_square_of_zeros
  refine def_T (ro := (fun (bb : (List (List Int))) => (O.ow2 (List.map (fun r => List.map encI r) bb)))) (ios := (fun (bb : (List (List Int))) => [(O.fz (encI size_83_))])) rfl ?_
  show SV _ [some (O.fz (encI size_83_)), none] _ _
  refine sv_last ?_
  exact sv_exitV (ct := fun q88_ => (Ctl.rt (O.ow2 (List.map (fun r => List.map encI r) (snd q88_))))) (st := fun q88_ => [some (O.fz (encI size_83_)), none]) (xv_VP (xv_VV (t := (rng1 size_83_)) (t2 := fun b84_ => (cmpO (fun _ => some true) (fun a85_ => (repG [(0 : Int)] size_83_).map fun b86_ => b86_) b84_)) (cv := fun q88_ => (O.ow2 (List.map (fun r => List.map encI r) (snd q88_)))) (st2 := fun q88_ => [some (O.fz (encI size_83_)), none]) (xv_PV' (a := [(P.val (encI size_83_))]) (e2 := [some (O.fz (encI size_83_)), none]) rfl xo_rng1) (fun b84_ => (lc_2 (en := encI) (en' := encI) (E1 := (fun a85_ => [some (O.fz (encI size_83_)), some (O.fz (encI a85_))])) rfl (fun _ => rfl) (fun a85_ => xv_map (xv_VP (xv_PV' (a := (P.val ((encL encI) [(0 : Int)]))) (e2 := [some (O.fz (encI size_83_)), some (O.fz (encI a85_))]) rfl (xv_PV' (a := (P.val (encI size_83_))) (e2 := [some (O.fz (encI size_83_)), some (O.fz (encI a85_))]) rfl (xo_rep rfl))) (fun b86_ => rfl))) (fun _ => rfl)))) (fun q88_ => rfl)) (fun _ h => nomatch h) (fun _ => ⟨.inl rfl, rfl⟩)
def t_item_pairs (size_89_ : Int) : Option (List (Int × Int)) := ((rng1 size_89_).bind fun b90_ => (cmp2 (fun a91_ => (rng2 (a91_ + (1 : Int)) size_89_).map fun b93_ => b93_) (fun _ _ => some true) (fun a91_ a92_ => some (a91_, a92_)) b90_).map fun b94_ => (b90_, b94_)).map fun q95_ => (snd q95_)
theorem tk_item_pairs (size_89_ : Int) : ∀ bb, t_item_pairs size_89_ = some bb → m_item_pairs [(O.fz (encI size_89_))] = some ((fun (bb : (List (Int × Int))) => (O.fz ((encL (encT encI encI)) bb))) bb, (fun (bb : (List (Int × Int))) => [(O.fz (encI size_89_))]) bb) := by
  unfold t_item_pairs m_item_pairs
  refine def_T (ro := (fun (bb : (List (Int × Int))) => (O.fz ((encL (encT encI encI)) bb)))) (ios := (fun (bb : (List (Int × Int))) => [(O.fz (encI size_89_))])) rfl ?_
  show SV _ [some (O.fz (encI size_89_)), none, none] _ _
  refine sv_last ?_
  exact sv_exitV (ct := fun q95_ => (Ctl.rt (O.fz ((encL (encT encI encI)) (snd q95_))))) (st := fun q95_ => [some (O.fz (encI size_89_)), none, none]) (xv_VP (xv_VP (xv_VV (t := (rng1 size_89_)) (t2 := fun b90_ => (cmp2 (fun a91_ => (rng2 (a91_ + (1 : Int)) size_89_).map fun b93_ => b93_) (fun _ _ => some true) (fun a91_ a92_ => some (a91_, a92_)) b90_)) (cv := fun q95_ => (List.map (encT encI encI) (snd q95_))) (st2 := fun q95_ => [some (O.fz (encI size_89_)), none, none]) (xv_PV' (a := [(P.val (encI size_89_))]) (e2 := [some (O.fz (encI size_89_)), none, none]) rfl xo_rng1) (fun b90_ => (lc2_O (en := encI) (en1 := encI) (en' := (encT encI encI)) (E1 := fun a91_ => [some (O.fz (encI size_89_)), some (O.fz (encI a91_)), none]) (E2 := fun a91_ a92_ => [some (O.fz (encI size_89_)), some (O.fz (encI a91_)), some (O.fz (encI a92_))]) rfl (fun _ => rfl) (fun a91_ => xv_map (xv_PV' (a := [(P.val (encI (a91_ + (1 : Int)))), (P.val (encI size_89_))]) (e2 := [some (O.fz (encI size_89_)), some (O.fz (encI a91_)), none]) rfl xo_rng2)) (fun _ => rfl) (fun _ _ => rfl) (fun _ _ => xv_some rfl) (fun a91_ a92_ => xv_some rfl) (fun _ _ => rfl) (fun _ => rfl)))) (fun q95_ => rfl)) (fun q95_ => rfl)) (fun _ h => nomatch h) (fun _ => ⟨.inl rfl, rfl⟩)
def t_pair_line (x_96_ : Int) (y_97_ : Int) (answer_98_ : Int) : Option Str := (jsG [(strG x_96_), (some (Str.ofString " ")), ((sgnG (Str.ofString "<=>") (answer_98_ + (1 : Int))).bind fitG), (some (Str.ofString " ")), (strG y_97_)] Str.empty).map fun b100_ => b100_
theorem tk_pair_line (x_96_ : Int) (y_97_ : Int) (answer_98_ : Int) : ∀ bb, t_pair_line x_96_ y_97_ answer_98_ = some bb → m_pair_line [(O.fz (encI x_96_)), (O.fz (encI y_97_)), (O.fz (encI answer_98_))] = some ((fun (bb : Str) => (O.fz (encS bb))) bb, (fun (bb : Str) => [(O.fz (encI x_96_)), (O.fz (encI y_97_)), (O.fz (encI answer_98_))]) bb) := by
  unfold t_pair_line m_pair_line
  refine def_T (ro := (fun (bb : Str) => (O.fz (encS bb)))) (ios := (fun (bb : Str) => [(O.fz (encI x_96_)), (O.fz (encI y_97_)), (O.fz (encI answer_98_))])) rfl ?_
  show SV _ [some (O.fz (encI x_96_)), some (O.fz (encI y_97_)), some (O.fz (encI answer_98_))] _ _
  refine sv_last ?_
  exact sv_exitV (ct := fun b100_ => (Ctl.rt (O.fz (encS b100_)))) (st := fun b100_ => [some (O.fz (encI x_96_)), some (O.fz (encI y_97_)), some (O.fz (encI answer_98_))]) (xv_VP (xo_joined (xj_cons (xv_fmtI rfl) (xj_cons xj_str (xj_cons (xv_fmtS (xv_PV' (a := (P.val (encS (Str.ofString "<=>")))) (e2 := [some (O.fz (encI x_96_)), some (O.fz (encI y_97_)), some (O.fz (encI answer_98_))]) rfl (xv_PV' (a := (P.val (encI (answer_98_ + (1 : Int))))) (e2 := [some (O.fz (encI x_96_)), some (O.fz (encI y_97_)), some (O.fz (encI answer_98_))]) rfl xo_sgn))) (xj_cons xj_str (xj_cons (xv_fmtI rfl) xj_nil)))))) (fun b100_ => rfl)) (fun _ h => nomatch h) (fun _ => ⟨.inl rfl, rfl⟩)
def t_format_rule (rule_101_ : (List (List Int))) : Option Str := (t_check_rule rule_101_).bind fun b102_ => ((t_item_pairs ((List.length rule_101_ : Nat) : Int)).bind fun b103_ => (cmpO (fun _ => some true) (fun a104_ => (((atI rule_101_ (fst a104_)).bind fun b105_ => (atI b105_ (snd a104_)).map fun b106_ => (b105_, b106_)).bind fun q107_ => (t_pair_line (fst a104_) (snd a104_) (snd q107_)).map fun b108_ => (q107_, b108_)).map fun q109_ => (snd q109_)) b103_).map fun b110_ => (b103_, b110_)).bind fun q111_ => (some (snd q111_)).bind fun (lines_112_ : (List Str)) => (((strG ((List.length rule_101_ : Nat) : Int)).bind fun b114_ => (catG [b114_] lines_112_).map fun b115_ => (b114_, b115_)).bind fun q116_ => (joinG ((Str.ofString "
")) (snd q116_)).map fun b117_ => (q116_, b117_)).map fun q118_ => (snd q118_)
theorem tk_format_rule (rule_101_ : (List (List Int))) : ∀ bb, t_format_rule rule_101_ = some bb → m_format_rule [(O.fz ((encL (encL encI)) rule_101_))] = some ((fun (bb : Str) => (O.fz (encS bb))) bb, (fun (bb : Str) => [(O.fz ((encL (encL encI)) rule_101_))]) bb) := by
  unfold t_format_rule m_format_rule
  refine def_T (ro := (fun (bb : Str) => (O.fz (encS bb)))) (ios := (fun (bb : Str) => [(O.fz ((encL (encL encI)) rule_101_))])) rfl ?_
  show SV _ [some (O.fz ((encL (encL encI)) rule_101_)), none, none, none] _ _
  refine sv_last ?_
  refine sv_assoc ?_
  refine sv_V (st := fun b102_ => [some (O.fz ((encL (encL encI)) rule_101_)), none, none, none]) (xv_VP (xv_VP (xv_PV' (a := [(P.val ((encL (encL encI)) rule_101_))]) (e2 := [some (O.fz ((encL (encL encI)) rule_101_)), none, none, none]) rfl (xo_call (tk_check_rule rule_101_) rfl rfl rfl (fun _ => rfl))) (fun b102_ => rfl)) (fun b102_ => rfl)) ?_
  intro b102_
  refine sv_assoc ?_
  refine sv_V (st := fun q111_ => [some (O.fz ((encL (encL encI)) rule_101_)), some (O.fz ((encL encS) (snd q111_))), none, none]) (xv_VP (xv_VP (xv_VV (t := (t_item_pairs ((List.length rule_101_ : Nat) : Int))) (t2 := fun b103_ => (cmpO (fun _ => some true) (fun a104_ => (((atI rule_101_ (fst a104_)).bind fun b105_ => (atI b105_ (snd a104_)).map fun b106_ => (b105_, b106_)).bind fun q107_ => (t_pair_line (fst a104_) (snd a104_) (snd q107_)).map fun b108_ => (q107_, b108_)).map fun q109_ => (snd q109_)) b103_)) (cv := fun q111_ => (List.map encS (snd q111_))) (st2 := fun q111_ => [some (O.fz ((encL (encL encI)) rule_101_)), none, none, none]) (xv_VP (xv_VP (xv_PV' (a := [(P.val (encI ((List.length rule_101_ : Nat) : Int)))]) (e2 := [some (O.fz ((encL (encL encI)) rule_101_)), none, none, none]) ((bnd_eq (a := (P.val (encI ((List.length rule_101_ : Nat) : Int)))) (e := [some (O.fz ((encL (encL encI)) rule_101_)), none, none, none]) ((bnd_eq (a := [(P.val ((encL (encL encI)) rule_101_))]) (e := [some (O.fz ((encL (encL encI)) rule_101_)), none, none, none]) rfl).trans (oe_len rfl))).trans rfl) (xo_call (tk_item_pairs ((List.length rule_101_ : Nat) : Int)) rfl rfl rfl (fun _ => rfl))) (fun b103_ => rfl)) (fun b103_ => rfl)) (fun b103_ => (lc_O (en := (encT encI encI)) (en' := encS) (E1 := (fun a104_ => [some (O.fz ((encL (encL encI)) rule_101_)), none, some (O.fz (encI (fst a104_))), some (O.fz (encI (snd a104_)))])) rfl (fun _ => rfl) (fun _ => xv_some rfl) (fun a104_ => xv_map (xv_VP (xv_VV (t := ((atI rule_101_ (fst a104_)).bind fun b105_ => (atI b105_ (snd a104_)).map fun b106_ => (b105_, b106_))) (t2 := fun q107_ => (t_pair_line (fst a104_) (snd a104_) (snd q107_))) (cv := fun q109_ => (O.fz (encS (snd q109_)))) (st2 := fun q109_ => [some (O.fz ((encL (encL encI)) rule_101_)), none, some (O.fz (encI (fst a104_))), some (O.fz (encI (snd a104_)))]) (xv_PV' (a := (P.val (encI (fst a104_)))) (e2 := [some (O.fz ((encL (encL encI)) rule_101_)), none, some (O.fz (encI (fst a104_))), some (O.fz (encI (snd a104_)))]) rfl (xv_VP (xv_PV' (a := (P.val (encI (snd a104_)))) (e2 := [some (O.fz ((encL (encL encI)) rule_101_)), none, some (O.fz (encI (fst a104_))), some (O.fz (encI (snd a104_)))]) rfl (xv_VP (xv_VP (xv_VV (t := (atI rule_101_ (fst a104_))) (t2 := fun b105_ => (atI b105_ (snd a104_))) (cv := fun q107_ => (P.val (encI (snd q107_)))) (st2 := fun q107_ => [some (O.fz ((encL (encL encI)) rule_101_)), none, some (O.fz (encI (fst a104_))), some (O.fz (encI (snd a104_)))]) (xv_PV' (a := (P.val ((encL (encL encI)) rule_101_))) (e2 := [some (O.fz ((encL (encL encI)) rule_101_)), none, some (O.fz (encI (fst a104_))), some (O.fz (encI (snd a104_)))]) rfl (xv_PV' (a := (P.val (encI (fst a104_)))) (e2 := [some (O.fz ((encL (encL encI)) rule_101_)), none, some (O.fz (encI (fst a104_))), some (O.fz (encI (snd a104_)))]) rfl (xo_ix rfl))) (fun b105_ => (xv_PV' (a := (P.val (encI (snd a104_)))) (e2 := [some (O.fz ((encL (encL encI)) rule_101_)), none, some (O.fz (encI (fst a104_))), some (O.fz (encI (snd a104_)))]) rfl (xo_ix rfl)))) (fun q107_ => rfl)) (fun q107_ => rfl))) (fun q107_ => rfl))) (fun q107_ => (xo_call (tk_pair_line (fst a104_) (snd a104_) (snd q107_)) rfl rfl rfl (fun _ => rfl)))) (fun q109_ => rfl))) (fun _ => rfl)))) (fun q111_ => rfl)) (fun q111_ => rfl)) ?_
  intro q111_
  refine sv_let (v := (snd q111_)) (E := fun (y113_ : (List Str)) => [some (O.fz ((encL (encL encI)) rule_101_)), some (O.fz ((encL encS) y113_)), none, none]) ?_
  intro lines_112_
  exact sv_exitV (ct := fun q118_ => (Ctl.rt (O.fz (encS (snd q118_))))) (st := fun q118_ => [some (O.fz ((encL (encL encI)) rule_101_)), some (O.fz ((encL encS) lines_112_)), none, none]) (xv_VP (xv_PV' (a := (P.val (encS (Str.ofString "
")))) (e2 := [some (O.fz ((encL (encL encI)) rule_101_)), some (O.fz ((encL encS) lines_112_)), none, none]) rfl (xv_VV (t := ((strG ((List.length rule_101_ : Nat) : Int)).bind fun b114_ => (catG [b114_] lines_112_).map fun b115_ => (b114_, b115_))) (t2 := fun q116_ => (joinG ((Str.ofString "
")) (snd q116_))) (cv := fun q118_ => (P.val (encS (snd q118_)))) (st2 := fun q118_ => [some (O.fz ((encL (encL encI)) rule_101_)), some (O.fz ((encL encS) lines_112_)), none, none]) (xv_VP (xv_VV (t := (strG ((List.length rule_101_ : Nat) : Int))) (t2 := fun b114_ => (catG [b114_] lines_112_)) (cv := fun q116_ => (List.map encS (snd q116_))) (st2 := fun q116_ => [some (O.fz ((encL (encL encI)) rule_101_)), some (O.fz ((encL encS) lines_112_)), none, none]) (xv_VP (xv_VP (xv_VP (xv_PV' (a := [(P.val (encI ((List.length rule_101_ : Nat) : Int)))]) (e2 := [some (O.fz ((encL (encL encI)) rule_101_)), some (O.fz ((encL encS) lines_112_)), none, none]) ((bnd_eq (a := (P.val (encI ((List.length rule_101_ : Nat) : Int)))) (e := [some (O.fz ((encL (encL encI)) rule_101_)), some (O.fz ((encL encS) lines_112_)), none, none]) ((bnd_eq (a := [(P.val ((encL (encL encI)) rule_101_))]) (e := [some (O.fz ((encL (encL encI)) rule_101_)), some (O.fz ((encL encS) lines_112_)), none, none]) rfl).trans (oe_len rfl))).trans rfl) xo_strI) (fun b114_ => rfl)) (fun b114_ => rfl)) (fun b114_ => rfl)) (fun b114_ => (xv_PV' (a := (P.val ((encL encS) lines_112_))) (e2 := [some (O.fz ((encL (encL encI)) rule_101_)), some (O.fz ((encL encS) lines_112_)), none, none]) rfl (xo_cat rfl rfl)))) (fun q116_ => rfl)) (fun q116_ => (xo_join rfl)))) (fun q118_ => rfl)) (fun _ h => nomatch h) (fun _ => ⟨.inl rfl, rfl⟩)
def t_parse_size (line_119_ : Str) : Option (Option Int) := (rng1 ((12 : Int) + (1 : Int))).bind fun b120_ => (forR (ρ := (Option Int)) (fun (a121_ : Int) (s128_ : Unit) => ((strG a121_).bind fun b131_ => (eqS line_119_ b131_).map fun b132_ => (b131_, b132_)).bind fun q133_ => if (snd q133_) = true then (some (Rs.rt (some a121_))) else (some (Rs.nx ()))) b120_ ()).bind fun r => r.on (fun r => some r) (fun (s128_ : Unit) => some none)
theorem tk_parse_size (line_119_ : Str) : ∀ bb, t_parse_size line_119_ = some bb → m_parse_size [(O.fz (encS line_119_))] = some ((fun (bb : (Option Int)) => (O.fz ((encO encI) bb))) bb, (fun (bb : (Option Int)) => [(O.fz (encS line_119_))]) bb) := by
  unfold t_parse_size m_parse_size
  refine def_T (ro := (fun (bb : (Option Int)) => (O.fz ((encO encI) bb)))) (ios := (fun (bb : (Option Int)) => [(O.fz (encS line_119_))])) rfl ?_
  show SV _ [some (O.fz (encS line_119_)), none] _ _
  refine sv_last ?_
  refine sv_assoc ?_
  refine sv_forRV (en := encI) (st := fun b120_ => [some (O.fz (encS line_119_)), none]) (Q := fun b120_ => fun (s128_ : Unit) e130_ => ∃ u129_, e130_ = [some (O.fz (encS line_119_)), u129_]) (PR := fun _ r c e => (c = .rt ((((fun (bb : (Option Int)) => (O.fz ((encO encI) bb)))) r)) ∨ (c = .nx ∧ (((fun (bb : (Option Int)) => (O.fz ((encO encI) bb)))) r) = .fz .none)) ∧ mDef.finL [] [(O.fz (encS line_119_))] e = some (((fun (bb : (Option Int)) => [(O.fz (encS line_119_))])) r)) (xv_PV' (a := [(P.val (encI ((12 : Int) + (1 : Int))))]) (e2 := [some (O.fz (encS line_119_)), none]) rfl xo_rng1) (fun b120_ => ⟨_, rfl⟩) ?_ (fun _ r c e b h hp hb => by cases hb; exact hp) ?_
  · intro b120_
    rintro a121_ s128_ _ ⟨u129_, rfl⟩
    refine ⟨[some (O.fz (encS line_119_)), some (O.fz (encI a121_))], rfl, ?_⟩
    refine sv_last ?_
    refine sv_ifV (st := fun q133_ => [some (O.fz (encS line_119_)), some (O.fz (encI a121_))]) (xv_VP (xv_PV' (a := (P.val (encS line_119_))) (e2 := [some (O.fz (encS line_119_)), some (O.fz (encI a121_))]) rfl (xv_VV (t := (strG a121_)) (t2 := fun b131_ => (eqS line_119_ b131_)) (cv := fun q133_ => (P.val (encB (snd q133_)))) (st2 := fun q133_ => [some (O.fz (encS line_119_)), some (O.fz (encI a121_))]) (xv_PV' (a := [(P.val (encI a121_))]) (e2 := [some (O.fz (encS line_119_)), some (O.fz (encI a121_))]) rfl xo_strI) (fun b131_ => (xo_eqS rfl rfl)))) (fun q133_ => rfl)) ?_ ?_
    · intro q133_
      exact sv_exit (ct := (Ctl.rt (O.fz ((encO encI) (some a121_))))) (e := [some (O.fz (encS line_119_)), some (O.fz (encI a121_))]) rfl (fun h => nomatch h) ⟨⟨_, rfl⟩, ⟨.inl rfl, rfl⟩⟩
    · intro q133_
      refine sv_nx (e := [some (O.fz (encS line_119_)), some (O.fz (encI a121_))]) rfl ?_
      exact sv_end ⟨.inl rfl, _, rfl⟩
  intro b120_
  rintro s128_ _ ⟨u129_, rfl⟩
  exact sv_exit (ct := (Ctl.rt (O.fz ((encO encI) none)))) (e := [some (O.fz (encS line_119_)), u129_]) rfl (fun h => nomatch h) ⟨.inl rfl, rfl⟩
def t_parse_answer (line_134_ : Str) (x_135_ : Int) (y_136_ : Int) : Option (Option Int) := (forR (ρ := (Option Int)) (fun (a137_ : Int) (s144_ : Unit) => ((t_pair_line x_135_ y_136_ a137_).bind fun b147_ => (eqS line_134_ b147_).map fun b148_ => (b147_, b148_)).bind fun q149_ => if (snd q149_) = true then (some (Rs.rt (some a137_))) else (some (Rs.nx ()))) [(-(1 : Int)), (0 : Int), (1 : Int)] ()).bind fun r => r.on (fun r => some r) (fun (s144_ : Unit) => some none)
theorem tk_parse_answer (line_134_ : Str) (x_135_ : Int) (y_136_ : Int) : ∀ bb, t_parse_answer line_134_ x_135_ y_136_ = some bb → m_parse_answer [(O.fz (encS line_134_)), (O.fz (encI x_135_)), (O.fz (encI y_136_))] = some ((fun (bb : (Option Int)) => (O.fz ((encO encI) bb))) bb, (fun (bb : (Option Int)) => [(O.fz (encS line_134_)), (O.fz (encI x_135_)), (O.fz (encI y_136_))]) bb) := by
  unfold t_parse_answer m_parse_answer
  refine def_T (ro := (fun (bb : (Option Int)) => (O.fz ((encO encI) bb)))) (ios := (fun (bb : (Option Int)) => [(O.fz (encS line_134_)), (O.fz (encI x_135_)), (O.fz (encI y_136_))])) rfl ?_
  show SV _ [some (O.fz (encS line_134_)), some (O.fz (encI x_135_)), some (O.fz (encI y_136_)), none] _ _
  refine sv_last ?_
  refine sv_assoc ?_
  refine sv_forR (en := encI) (e := [some (O.fz (encS line_134_)), some (O.fz (encI x_135_)), some (O.fz (encI y_136_)), none]) (Q := fun (s144_ : Unit) e146_ => ∃ u145_, e146_ = [some (O.fz (encS line_134_)), some (O.fz (encI x_135_)), some (O.fz (encI y_136_)), u145_]) (PR := fun r c e => (c = .rt ((((fun (bb : (Option Int)) => (O.fz ((encO encI) bb)))) r)) ∨ (c = .nx ∧ (((fun (bb : (Option Int)) => (O.fz ((encO encI) bb)))) r) = .fz .none)) ∧ mDef.finL [] [(O.fz (encS line_134_)), (O.fz (encI x_135_)), (O.fz (encI y_136_))] e = some (((fun (bb : (Option Int)) => [(O.fz (encS line_134_)), (O.fz (encI x_135_)), (O.fz (encI y_136_))])) r)) rfl ⟨_, rfl⟩ ?_ (fun r c e b h hp hb => by cases hb; exact hp) ?_
  · rintro a137_ s144_ _ ⟨u145_, rfl⟩
    refine ⟨[some (O.fz (encS line_134_)), some (O.fz (encI x_135_)), some (O.fz (encI y_136_)), some (O.fz (encI a137_))], rfl, ?_⟩
    refine sv_last ?_
    refine sv_ifV (st := fun q149_ => [some (O.fz (encS line_134_)), some (O.fz (encI x_135_)), some (O.fz (encI y_136_)), some (O.fz (encI a137_))]) (xv_VP (xv_PV' (a := (P.val (encS line_134_))) (e2 := [some (O.fz (encS line_134_)), some (O.fz (encI x_135_)), some (O.fz (encI y_136_)), some (O.fz (encI a137_))]) rfl (xv_VV (t := (t_pair_line x_135_ y_136_ a137_)) (t2 := fun b147_ => (eqS line_134_ b147_)) (cv := fun q149_ => (P.val (encB (snd q149_)))) (st2 := fun q149_ => [some (O.fz (encS line_134_)), some (O.fz (encI x_135_)), some (O.fz (encI y_136_)), some (O.fz (encI a137_))]) (xv_VP (xv_PV' (a := [(P.val (encI x_135_)), (P.val (encI y_136_)), (P.val (encI a137_))]) (e2 := [some (O.fz (encS line_134_)), some (O.fz (encI x_135_)), some (O.fz (encI y_136_)), some (O.fz (encI a137_))]) rfl (xo_call (tk_pair_line x_135_ y_136_ a137_) rfl rfl rfl (fun _ => rfl))) (fun b147_ => rfl)) (fun b147_ => (xo_eqS rfl rfl)))) (fun q149_ => rfl)) ?_ ?_
    · intro q149_
      exact sv_exit (ct := (Ctl.rt (O.fz ((encO encI) (some a137_))))) (e := [some (O.fz (encS line_134_)), some (O.fz (encI x_135_)), some (O.fz (encI y_136_)), some (O.fz (encI a137_))]) rfl (fun h => nomatch h) ⟨⟨_, rfl⟩, ⟨.inl rfl, rfl⟩⟩
    · intro q149_
      refine sv_nx (e := [some (O.fz (encS line_134_)), some (O.fz (encI x_135_)), some (O.fz (encI y_136_)), some (O.fz (encI a137_))]) rfl ?_
      exact sv_end ⟨.inl rfl, _, rfl⟩
  rintro s144_ _ ⟨u145_, rfl⟩
  exact sv_exit (ct := (Ctl.rt (O.fz ((encO encI) none)))) (e := [some (O.fz (encS line_134_)), some (O.fz (encI x_135_)), some (O.fz (encI y_136_)), u145_]) rfl (fun h => nomatch h) ⟨.inl rfl, rfl⟩
def t_parse_rule (text_150_ : Str) : Option (List (List Int)) := (if (!true) = true then ((none : Option (List (List Int)))) else ((splitG text_150_ ((Str.ofString "
"))).bind fun lines_152_ => ((atI lines_152_ (0 : Int)).bind fun b153_ => (t_parse_size b153_).map fun b154_ => (b153_, b154_)).bind fun q155_ => (some (snd q155_)).bind fun (size_156_ : (Option Int)) => (Option.elim size_156_ ((none : Option (List (List Int)))) (fun (size_159_ : Int) => (t_square_of_zeros size_159_).bind fun rule_161_ => (t_item_pairs size_159_).bind fun pairs_163_ => (forN (fun (a164_ : (Int × (Int × Int))) (s187_ : (List (List Int))) => (if (decide ((fst a164_) < ((List.length lines_152_ : Nat) : Int))) = true then (((atI lines_152_ (fst a164_)).bind fun b193_ => (t_parse_answer b193_ (fst (snd a164_)) (snd (snd a164_))).map fun b194_ => (b193_, b194_)).map fun q195_ => (snd q195_)) else (some (none : (Option Int)))).bind fun answer_197_ => (Option.elim answer_197_ ((none : Option (List (List Int)))) (fun (answer_199_ : Int) => (set2G s187_ (fst (snd a164_)) (snd (snd a164_)) answer_199_).bind fun rule_201_ => (set2G rule_201_ (snd (snd a164_)) (fst (snd a164_)) (-answer_199_)).bind fun rule_203_ => some rule_203_))) (enLC (1 : Int) pairs_163_) rule_161_).bind fun (rule_204_ : (List (List Int))) => (if (decide ((((List.length pairs_163_ : Nat) : Int) + (1 : Int)) < ((List.length lines_152_ : Nat) : Int))) = true then ((none : Option (List (List Int)))) else (some rule_204_))))))
theorem tk_parse_rule (text_150_ : Str) : ∀ bb, t_parse_rule text_150_ = some bb → m_parse_rule [(O.fz (encS text_150_))] = some ((fun (bb : (List (List Int))) => (O.ow2 (List.map (fun r => List.map encI r) bb))) bb, (fun (bb : (List (List Int))) => [(O.fz (encS text_150_))]) bb) := by
  unfold t_parse_rule m_parse_rule
  refine def_T (ro := (fun (bb : (List (List Int))) => (O.ow2 (List.map (fun r => List.map encI r) bb)))) (ios := (fun (bb : (List (List Int))) => [(O.fz (encS text_150_))])) rfl ?_
  show SV _ [some (O.fz (encS text_150_)), none, none, none, none, none, none, none, none] _ _
  refine sv_last ?_
  refine sv_assoc ?_
  refine sv_if rfl ?_ ?_
  · exact sv_never
  · refine sv_nx (e := [some (O.fz (encS text_150_)), none, none, none, none, none, none, none, none]) rfl ?_
    refine sv_assoc ?_
    refine sv_V (st := fun b151_ => [some (O.fz (encS text_150_)), some (O.fz ((encL encS) b151_)), none, none, none, none, none, none, none]) (xv_VP (xv_VP (xv_PV' (a := (P.val (encS text_150_))) (e2 := [some (O.fz (encS text_150_)), none, none, none, none, none, none, none, none]) rfl (xv_PV' (a := (P.val (encS (Str.ofString "
")))) (e2 := [some (O.fz (encS text_150_)), none, none, none, none, none, none, none, none]) rfl xo_split)) (fun b151_ => rfl)) (fun b151_ => rfl)) ?_
    intro lines_152_
    refine sv_assoc ?_
    refine sv_V (st := fun q155_ => [some (O.fz (encS text_150_)), some (O.fz ((encL encS) lines_152_)), some (O.fz ((encO encI) (snd q155_))), none, none, none, none, none, none]) (xv_VP (xv_VP (xv_VV (t := (atI lines_152_ (0 : Int))) (t2 := fun b153_ => (t_parse_size b153_)) (cv := fun q155_ => (O.fz ((encO encI) (snd q155_)))) (st2 := fun q155_ => [some (O.fz (encS text_150_)), some (O.fz ((encL encS) lines_152_)), none, none, none, none, none, none, none]) (xv_VP (xv_PV' (a := (P.val ((encL encS) lines_152_))) (e2 := [some (O.fz (encS text_150_)), some (O.fz ((encL encS) lines_152_)), none, none, none, none, none, none, none]) rfl (xv_PV' (a := (P.val (encI (0 : Int)))) (e2 := [some (O.fz (encS text_150_)), some (O.fz ((encL encS) lines_152_)), none, none, none, none, none, none, none]) rfl (xo_ix rfl))) (fun b153_ => rfl)) (fun b153_ => (xo_call (tk_parse_size b153_) rfl rfl rfl (fun _ => rfl)))) (fun q155_ => rfl)) (fun q155_ => rfl)) ?_
    intro q155_
    refine sv_let (v := (snd q155_)) (E := fun (y157_ : (Option Int)) => [some (O.fz (encS text_150_)), some (O.fz ((encL encS) lines_152_)), some (O.fz ((encO encI) y157_)), none, none, none, none, none, none]) ?_
    intro size_156_
    refine sv_assoc ?_
    refine sv_optN (x := size_156_) (E := fun (x158_ : (Option Int)) => [some (O.fz (encS text_150_)), some (O.fz ((encL encS) lines_152_)), some (O.fz ((encO encI) x158_)), none, none, none, none, none, none]) (fun x158_ => ((bnd_eq (a := (P.val (encB (Option.isNone x158_)))) (e := [some (O.fz (encS text_150_)), some (O.fz ((encL encS) lines_152_)), some (O.fz ((encO encI) x158_)), none, none, none, none, none, none]) ((bnd_eq (a := (P.val ((encO encI) x158_))) (e := [some (O.fz (encS text_150_)), some (O.fz ((encL encS) lines_152_)), some (O.fz ((encO encI) x158_)), none, none, none, none, none, none]) rfl).trans ((bnd_eq (a := (P.val (encN ()))) (e := [some (O.fz (encS text_150_)), some (O.fz ((encL encS) lines_152_)), some (O.fz ((encO encI) x158_)), none, none, none, none, none, none]) rfl).trans (oe_isN (fun _ => rfl))))).trans rfl)) ?_ ?_
    · show SV _ [some (O.fz (encS text_150_)), some (O.fz ((encL encS) lines_152_)), some (O.fz ((encO encI) none)), none, none, none, none, none, none] _ _
      exact sv_never
    · intro size_159_
      show SV _ [some (O.fz (encS text_150_)), some (O.fz ((encL encS) lines_152_)), some (O.fz (encI size_159_)), none, none, none, none, none, none] _ _
      refine sv_nx (e := [some (O.fz (encS text_150_)), some (O.fz ((encL encS) lines_152_)), some (O.fz (encI size_159_)), none, none, none, none, none, none]) rfl ?_
      refine sv_assoc ?_
      refine sv_V (st := fun b160_ => [some (O.fz (encS text_150_)), some (O.fz ((encL encS) lines_152_)), some (O.fz (encI size_159_)), some (O.ow2 (List.map (fun r => List.map encI r) b160_)), none, none, none, none, none]) (xv_VP (xv_PV' (a := [(P.val (encI size_159_))]) (e2 := [some (O.fz (encS text_150_)), some (O.fz ((encL encS) lines_152_)), some (O.fz (encI size_159_)), none, none, none, none, none, none]) rfl (xo_call (tk_square_of_zeros size_159_) rfl rfl rfl (fun _ => rfl))) (fun b160_ => rfl)) ?_
      intro rule_161_
      refine sv_assoc ?_
      refine sv_V (st := fun b162_ => [some (O.fz (encS text_150_)), some (O.fz ((encL encS) lines_152_)), some (O.fz (encI size_159_)), some (O.ow2 (List.map (fun r => List.map encI r) rule_161_)), some (O.fz ((encL (encT encI encI)) b162_)), none, none, none, none]) (xv_VP (xv_VP (xv_PV' (a := [(P.val (encI size_159_))]) (e2 := [some (O.fz (encS text_150_)), some (O.fz ((encL encS) lines_152_)), some (O.fz (encI size_159_)), some (O.ow2 (List.map (fun r => List.map encI r) rule_161_)), none, none, none, none, none]) rfl (xo_call (tk_item_pairs size_159_) rfl rfl rfl (fun _ => rfl))) (fun b162_ => rfl)) (fun b162_ => rfl)) ?_
      intro pairs_163_
      refine sv_assoc ?_
      refine sv_forN (en := (encT encI (encT encI encI))) (e := [some (O.fz (encS text_150_)), some (O.fz ((encL encS) lines_152_)), some (O.fz (encI size_159_)), some (O.ow2 (List.map (fun r => List.map encI r) rule_161_)), some (O.fz ((encL (encT encI encI)) pairs_163_)), none, none, none, none]) (Q := fun (s187_ : (List (List Int))) e192_ => ∃ u188_, ∃ u189_, ∃ u190_, ∃ u191_, e192_ = [some (O.fz (encS text_150_)), some (O.fz ((encL encS) lines_152_)), some (O.fz (encI size_159_)), some (O.ow2 (List.map (fun r => List.map encI r) s187_)), some (O.fz ((encL (encT encI encI)) pairs_163_)), u188_, u189_, u190_, u191_]) (oe_enumC (p := (P.val ((encL (encT encI encI)) pairs_163_))) (xs := pairs_163_) rfl (by decide) rfl) ⟨_, _, _, _, rfl⟩ ?_ ?_
      · rintro a164_ s187_ _ ⟨u188_, u189_, u190_, u191_, rfl⟩
        refine ⟨[some (O.fz (encS text_150_)), some (O.fz ((encL encS) lines_152_)), some (O.fz (encI size_159_)), some (O.ow2 (List.map (fun r => List.map encI r) s187_)), some (O.fz ((encL (encT encI encI)) pairs_163_)), some (O.fz (encI (fst a164_))), u189_, some (O.fz (encI (fst (snd a164_)))), some (O.fz (encI (snd (snd a164_))))], rfl, ?_⟩
        refine sv_last ?_
        refine sv_assoc ?_
        refine sv_V (st := fun b196_ => [some (O.fz (encS text_150_)), some (O.fz ((encL encS) lines_152_)), some (O.fz (encI size_159_)), some (O.ow2 (List.map (fun r => List.map encI r) s187_)), some (O.fz ((encL (encT encI encI)) pairs_163_)), some (O.fz (encI (fst a164_))), some (O.fz ((encO encI) b196_)), some (O.fz (encI (fst (snd a164_)))), some (O.fz (encI (snd (snd a164_))))]) (xv_VP (xv_ifP (av := fun b196_ => (P.val ((encO encI) b196_))) (st := fun b196_ => [some (O.fz (encS text_150_)), some (O.fz ((encL encS) lines_152_)), some (O.fz (encI size_159_)), some (O.ow2 (List.map (fun r => List.map encI r) s187_)), some (O.fz ((encL (encT encI encI)) pairs_163_)), some (O.fz (encI (fst a164_))), u189_, some (O.fz (encI (fst (snd a164_)))), some (O.fz (encI (snd (snd a164_))))]) ((bnd_eq (a := (P.val (encB (decide ((fst a164_) < ((List.length lines_152_ : Nat) : Int)))))) (e := [some (O.fz (encS text_150_)), some (O.fz ((encL encS) lines_152_)), some (O.fz (encI size_159_)), some (O.ow2 (List.map (fun r => List.map encI r) s187_)), some (O.fz ((encL (encT encI encI)) pairs_163_)), some (O.fz (encI (fst a164_))), u189_, some (O.fz (encI (fst (snd a164_)))), some (O.fz (encI (snd (snd a164_))))]) ((bnd_eq (a := (P.val (encI (fst a164_)))) (e := [some (O.fz (encS text_150_)), some (O.fz ((encL encS) lines_152_)), some (O.fz (encI size_159_)), some (O.ow2 (List.map (fun r => List.map encI r) s187_)), some (O.fz ((encL (encT encI encI)) pairs_163_)), some (O.fz (encI (fst a164_))), u189_, some (O.fz (encI (fst (snd a164_)))), some (O.fz (encI (snd (snd a164_))))]) rfl).trans ((bnd_eq (a := (P.val (encI ((List.length lines_152_ : Nat) : Int)))) (e := [some (O.fz (encS text_150_)), some (O.fz ((encL encS) lines_152_)), some (O.fz (encI size_159_)), some (O.ow2 (List.map (fun r => List.map encI r) s187_)), some (O.fz ((encL (encT encI encI)) pairs_163_)), some (O.fz (encI (fst a164_))), u189_, some (O.fz (encI (fst (snd a164_)))), some (O.fz (encI (snd (snd a164_))))]) ((bnd_eq (a := [(P.val ((encL encS) lines_152_))]) (e := [some (O.fz (encS text_150_)), some (O.fz ((encL encS) lines_152_)), some (O.fz (encI size_159_)), some (O.ow2 (List.map (fun r => List.map encI r) s187_)), some (O.fz ((encL (encT encI encI)) pairs_163_)), some (O.fz (encI (fst a164_))), u189_, some (O.fz (encI (fst (snd a164_)))), some (O.fz (encI (snd (snd a164_))))]) rfl).trans (oe_len rfl))).trans rfl))).trans rfl) (xv_map (xv_VP (xv_VV (t := (atI lines_152_ (fst a164_))) (t2 := fun b193_ => (t_parse_answer b193_ (fst (snd a164_)) (snd (snd a164_)))) (cv := fun q195_ => (O.fz ((encO encI) (snd q195_)))) (st2 := fun q195_ => [some (O.fz (encS text_150_)), some (O.fz ((encL encS) lines_152_)), some (O.fz (encI size_159_)), some (O.ow2 (List.map (fun r => List.map encI r) s187_)), some (O.fz ((encL (encT encI encI)) pairs_163_)), some (O.fz (encI (fst a164_))), u189_, some (O.fz (encI (fst (snd a164_)))), some (O.fz (encI (snd (snd a164_))))]) (xv_VP (xv_PV' (a := (P.val ((encL encS) lines_152_))) (e2 := [some (O.fz (encS text_150_)), some (O.fz ((encL encS) lines_152_)), some (O.fz (encI size_159_)), some (O.ow2 (List.map (fun r => List.map encI r) s187_)), some (O.fz ((encL (encT encI encI)) pairs_163_)), some (O.fz (encI (fst a164_))), u189_, some (O.fz (encI (fst (snd a164_)))), some (O.fz (encI (snd (snd a164_))))]) rfl (xv_PV' (a := (P.val (encI (fst a164_)))) (e2 := [some (O.fz (encS text_150_)), some (O.fz ((encL encS) lines_152_)), some (O.fz (encI size_159_)), some (O.ow2 (List.map (fun r => List.map encI r) s187_)), some (O.fz ((encL (encT encI encI)) pairs_163_)), some (O.fz (encI (fst a164_))), u189_, some (O.fz (encI (fst (snd a164_)))), some (O.fz (encI (snd (snd a164_))))]) rfl (xo_ix rfl))) (fun b193_ => rfl)) (fun b193_ => (xo_call (tk_parse_answer b193_ (fst (snd a164_)) (snd (snd a164_))) rfl rfl rfl (fun _ => rfl)))) (fun q195_ => rfl))) (xv_some rfl)) (fun b196_ => rfl)) ?_
        intro answer_197_
        refine sv_assoc ?_
        refine sv_optN (x := answer_197_) (E := fun (x198_ : (Option Int)) => [some (O.fz (encS text_150_)), some (O.fz ((encL encS) lines_152_)), some (O.fz (encI size_159_)), some (O.ow2 (List.map (fun r => List.map encI r) s187_)), some (O.fz ((encL (encT encI encI)) pairs_163_)), some (O.fz (encI (fst a164_))), some (O.fz ((encO encI) x198_)), some (O.fz (encI (fst (snd a164_)))), some (O.fz (encI (snd (snd a164_))))]) (fun x198_ => ((bnd_eq (a := (P.val (encB (Option.isNone x198_)))) (e := [some (O.fz (encS text_150_)), some (O.fz ((encL encS) lines_152_)), some (O.fz (encI size_159_)), some (O.ow2 (List.map (fun r => List.map encI r) s187_)), some (O.fz ((encL (encT encI encI)) pairs_163_)), some (O.fz (encI (fst a164_))), some (O.fz ((encO encI) x198_)), some (O.fz (encI (fst (snd a164_)))), some (O.fz (encI (snd (snd a164_))))]) ((bnd_eq (a := (P.val ((encO encI) x198_))) (e := [some (O.fz (encS text_150_)), some (O.fz ((encL encS) lines_152_)), some (O.fz (encI size_159_)), some (O.ow2 (List.map (fun r => List.map encI r) s187_)), some (O.fz ((encL (encT encI encI)) pairs_163_)), some (O.fz (encI (fst a164_))), some (O.fz ((encO encI) x198_)), some (O.fz (encI (fst (snd a164_)))), some (O.fz (encI (snd (snd a164_))))]) rfl).trans ((bnd_eq (a := (P.val (encN ()))) (e := [some (O.fz (encS text_150_)), some (O.fz ((encL encS) lines_152_)), some (O.fz (encI size_159_)), some (O.ow2 (List.map (fun r => List.map encI r) s187_)), some (O.fz ((encL (encT encI encI)) pairs_163_)), some (O.fz (encI (fst a164_))), some (O.fz ((encO encI) x198_)), some (O.fz (encI (fst (snd a164_)))), some (O.fz (encI (snd (snd a164_))))]) rfl).trans (oe_isN (fun _ => rfl))))).trans rfl)) ?_ ?_
        · show SV _ [some (O.fz (encS text_150_)), some (O.fz ((encL encS) lines_152_)), some (O.fz (encI size_159_)), some (O.ow2 (List.map (fun r => List.map encI r) s187_)), some (O.fz ((encL (encT encI encI)) pairs_163_)), some (O.fz (encI (fst a164_))), some (O.fz ((encO encI) none)), some (O.fz (encI (fst (snd a164_)))), some (O.fz (encI (snd (snd a164_))))] _ _
          exact sv_never
        · intro answer_199_
          show SV _ [some (O.fz (encS text_150_)), some (O.fz ((encL encS) lines_152_)), some (O.fz (encI size_159_)), some (O.ow2 (List.map (fun r => List.map encI r) s187_)), some (O.fz ((encL (encT encI encI)) pairs_163_)), some (O.fz (encI (fst a164_))), some (O.fz (encI answer_199_)), some (O.fz (encI (fst (snd a164_)))), some (O.fz (encI (snd (snd a164_))))] _ _
          refine sv_nx (e := [some (O.fz (encS text_150_)), some (O.fz ((encL encS) lines_152_)), some (O.fz (encI size_159_)), some (O.ow2 (List.map (fun r => List.map encI r) s187_)), some (O.fz ((encL (encT encI encI)) pairs_163_)), some (O.fz (encI (fst a164_))), some (O.fz (encI answer_199_)), some (O.fz (encI (fst (snd a164_)))), some (O.fz (encI (snd (snd a164_))))]) rfl ?_
          refine sv_assoc ?_
          refine sv_V (st := fun b200_ => [some (O.fz (encS text_150_)), some (O.fz ((encL encS) lines_152_)), some (O.fz (encI size_159_)), some (O.ow2 (List.map (fun r => List.map encI r) b200_)), some (O.fz ((encL (encT encI encI)) pairs_163_)), some (O.fz (encI (fst a164_))), some (O.fz (encI answer_199_)), some (O.fz (encI (fst (snd a164_)))), some (O.fz (encI (snd (snd a164_))))]) (xo_set2 (en := encI) (xs := s187_) (x := answer_199_) rfl rfl rfl rfl rfl (fun _ => rfl)) ?_
          intro rule_201_
          refine sv_V (st := fun b202_ => [some (O.fz (encS text_150_)), some (O.fz ((encL encS) lines_152_)), some (O.fz (encI size_159_)), some (O.ow2 (List.map (fun r => List.map encI r) b202_)), some (O.fz ((encL (encT encI encI)) pairs_163_)), some (O.fz (encI (fst a164_))), some (O.fz (encI answer_199_)), some (O.fz (encI (fst (snd a164_)))), some (O.fz (encI (snd (snd a164_))))]) (xo_set2 (en := encI) (xs := rule_201_) (x := (-answer_199_)) rfl rfl rfl rfl rfl (fun _ => rfl)) ?_
          intro rule_203_
          exact sv_end ⟨.inl rfl, _, _, _, _, rfl⟩
      rintro rule_204_ _ ⟨u188_, u189_, u190_, u191_, rfl⟩
      refine sv_assoc ?_
      refine sv_if ((bnd_eq (a := (P.val (encB (decide ((((List.length pairs_163_ : Nat) : Int) + (1 : Int)) < ((List.length lines_152_ : Nat) : Int)))))) (e := [some (O.fz (encS text_150_)), some (O.fz ((encL encS) lines_152_)), some (O.fz (encI size_159_)), some (O.ow2 (List.map (fun r => List.map encI r) rule_204_)), some (O.fz ((encL (encT encI encI)) pairs_163_)), u188_, u189_, u190_, u191_]) ((bnd_eq (a := (P.val (encI ((List.length lines_152_ : Nat) : Int)))) (e := [some (O.fz (encS text_150_)), some (O.fz ((encL encS) lines_152_)), some (O.fz (encI size_159_)), some (O.ow2 (List.map (fun r => List.map encI r) rule_204_)), some (O.fz ((encL (encT encI encI)) pairs_163_)), u188_, u189_, u190_, u191_]) ((bnd_eq (a := [(P.val ((encL encS) lines_152_))]) (e := [some (O.fz (encS text_150_)), some (O.fz ((encL encS) lines_152_)), some (O.fz (encI size_159_)), some (O.ow2 (List.map (fun r => List.map encI r) rule_204_)), some (O.fz ((encL (encT encI encI)) pairs_163_)), u188_, u189_, u190_, u191_]) rfl).trans (oe_len rfl))).trans ((bnd_eq (a := (P.val (encI (((List.length pairs_163_ : Nat) : Int) + (1 : Int))))) (e := [some (O.fz (encS text_150_)), some (O.fz ((encL encS) lines_152_)), some (O.fz (encI size_159_)), some (O.ow2 (List.map (fun r => List.map encI r) rule_204_)), some (O.fz ((encL (encT encI encI)) pairs_163_)), u188_, u189_, u190_, u191_]) ((bnd_eq (a := (P.val (encI ((List.length pairs_163_ : Nat) : Int)))) (e := [some (O.fz (encS text_150_)), some (O.fz ((encL encS) lines_152_)), some (O.fz (encI size_159_)), some (O.ow2 (List.map (fun r => List.map encI r) rule_204_)), some (O.fz ((encL (encT encI encI)) pairs_163_)), u188_, u189_, u190_, u191_]) ((bnd_eq (a := [(P.val ((encL (encT encI encI)) pairs_163_))]) (e := [some (O.fz (encS text_150_)), some (O.fz ((encL encS) lines_152_)), some (O.fz (encI size_159_)), some (O.ow2 (List.map (fun r => List.map encI r) rule_204_)), some (O.fz ((encL (encT encI encI)) pairs_163_)), u188_, u189_, u190_, u191_]) rfl).trans (oe_len rfl))).trans rfl)).trans rfl))).trans rfl) ?_ ?_
      · exact sv_never
      · refine sv_nx (e := [some (O.fz (encS text_150_)), some (O.fz ((encL encS) lines_152_)), some (O.fz (encI size_159_)), some (O.ow2 (List.map (fun r => List.map encI r) rule_204_)), some (O.fz ((encL (encT encI encI)) pairs_163_)), u188_, u189_, u190_, u191_]) rfl ?_
        exact sv_exit (ct := .rt (O.ow2 (List.map (fun r => List.map encI r) rule_204_))) (e := [some (O.fz (encS text_150_)), some (O.fz ((encL encS) lines_152_)), some (O.fz (encI size_159_)), none, some (O.fz ((encL (encT encI encI)) pairs_163_)), u188_, u189_, u190_, u191_]) rfl (fun h => nomatch h) ⟨.inl rfl, rfl⟩
def t__law_draws (cell_205_ : Int) : Option (Int × Int × Bool) := (((((powI (10 : Int) (60 : Int)).bind fun b206_ => (powI b206_ (60 : Int)).map fun b207_ => (b206_, b207_)).bind fun q208_ => (powI (snd q208_) (4 : Int)).map fun b209_ => (q208_, b209_)).bind fun q210_ => (modI cell_205_ (snd q210_)).map fun b211_ => (q210_, b211_)).bind fun q212_ => (powI (10 : Int) (18 : Int)).map fun b213_ => (q212_, b213_)).map fun q214_ => ((snd (fst q214_)), (0 : Int), (decide ((snd q214_) ≤ cell_205_)))
theorem tk__law_draws (cell_205_ : Int) : ∀ bb, t__law_draws cell_205_ = some bb → m__law_draws [(O.fz (encI cell_205_))] = some ((fun (bb : (Int × Int × Bool)) => (O.ow [(encI (fst bb)), (encI (fst (snd bb))), (encB (snd (snd bb)))])) bb, (fun (bb : (Int × Int × Bool)) => [(O.fz (encI cell_205_))]) bb) := by
  unfold t__law_draws m__law_draws
  refine def_T (ro := (fun (bb : (Int × Int × Bool)) => (O.ow [(encI (fst bb)), (encI (fst (snd bb))), (encB (snd (snd bb)))]))) (ios := (fun (bb : (Int × Int × Bool)) => [(O.fz (encI cell_205_))])) rfl ?_
  show SV _ [some (O.fz (encI cell_205_))] _ _
  refine sv_last ?_
  exact sv_exitV (ct := fun q214_ => (Ctl.rt (O.ow [(encI ((snd (fst q214_)), (0 : Int), (decide ((snd q214_) ≤ cell_205_))).1), (encI ((snd (fst q214_)), (0 : Int), (decide ((snd q214_) ≤ cell_205_))).2.1), (encB ((snd (fst q214_)), (0 : Int), (decide ((snd q214_) ≤ cell_205_))).2.2)]))) (st := fun q214_ => [some (O.fz (encI cell_205_))]) (xv_VP (xv_VP (xv_VP (xv_VV (t := ((((powI (10 : Int) (60 : Int)).bind fun b206_ => (powI b206_ (60 : Int)).map fun b207_ => (b206_, b207_)).bind fun q208_ => (powI (snd q208_) (4 : Int)).map fun b209_ => (q208_, b209_)).bind fun q210_ => (modI cell_205_ (snd q210_)).map fun b211_ => (q210_, b211_))) (t2 := fun q212_ => (powI (10 : Int) (18 : Int))) (cv := fun q214_ => [(P.val (encI (snd (fst q214_)))), (P.val (encI (0 : Int))), (P.val (encB (decide ((snd q214_) ≤ cell_205_))))]) (st2 := fun q214_ => [some (O.fz (encI cell_205_))]) (xv_PV' (a := (P.val (encI cell_205_))) (e2 := [some (O.fz (encI cell_205_))]) rfl (xv_VV (t := (((powI (10 : Int) (60 : Int)).bind fun b206_ => (powI b206_ (60 : Int)).map fun b207_ => (b206_, b207_)).bind fun q208_ => (powI (snd q208_) (4 : Int)).map fun b209_ => (q208_, b209_))) (t2 := fun q210_ => (modI cell_205_ (snd q210_))) (cv := fun q212_ => (P.val (encI (snd q212_)))) (st2 := fun q212_ => [some (O.fz (encI cell_205_))]) (xv_VV (t := ((powI (10 : Int) (60 : Int)).bind fun b206_ => (powI b206_ (60 : Int)).map fun b207_ => (b206_, b207_))) (t2 := fun q208_ => (powI (snd q208_) (4 : Int))) (cv := fun q210_ => (P.val (encI (snd q210_)))) (st2 := fun q210_ => [some (O.fz (encI cell_205_))]) (xv_VV (t := (powI (10 : Int) (60 : Int))) (t2 := fun b206_ => (powI b206_ (60 : Int))) (cv := fun q208_ => (P.val (encI (snd q208_)))) (st2 := fun q208_ => [some (O.fz (encI cell_205_))]) (xv_PV' (a := (P.val (encI (10 : Int)))) (e2 := [some (O.fz (encI cell_205_))]) rfl (xv_PV' (a := (P.val (encI (60 : Int)))) (e2 := [some (O.fz (encI cell_205_))]) rfl xo_pow)) (fun b206_ => (xv_PV' (a := (P.val (encI (60 : Int)))) (e2 := [some (O.fz (encI cell_205_))]) rfl xo_pow))) (fun q208_ => (xv_PV' (a := (P.val (encI (4 : Int)))) (e2 := [some (O.fz (encI cell_205_))]) rfl xo_pow))) (fun q210_ => xo_mod))) (fun q212_ => (xv_VP (xv_PV' (a := (P.val (encI (0 : Int)))) (e2 := [some (O.fz (encI cell_205_))]) rfl (xv_VP (xv_VP (xv_PV' (a := (P.val (encI cell_205_))) (e2 := [some (O.fz (encI cell_205_))]) rfl (xv_VP (xv_PV' (a := (P.val (encI (10 : Int)))) (e2 := [some (O.fz (encI cell_205_))]) rfl (xv_PV' (a := (P.val (encI (18 : Int)))) (e2 := [some (O.fz (encI cell_205_))]) rfl xo_pow)) (fun b213_ => rfl))) (fun b213_ => rfl)) (fun b213_ => rfl))) (fun b213_ => rfl)))) (fun q214_ => rfl)) (fun q214_ => rfl)) (fun q214_ => rfl)) (fun _ h => nomatch h) (fun _ => ⟨.inl rfl, rfl⟩)
def t__law_next (draws_215_ : (Int × Int × Bool)) : Option (Int × (Int × Int × Bool)) := (some ((fst draws_215_), ((fst (snd draws_215_)) + (1 : Int)), (snd (snd draws_215_)))).bind fun (draws_216_ : (Int × Int × Bool)) => (some (fst (snd draws_216_))).bind fun (k_218_ : Int) => (if (snd (snd draws_216_)) = true then (((powI (10 : Int) (6 : Int)).bind fun b220_ => (modI (fst draws_216_) b220_).map fun b221_ => (b220_, b221_)).bind fun q222_ => (some (snd q222_)).bind fun (number_223_ : Int) => ((powI (10 : Int) (6 : Int)).bind fun b225_ => (fdivI (fst draws_216_) b225_).map fun b226_ => (b225_, b226_)).bind fun q227_ => (some ((snd q227_), (fst (snd draws_216_)), (snd (snd draws_216_)))).bind fun (draws_228_ : (Int × Int × Bool)) => some (number_223_, draws_228_)) else ((((mulI k_218_ k_218_).bind fun b230_ => (mulI b230_ (7919 : Int)).map fun b231_ => (b230_, b231_)).bind fun q232_ => (mulI (((Int.fmod (fst draws_216_) (1000003 : Int)) + (snd q232_)) + k_218_) (48271 : Int)).map fun b233_ => (q232_, b233_)).bind fun q234_ => (some (Int.fmod (snd q234_) (2147483629 : Int))).bind fun (number_235_ : Int) => (mulI number_235_ number_235_).bind fun b237_ => (some (Int.fmod b237_ (2147483587 : Int))).bind fun (number_238_ : Int) => (mulI number_238_ (number_238_ + (2 : Int))).map fun b240_ => ((Int.fdiv (Int.fmod b240_ (2147483579 : Int)) (7 : Int)), draws_216_)))
theorem tk__law_next (draws_215_ : (Int × Int × Bool)) : ∀ bb, t__law_next draws_215_ = some bb → m__law_next [(O.ow [(encI (fst draws_215_)), (encI (fst (snd draws_215_))), (encB (snd (snd draws_215_)))])] = some ((fun (bb : (Int × (Int × Int × Bool))) => (O.fz (encI (fst bb)))) bb, (fun (bb : (Int × (Int × Int × Bool))) => [(O.ow [(encI (fst (snd bb))), (encI (fst (snd (snd bb)))), (encB (snd (snd (snd bb))))])]) bb) := by
  unfold t__law_next m__law_next
  refine def_T (ro := (fun (bb : (Int × (Int × Int × Bool))) => (O.fz (encI (fst bb))))) (ios := (fun (bb : (Int × (Int × Int × Bool))) => [(O.ow [(encI (fst (snd bb))), (encI (fst (snd (snd bb)))), (encB (snd (snd (snd bb))))])])) rfl ?_
  show SV _ [some (O.ow [(encI (fst draws_215_)), (encI (fst (snd draws_215_))), (encB (snd (snd draws_215_)))]), none, none] _ _
  refine sv_last ?_
  refine sv_assoc ?_
  refine sv_nx (e := [some (O.ow [(encI ((fst draws_215_), ((fst (snd draws_215_)) + (1 : Int)), (snd (snd draws_215_))).1), (encI ((fst draws_215_), ((fst (snd draws_215_)) + (1 : Int)), (snd (snd draws_215_))).2.1), (encB ((fst draws_215_), ((fst (snd draws_215_)) + (1 : Int)), (snd (snd draws_215_))).2.2)]), none, none]) rfl ?_
  refine sv_let (v := ((fst draws_215_), ((fst (snd draws_215_)) + (1 : Int)), (snd (snd draws_215_)))) (E := fun (y217_ : (Int × Int × Bool)) => [some (O.ow [(encI (fst y217_)), (encI (fst (snd y217_))), (encB (snd (snd y217_)))]), none, none]) ?_
  intro draws_216_
  refine sv_assoc ?_
  refine sv_nx (e := [some (O.ow [(encI (fst draws_216_)), (encI (fst (snd draws_216_))), (encB (snd (snd draws_216_)))]), some (O.fz (encI (fst (snd draws_216_)))), none]) rfl ?_
  refine sv_let (v := (fst (snd draws_216_))) (E := fun (y219_ : Int) => [some (O.ow [(encI (fst draws_216_)), (encI (fst (snd draws_216_))), (encB (snd (snd draws_216_)))]), some (O.fz (encI y219_)), none]) ?_
  intro k_218_
  refine sv_assoc ?_
  refine sv_if rfl ?_ ?_
  · refine sv_assoc ?_
    refine sv_V (st := fun q222_ => [some (O.ow [(encI (fst draws_216_)), (encI (fst (snd draws_216_))), (encB (snd (snd draws_216_)))]), some (O.fz (encI k_218_)), some (O.fz (encI (snd q222_)))]) (xv_VP (xv_PV' (a := (P.val (encI (fst draws_216_)))) (e2 := [some (O.ow [(encI (fst draws_216_)), (encI (fst (snd draws_216_))), (encB (snd (snd draws_216_)))]), some (O.fz (encI k_218_)), none]) rfl (xv_VV (t := (powI (10 : Int) (6 : Int))) (t2 := fun b220_ => (modI (fst draws_216_) b220_)) (cv := fun q222_ => (P.val (encI (snd q222_)))) (st2 := fun q222_ => [some (O.ow [(encI (fst draws_216_)), (encI (fst (snd draws_216_))), (encB (snd (snd draws_216_)))]), some (O.fz (encI k_218_)), none]) (xv_PV' (a := (P.val (encI (10 : Int)))) (e2 := [some (O.ow [(encI (fst draws_216_)), (encI (fst (snd draws_216_))), (encB (snd (snd draws_216_)))]), some (O.fz (encI k_218_)), none]) rfl (xv_PV' (a := (P.val (encI (6 : Int)))) (e2 := [some (O.ow [(encI (fst draws_216_)), (encI (fst (snd draws_216_))), (encB (snd (snd draws_216_)))]), some (O.fz (encI k_218_)), none]) rfl xo_pow)) (fun b220_ => xo_mod))) (fun q222_ => rfl)) ?_
    intro q222_
    refine sv_let (v := (snd q222_)) (E := fun (y224_ : Int) => [some (O.ow [(encI (fst draws_216_)), (encI (fst (snd draws_216_))), (encB (snd (snd draws_216_)))]), some (O.fz (encI k_218_)), some (O.fz (encI y224_))]) ?_
    intro number_223_
    refine sv_assoc ?_
    refine sv_V (st := fun q227_ => [some (O.ow [(encI ((snd q227_), (fst (snd draws_216_)), (snd (snd draws_216_))).1), (encI ((snd q227_), (fst (snd draws_216_)), (snd (snd draws_216_))).2.1), (encB ((snd q227_), (fst (snd draws_216_)), (snd (snd draws_216_))).2.2)]), some (O.fz (encI k_218_)), some (O.fz (encI number_223_))]) (xv_VP (xv_PV' (a := (P.val (encI (fst draws_216_)))) (e2 := [some (O.ow [(encI (fst draws_216_)), (encI (fst (snd draws_216_))), (encB (snd (snd draws_216_)))]), some (O.fz (encI k_218_)), some (O.fz (encI number_223_))]) rfl (xv_VV (t := (powI (10 : Int) (6 : Int))) (t2 := fun b225_ => (fdivI (fst draws_216_) b225_)) (cv := fun q227_ => (P.val (encI (snd q227_)))) (st2 := fun q227_ => [some (O.ow [(encI (fst draws_216_)), (encI (fst (snd draws_216_))), (encB (snd (snd draws_216_)))]), some (O.fz (encI k_218_)), some (O.fz (encI number_223_))]) (xv_PV' (a := (P.val (encI (10 : Int)))) (e2 := [some (O.ow [(encI (fst draws_216_)), (encI (fst (snd draws_216_))), (encB (snd (snd draws_216_)))]), some (O.fz (encI k_218_)), some (O.fz (encI number_223_))]) rfl (xv_PV' (a := (P.val (encI (6 : Int)))) (e2 := [some (O.ow [(encI (fst draws_216_)), (encI (fst (snd draws_216_))), (encB (snd (snd draws_216_)))]), some (O.fz (encI k_218_)), some (O.fz (encI number_223_))]) rfl xo_pow)) (fun b225_ => xo_fdiv))) (fun q227_ => rfl)) ?_
    intro q227_
    refine sv_let (v := ((snd q227_), (fst (snd draws_216_)), (snd (snd draws_216_)))) (E := fun (y229_ : (Int × Int × Bool)) => [some (O.ow [(encI (fst y229_)), (encI (fst (snd y229_))), (encB (snd (snd y229_)))]), some (O.fz (encI k_218_)), some (O.fz (encI number_223_))]) ?_
    intro draws_228_
    exact sv_exit (ct := (Ctl.rt (O.fz (encI number_223_)))) (e := [some (O.ow [(encI (fst draws_228_)), (encI (fst (snd draws_228_))), (encB (snd (snd draws_228_)))]), some (O.fz (encI k_218_)), some (O.fz (encI number_223_))]) rfl (fun h => nomatch h) ⟨.inl rfl, rfl⟩
  · refine sv_nx (e := [some (O.ow [(encI (fst draws_216_)), (encI (fst (snd draws_216_))), (encB (snd (snd draws_216_)))]), some (O.fz (encI k_218_)), none]) rfl ?_
    refine sv_assoc ?_
    refine sv_V (st := fun q234_ => [some (O.ow [(encI (fst draws_216_)), (encI (fst (snd draws_216_))), (encB (snd (snd draws_216_)))]), some (O.fz (encI k_218_)), some (O.fz (encI (Int.fmod (snd q234_) (2147483629 : Int))))]) (xv_VP (xv_VP (xv_VP (xv_VP (xv_VV (t := ((mulI k_218_ k_218_).bind fun b230_ => (mulI b230_ (7919 : Int)).map fun b231_ => (b230_, b231_))) (t2 := fun q232_ => (mulI (((Int.fmod (fst draws_216_) (1000003 : Int)) + (snd q232_)) + k_218_) (48271 : Int))) (cv := fun q234_ => (P.val (encI (snd q234_)))) (st2 := fun q234_ => [some (O.ow [(encI (fst draws_216_)), (encI (fst (snd draws_216_))), (encB (snd (snd draws_216_)))]), some (O.fz (encI k_218_)), none]) (xv_VP (xv_PV' (a := (P.val (encI (Int.fmod (fst draws_216_) (1000003 : Int))))) (e2 := [some (O.ow [(encI (fst draws_216_)), (encI (fst (snd draws_216_))), (encB (snd (snd draws_216_)))]), some (O.fz (encI k_218_)), none]) rfl (xv_VP (xv_VV (t := (mulI k_218_ k_218_)) (t2 := fun b230_ => (mulI b230_ (7919 : Int))) (cv := fun q232_ => (P.val (encI (snd q232_)))) (st2 := fun q232_ => [some (O.ow [(encI (fst draws_216_)), (encI (fst (snd draws_216_))), (encB (snd (snd draws_216_)))]), some (O.fz (encI k_218_)), none]) (xv_PV' (a := (P.val (encI k_218_))) (e2 := [some (O.ow [(encI (fst draws_216_)), (encI (fst (snd draws_216_))), (encB (snd (snd draws_216_)))]), some (O.fz (encI k_218_)), none]) rfl (xv_PV' (a := (P.val (encI k_218_))) (e2 := [some (O.ow [(encI (fst draws_216_)), (encI (fst (snd draws_216_))), (encB (snd (snd draws_216_)))]), some (O.fz (encI k_218_)), none]) rfl xo_mul)) (fun b230_ => (xv_PV' (a := (P.val (encI (7919 : Int)))) (e2 := [some (O.ow [(encI (fst draws_216_)), (encI (fst (snd draws_216_))), (encB (snd (snd draws_216_)))]), some (O.fz (encI k_218_)), none]) rfl xo_mul))) (fun q232_ => rfl))) (fun q232_ => rfl)) (fun q232_ => (xv_PV' (a := (P.val (encI (48271 : Int)))) (e2 := [some (O.ow [(encI (fst draws_216_)), (encI (fst (snd draws_216_))), (encB (snd (snd draws_216_)))]), some (O.fz (encI k_218_)), none]) rfl xo_mul))) (fun q234_ => rfl)) (fun q234_ => rfl)) (fun q234_ => rfl)) (fun q234_ => rfl)) ?_
    intro q234_
    refine sv_let (v := (Int.fmod (snd q234_) (2147483629 : Int))) (E := fun (y236_ : Int) => [some (O.ow [(encI (fst draws_216_)), (encI (fst (snd draws_216_))), (encB (snd (snd draws_216_)))]), some (O.fz (encI k_218_)), some (O.fz (encI y236_))]) ?_
    intro number_235_
    refine sv_assoc ?_
    refine sv_V (st := fun b237_ => [some (O.ow [(encI (fst draws_216_)), (encI (fst (snd draws_216_))), (encB (snd (snd draws_216_)))]), some (O.fz (encI k_218_)), some (O.fz (encI (Int.fmod b237_ (2147483587 : Int))))]) (xv_VP (xv_VP (xv_VP (xv_VP (xv_PV' (a := (P.val (encI number_235_))) (e2 := [some (O.ow [(encI (fst draws_216_)), (encI (fst (snd draws_216_))), (encB (snd (snd draws_216_)))]), some (O.fz (encI k_218_)), some (O.fz (encI number_235_))]) rfl (xv_PV' (a := (P.val (encI number_235_))) (e2 := [some (O.ow [(encI (fst draws_216_)), (encI (fst (snd draws_216_))), (encB (snd (snd draws_216_)))]), some (O.fz (encI k_218_)), some (O.fz (encI number_235_))]) rfl xo_mul)) (fun b237_ => rfl)) (fun b237_ => rfl)) (fun b237_ => rfl)) (fun b237_ => rfl)) ?_
    intro b237_
    refine sv_let (v := (Int.fmod b237_ (2147483587 : Int))) (E := fun (y239_ : Int) => [some (O.ow [(encI (fst draws_216_)), (encI (fst (snd draws_216_))), (encB (snd (snd draws_216_)))]), some (O.fz (encI k_218_)), some (O.fz (encI y239_))]) ?_
    intro number_238_
    exact sv_exitV (ct := fun b240_ => (Ctl.rt (O.fz (encI (Int.fdiv (Int.fmod b240_ (2147483579 : Int)) (7 : Int)))))) (st := fun b240_ => [some (O.ow [(encI (fst draws_216_)), (encI (fst (snd draws_216_))), (encB (snd (snd draws_216_)))]), some (O.fz (encI k_218_)), some (O.fz (encI number_238_))]) (xv_VP (xv_VP (xv_VP (xv_VP (xv_VP (xv_PV' (a := (P.val (encI number_238_))) (e2 := [some (O.ow [(encI (fst draws_216_)), (encI (fst (snd draws_216_))), (encB (snd (snd draws_216_)))]), some (O.fz (encI k_218_)), some (O.fz (encI number_238_))]) rfl (xv_PV' (a := (P.val (encI (number_238_ + (2 : Int))))) (e2 := [some (O.ow [(encI (fst draws_216_)), (encI (fst (snd draws_216_))), (encB (snd (snd draws_216_)))]), some (O.fz (encI k_218_)), some (O.fz (encI number_238_))]) rfl xo_mul)) (fun b240_ => rfl)) (fun b240_ => rfl)) (fun b240_ => rfl)) (fun b240_ => rfl)) (fun b240_ => rfl)) (fun _ h => nomatch h) (fun _ => ⟨.inl rfl, rfl⟩)
def t__law_rule (draws_241_ : (Int × Int × Bool)) (size_242_ : Int) : Option ((List (List Int)) × (Int × Int × Bool)) := (t__law_next draws_241_).bind fun b243_ => (some (Int.fmod (fst b243_) (6 : Int))).bind fun (kind_244_ : Int) => (some (snd b243_)).bind fun (draws_246_ : (Int × Int × Bool)) => ((rng1 size_242_).bind fun b248_ => (cmpO (fun _ => some true) (fun a249_ => (repG [(0 : Int)] size_242_).map fun b250_ => b250_) b248_).map fun b251_ => (b248_, b251_)).bind fun q252_ => (some (snd q252_)).bind fun (told_253_ : (List (List Int))) => ((rng1 size_242_).bind fun b255_ => (cmpG (fun a256_ s260_ => (some (true, s260_))) (fun a256_ s260_ => (((t__law_next s260_).bind fun b261_ => (modI (fst b261_) (size_242_ + (3 : Int))).map fun b262_ => (b261_, b262_)).map fun q263_ => ((snd q263_), (snd (fst q263_))))) b255_ draws_246_).map fun b264_ => (b255_, b264_)).bind fun q265_ => (some (fst (snd q265_))).bind fun (worths_266_ : (List Int)) => (some (snd (snd q265_))).bind fun (draws_268_ : (Int × Int × Bool)) => (rng1 size_242_).bind fun b270_ => (forN (fun (a271_ : Int) (s1214_ : ((Int × Int × Bool) × (List (List Int)))) => (some (fst s1214_)).bind fun (draws_1220_ : (Int × Int × Bool)) => (some (snd s1214_)).bind fun (told_1222_ : (List (List Int))) => (rng2 (a271_ + (1 : Int)) size_242_).bind fun b1224_ => (forN (fun (a1225_ : Int) (s1530_ : ((Int × Int × Bool) × (List (List Int)))) => (some (fst s1530_)).bind fun (draws_1535_ : (Int × Int × Bool)) => (some (snd s1530_)).bind fun (told_1537_ : (List (List Int))) => (t__law_next draws_1535_).bind fun b1539_ => (some ((Int.fmod (fst b1539_) (3 : Int)) - (1 : Int))).bind fun (answer_1540_ : Int) => (some (snd b1539_)).bind fun (draws_1542_ : (Int × Int × Bool)) => (if (decide (kind_244_ < (2 : Int))) = true then (((t__law_next draws_1542_).bind fun b1612_ => (atI [(-(1 : Int)), (1 : Int)] (Int.fmod (fst b1612_) (2 : Int))).map fun b1613_ => (b1612_, b1613_)).bind fun q1614_ => (some (snd q1614_)).bind fun (answer_1615_ : Int) => (some (snd (fst q1614_))).bind fun (draws_1617_ : (Int × Int × Bool)) => some (draws_1617_, answer_1615_)) else ((if (decide (kind_244_ < (5 : Int))) = true then (((atI worths_266_ a271_).bind fun b1646_ => (atI worths_266_ a1225_).map fun b1647_ => (b1646_, b1647_)).bind fun q1648_ => (some (if (decide ((kind_244_ - (3 : Int)) < (if ((fst q1648_) - (snd q1648_)) < 0 then -((fst q1648_) - (snd q1648_)) else ((fst q1648_) - (snd q1648_))))) = true then (1 : Int) else 0)).bind fun (near_1649_ : Int) => ((((atI worths_266_ a271_).bind fun b1651_ => (atI worths_266_ a1225_).map fun b1652_ => (b1651_, b1652_)).bind fun q1653_ => (mulI (2 : Int) (if (decide ((fst q1653_) < (snd q1653_))) = true then (1 : Int) else 0)).map fun b1654_ => (q1653_, b1654_)).bind fun q1655_ => (mulI ((1 : Int) - (snd q1655_)) near_1649_).map fun b1656_ => (q1655_, b1656_)).bind fun q1657_ => (some (snd q1657_)).bind fun (answer_1658_ : Int) => ((if (decide (kind_244_ = (3 : Int))) = true then ((t__law_next draws_1542_).map fun b1660_ => ((decide ((Int.fmod (fst b1660_) (7 : Int)) = (0 : Int))), (snd b1660_))) else some (false, draws_1542_)).bind fun b1661_ => if (fst b1661_) = true then ((some (-answer_1658_)).bind fun (answer_1665_ : Int) => some ((snd b1661_), answer_1665_)) else (some ((snd b1661_), answer_1658_))).bind fun (s1667_ : ((Int × Int × Bool) × Int)) => (some (fst s1667_)).bind fun (draws_1669_ : (Int × Int × Bool)) => (some (snd s1667_)).bind fun (answer_1671_ : Int) => some (draws_1669_, answer_1671_)) else (some (draws_1542_, answer_1540_))).bind fun (s1673_ : ((Int × Int × Bool) × Int)) => (some (fst s1673_)).bind fun (draws_1676_ : (Int × Int × Bool)) => (some (snd s1673_)).bind fun (answer_1678_ : Int) => some (draws_1676_, answer_1678_))).bind fun (s1680_ : ((Int × Int × Bool) × Int)) => (some (fst s1680_)).bind fun (draws_1683_ : (Int × Int × Bool)) => (some (snd s1680_)).bind fun (answer_1685_ : Int) => (set2G told_1537_ a271_ a1225_ answer_1685_).bind fun told_1688_ => (set2G told_1688_ a1225_ a271_ (-answer_1685_)).bind fun told_1690_ => some (draws_1683_, told_1690_)) b1224_ (draws_1220_, told_1222_)).bind fun (s1530_ : ((Int × Int × Bool) × (List (List Int)))) => (some (fst s1530_)).bind fun (draws_1691_ : (Int × Int × Bool)) => (some (snd s1530_)).bind fun (told_1693_ : (List (List Int))) => some (draws_1691_, told_1693_)) b270_ (draws_268_, told_253_)).bind fun (s1214_ : ((Int × Int × Bool) × (List (List Int)))) => (some (fst s1214_)).bind fun (draws_1695_ : (Int × Int × Bool)) => (some (snd s1214_)).bind fun (told_1697_ : (List (List Int))) => some (told_1697_, draws_1695_)
theorem tk__law_rule (draws_241_ : (Int × Int × Bool)) (size_242_ : Int) : ∀ bb, t__law_rule draws_241_ size_242_ = some bb → m__law_rule [(O.ow [(encI (fst draws_241_)), (encI (fst (snd draws_241_))), (encB (snd (snd draws_241_)))]), (O.fz (encI size_242_))] = some ((fun (bb : ((List (List Int)) × (Int × Int × Bool))) => (O.fz ((encL (encL encI)) (fst bb)))) bb, (fun (bb : ((List (List Int)) × (Int × Int × Bool))) => [(O.ow [(encI (fst (snd bb))), (encI (fst (snd (snd bb)))), (encB (snd (snd (snd bb))))]), (O.fz (encI size_242_))]) bb) := by
  unfold t__law_rule m__law_rule
  refine def_T (ro := (fun (bb : ((List (List Int)) × (Int × Int × Bool))) => (O.fz ((encL (encL encI)) (fst bb))))) (ios := (fun (bb : ((List (List Int)) × (Int × Int × Bool))) => [(O.ow [(encI (fst (snd bb))), (encI (fst (snd (snd bb)))), (encB (snd (snd (snd bb))))]), (O.fz (encI size_242_))])) rfl ?_
  show SV _ [some (O.ow [(encI (fst draws_241_)), (encI (fst (snd draws_241_))), (encB (snd (snd draws_241_)))]), some (O.fz (encI size_242_)), none, none, none, none, none, none, none, none] _ _
  refine sv_last ?_
  refine sv_assoc ?_
  refine sv_V (st := fun b243_ => [some (O.ow [(encI (fst (snd b243_))), (encI (fst (snd (snd b243_)))), (encB (snd (snd (snd b243_))))]), some (O.fz (encI size_242_)), some (O.fz (encI (Int.fmod (fst b243_) (6 : Int)))), none, none, none, none, none, none, none]) (xv_VP (xv_VP (xv_VP (xv_VP (xv_VP (xv_PV' (a := [(P.var 0)]) (e2 := [some (O.ow [(encI (fst draws_241_)), (encI (fst (snd draws_241_))), (encB (snd (snd draws_241_)))]), some (O.fz (encI size_242_)), none, none, none, none, none, none, none, none]) rfl (xo_call (tk__law_next draws_241_) rfl rfl rfl (fun _ => rfl))) (fun b243_ => rfl)) (fun b243_ => rfl)) (fun b243_ => rfl)) (fun b243_ => rfl)) (fun b243_ => rfl)) ?_
  intro b243_
  refine sv_let (v := (Int.fmod (fst b243_) (6 : Int))) (E := fun (y245_ : Int) => [some (O.ow [(encI (fst (snd b243_))), (encI (fst (snd (snd b243_)))), (encB (snd (snd (snd b243_))))]), some (O.fz (encI size_242_)), some (O.fz (encI y245_)), none, none, none, none, none, none, none]) ?_
  intro kind_244_
  refine sv_let (v := (snd b243_)) (E := fun (y247_ : (Int × Int × Bool)) => [some (O.ow [(encI (fst y247_)), (encI (fst (snd y247_))), (encB (snd (snd y247_)))]), some (O.fz (encI size_242_)), some (O.fz (encI kind_244_)), none, none, none, none, none, none, none]) ?_
  intro draws_246_
  refine sv_assoc ?_
  refine sv_V (st := fun q252_ => [some (O.ow [(encI (fst draws_246_)), (encI (fst (snd draws_246_))), (encB (snd (snd draws_246_)))]), some (O.fz (encI size_242_)), some (O.fz (encI kind_244_)), some (O.ow2 (List.map (fun r => List.map encI r) (snd q252_))), none, none, none, none, none, none]) (xv_VP (xv_VV (t := (rng1 size_242_)) (t2 := fun b248_ => (cmpO (fun _ => some true) (fun a249_ => (repG [(0 : Int)] size_242_).map fun b250_ => b250_) b248_)) (cv := fun q252_ => (O.ow2 (List.map (fun r => List.map encI r) (snd q252_)))) (st2 := fun q252_ => [some (O.ow [(encI (fst draws_246_)), (encI (fst (snd draws_246_))), (encB (snd (snd draws_246_)))]), some (O.fz (encI size_242_)), some (O.fz (encI kind_244_)), none, none, none, none, none, none, none]) (xv_PV' (a := [(P.val (encI size_242_))]) (e2 := [some (O.ow [(encI (fst draws_246_)), (encI (fst (snd draws_246_))), (encB (snd (snd draws_246_)))]), some (O.fz (encI size_242_)), some (O.fz (encI kind_244_)), none, none, none, none, none, none, none]) rfl xo_rng1) (fun b248_ => (lc_2 (en := encI) (en' := encI) (E1 := (fun a249_ => [some (O.ow [(encI (fst draws_246_)), (encI (fst (snd draws_246_))), (encB (snd (snd draws_246_)))]), some (O.fz (encI size_242_)), some (O.fz (encI kind_244_)), none, none, none, none, some (O.fz (encI a249_)), none, none])) rfl (fun _ => rfl) (fun a249_ => xv_map (xv_VP (xv_PV' (a := (P.val ((encL encI) [(0 : Int)]))) (e2 := [some (O.ow [(encI (fst draws_246_)), (encI (fst (snd draws_246_))), (encB (snd (snd draws_246_)))]), some (O.fz (encI size_242_)), some (O.fz (encI kind_244_)), none, none, none, none, some (O.fz (encI a249_)), none, none]) rfl (xv_PV' (a := (P.val (encI size_242_))) (e2 := [some (O.ow [(encI (fst draws_246_)), (encI (fst (snd draws_246_))), (encB (snd (snd draws_246_)))]), some (O.fz (encI size_242_)), some (O.fz (encI kind_244_)), none, none, none, none, some (O.fz (encI a249_)), none, none]) rfl (xo_rep rfl))) (fun b250_ => rfl))) (fun _ => rfl)))) (fun q252_ => rfl)) ?_
  intro q252_
  refine sv_let (v := (snd q252_)) (E := fun (y254_ : (List (List Int))) => [some (O.ow [(encI (fst draws_246_)), (encI (fst (snd draws_246_))), (encB (snd (snd draws_246_)))]), some (O.fz (encI size_242_)), some (O.fz (encI kind_244_)), some (O.ow2 (List.map (fun r => List.map encI r) y254_)), none, none, none, none, none, none]) ?_
  intro told_253_
  refine sv_assoc ?_
  refine sv_V (st := fun q265_ => [some (O.ow [(encI (fst (snd (snd q265_)))), (encI (fst (snd (snd (snd q265_))))), (encB (snd (snd (snd (snd q265_)))))]), some (O.fz (encI size_242_)), some (O.fz (encI kind_244_)), some (O.ow2 (List.map (fun r => List.map encI r) told_253_)), some (O.fz ((encL encI) (fst (snd q265_)))), none, none, none, none, none]) (xv_VP (xv_VP (xv_VV (t := (rng1 size_242_)) (t2 := fun b255_ => (cmpG (fun a256_ s260_ => (some (true, s260_))) (fun a256_ s260_ => (((t__law_next s260_).bind fun b261_ => (modI (fst b261_) (size_242_ + (3 : Int))).map fun b262_ => (b261_, b262_)).map fun q263_ => ((snd q263_), (snd (fst q263_))))) b255_ draws_246_)) (cv := fun q265_ => (List.map encI (fst (snd q265_)))) (st2 := fun q265_ => [some (O.ow [(encI (fst (snd (snd q265_)))), (encI (fst (snd (snd (snd q265_))))), (encB (snd (snd (snd (snd q265_)))))]), some (O.fz (encI size_242_)), some (O.fz (encI kind_244_)), some (O.ow2 (List.map (fun r => List.map encI r) told_253_)), none, none, none, none, none, none]) (xv_PV' (a := [(P.val (encI size_242_))]) (e2 := [some (O.ow [(encI (fst draws_246_)), (encI (fst (snd draws_246_))), (encB (snd (snd draws_246_)))]), some (O.fz (encI size_242_)), some (O.fz (encI kind_244_)), some (O.ow2 (List.map (fun r => List.map encI r) told_253_)), none, none, none, none, none, none]) rfl xo_rng1) (fun b255_ => (lc_G (en := encI) (en' := encI) (E := (fun s260_ => [some (O.ow [(encI (fst s260_)), (encI (fst (snd s260_))), (encB (snd (snd s260_)))]), some (O.fz (encI size_242_)), some (O.fz (encI kind_244_)), some (O.ow2 (List.map (fun r => List.map encI r) told_253_)), none, none, none, none, none, none])) (E1 := (fun a256_ s260_ => [some (O.ow [(encI (fst s260_)), (encI (fst (snd s260_))), (encB (snd (snd s260_)))]), some (O.fz (encI size_242_)), some (O.fz (encI kind_244_)), some (O.ow2 (List.map (fun r => List.map encI r) told_253_)), none, none, none, some (O.fz (encI a256_)), none, none])) (cond := fun a256_ s260_ => (some (true, s260_))) (elt := fun a256_ s260_ => (((t__law_next s260_).bind fun b261_ => (modI (fst b261_) (size_242_ + (3 : Int))).map fun b262_ => (b261_, b262_)).map fun q263_ => ((snd q263_), (snd (fst q263_))))) rfl (fun _ _ => rfl) (fun a256_ s260_ => (xv_some rfl)) (fun a256_ s260_ => (xv_map (t := ((t__law_next s260_).bind fun b261_ => (modI (fst b261_) (size_242_ + (3 : Int))).map fun b262_ => (b261_, b262_))) (f := fun q263_ => ((snd q263_), (snd (fst q263_)))) (xv_VV (t := (t__law_next s260_)) (t2 := fun b261_ => (modI (fst b261_) (size_242_ + (3 : Int)))) (cv := fun q263_ => (P.val (encI (snd q263_)))) (st2 := fun q263_ => [some (O.ow [(encI (fst (snd (fst q263_)))), (encI (fst (snd (snd (fst q263_))))), (encB (snd (snd (snd (fst q263_)))))]), some (O.fz (encI size_242_)), some (O.fz (encI kind_244_)), some (O.ow2 (List.map (fun r => List.map encI r) told_253_)), none, none, none, some (O.fz (encI a256_)), none, none]) (xv_VP (xv_VP (xv_VP (xv_PV' (a := [(P.var 0)]) (e2 := [some (O.ow [(encI (fst s260_)), (encI (fst (snd s260_))), (encB (snd (snd s260_)))]), some (O.fz (encI size_242_)), some (O.fz (encI kind_244_)), some (O.ow2 (List.map (fun r => List.map encI r) told_253_)), none, none, none, some (O.fz (encI a256_)), none, none]) rfl (xo_call (tk__law_next s260_) rfl rfl rfl (fun _ => rfl))) (fun b261_ => rfl)) (fun b261_ => rfl)) (fun b261_ => rfl)) (fun b261_ => (xv_PV' (a := (P.val (encI (size_242_ + (3 : Int))))) (e2 := [some (O.ow [(encI (fst (snd b261_))), (encI (fst (snd (snd b261_)))), (encB (snd (snd (snd b261_))))]), some (O.fz (encI size_242_)), some (O.fz (encI kind_244_)), some (O.ow2 (List.map (fun r => List.map encI r) told_253_)), none, none, none, some (O.fz (encI a256_)), none, none]) rfl xo_mod))))) (fun _ _ => rfl)))) (fun q265_ => rfl)) (fun q265_ => rfl)) ?_
  intro q265_
  refine sv_let (v := (fst (snd q265_))) (E := fun (y267_ : (List Int)) => [some (O.ow [(encI (fst (snd (snd q265_)))), (encI (fst (snd (snd (snd q265_))))), (encB (snd (snd (snd (snd q265_)))))]), some (O.fz (encI size_242_)), some (O.fz (encI kind_244_)), some (O.ow2 (List.map (fun r => List.map encI r) told_253_)), some (O.fz ((encL encI) y267_)), none, none, none, none, none]) ?_
  intro worths_266_
  refine sv_let (v := (snd (snd q265_))) (E := fun (y269_ : (Int × Int × Bool)) => [some (O.ow [(encI (fst y269_)), (encI (fst (snd y269_))), (encB (snd (snd y269_)))]), some (O.fz (encI size_242_)), some (O.fz (encI kind_244_)), some (O.ow2 (List.map (fun r => List.map encI r) told_253_)), some (O.fz ((encL encI) worths_266_)), none, none, none, none, none]) ?_
  intro draws_268_
  refine sv_assoc ?_
  refine sv_forNV (en := encI) (st := fun b270_ => [some (O.ow [(encI (fst draws_268_)), (encI (fst (snd draws_268_))), (encB (snd (snd draws_268_)))]), some (O.fz (encI size_242_)), some (O.fz (encI kind_244_)), some (O.ow2 (List.map (fun r => List.map encI r) told_253_)), some (O.fz ((encL encI) worths_266_)), none, none, none, none, none]) (Q := fun b270_ => fun (s1214_ : ((Int × Int × Bool) × (List (List Int)))) e1219_ => ∃ u1215_, ∃ u1216_, ∃ u1217_, ∃ u1218_, e1219_ = [some (O.ow [(encI (fst (fst s1214_))), (encI (fst (snd (fst s1214_)))), (encB (snd (snd (fst s1214_))))]), some (O.fz (encI size_242_)), some (O.fz (encI kind_244_)), some (O.ow2 (List.map (fun r => List.map encI r) (snd s1214_))), some (O.fz ((encL encI) worths_266_)), u1215_, u1216_, none, u1217_, u1218_]) (xv_PV' (a := [(P.val (encI size_242_))]) (e2 := [some (O.ow [(encI (fst draws_268_)), (encI (fst (snd draws_268_))), (encB (snd (snd draws_268_)))]), some (O.fz (encI size_242_)), some (O.fz (encI kind_244_)), some (O.ow2 (List.map (fun r => List.map encI r) told_253_)), some (O.fz ((encL encI) worths_266_)), none, none, none, none, none]) rfl xo_rng1) (fun b270_ => ⟨_, _, _, _, rfl⟩) ?_ ?_
  · intro b270_
    rintro a271_ s1214_ _ ⟨u1215_, u1216_, u1217_, u1218_, rfl⟩
    refine ⟨[some (O.ow [(encI (fst (fst s1214_))), (encI (fst (snd (fst s1214_)))), (encB (snd (snd (fst s1214_))))]), some (O.fz (encI size_242_)), some (O.fz (encI kind_244_)), some (O.ow2 (List.map (fun r => List.map encI r) (snd s1214_))), some (O.fz ((encL encI) worths_266_)), some (O.fz (encI a271_)), u1216_, none, u1217_, u1218_], rfl, ?_⟩
    refine sv_last ?_
    refine sv_let (v := (fst s1214_)) (E := fun (y1221_ : (Int × Int × Bool)) => [some (O.ow [(encI (fst y1221_)), (encI (fst (snd y1221_))), (encB (snd (snd y1221_)))]), some (O.fz (encI size_242_)), some (O.fz (encI kind_244_)), some (O.ow2 (List.map (fun r => List.map encI r) (snd s1214_))), some (O.fz ((encL encI) worths_266_)), some (O.fz (encI a271_)), u1216_, none, u1217_, u1218_]) ?_
    intro draws_1220_
    refine sv_let (v := (snd s1214_)) (E := fun (y1223_ : (List (List Int))) => [some (O.ow [(encI (fst draws_1220_)), (encI (fst (snd draws_1220_))), (encB (snd (snd draws_1220_)))]), some (O.fz (encI size_242_)), some (O.fz (encI kind_244_)), some (O.ow2 (List.map (fun r => List.map encI r) y1223_)), some (O.fz ((encL encI) worths_266_)), some (O.fz (encI a271_)), u1216_, none, u1217_, u1218_]) ?_
    intro told_1222_
    refine sv_forNV (en := encI) (st := fun b1224_ => [some (O.ow [(encI (fst draws_1220_)), (encI (fst (snd draws_1220_))), (encB (snd (snd draws_1220_)))]), some (O.fz (encI size_242_)), some (O.fz (encI kind_244_)), some (O.ow2 (List.map (fun r => List.map encI r) told_1222_)), some (O.fz ((encL encI) worths_266_)), some (O.fz (encI a271_)), u1216_, none, u1217_, u1218_]) (Q := fun b1224_ => fun (s1530_ : ((Int × Int × Bool) × (List (List Int)))) e1534_ => ∃ u1531_, ∃ u1532_, ∃ u1533_, e1534_ = [some (O.ow [(encI (fst (fst s1530_))), (encI (fst (snd (fst s1530_)))), (encB (snd (snd (fst s1530_))))]), some (O.fz (encI size_242_)), some (O.fz (encI kind_244_)), some (O.ow2 (List.map (fun r => List.map encI r) (snd s1530_))), some (O.fz ((encL encI) worths_266_)), some (O.fz (encI a271_)), u1531_, none, u1532_, u1533_]) (xv_PV' (a := [(P.val (encI (a271_ + (1 : Int)))), (P.val (encI size_242_))]) (e2 := [some (O.ow [(encI (fst draws_1220_)), (encI (fst (snd draws_1220_))), (encB (snd (snd draws_1220_)))]), some (O.fz (encI size_242_)), some (O.fz (encI kind_244_)), some (O.ow2 (List.map (fun r => List.map encI r) told_1222_)), some (O.fz ((encL encI) worths_266_)), some (O.fz (encI a271_)), u1216_, none, u1217_, u1218_]) rfl xo_rng2) (fun b1224_ => ⟨_, _, _, rfl⟩) ?_ ?_
    · intro b1224_
      rintro a1225_ s1530_ _ ⟨u1531_, u1532_, u1533_, rfl⟩
      refine ⟨[some (O.ow [(encI (fst (fst s1530_))), (encI (fst (snd (fst s1530_)))), (encB (snd (snd (fst s1530_))))]), some (O.fz (encI size_242_)), some (O.fz (encI kind_244_)), some (O.ow2 (List.map (fun r => List.map encI r) (snd s1530_))), some (O.fz ((encL encI) worths_266_)), some (O.fz (encI a271_)), some (O.fz (encI a1225_)), none, u1532_, u1533_], rfl, ?_⟩
      refine sv_last ?_
      refine sv_let (v := (fst s1530_)) (E := fun (y1536_ : (Int × Int × Bool)) => [some (O.ow [(encI (fst y1536_)), (encI (fst (snd y1536_))), (encB (snd (snd y1536_)))]), some (O.fz (encI size_242_)), some (O.fz (encI kind_244_)), some (O.ow2 (List.map (fun r => List.map encI r) (snd s1530_))), some (O.fz ((encL encI) worths_266_)), some (O.fz (encI a271_)), some (O.fz (encI a1225_)), none, u1532_, u1533_]) ?_
      intro draws_1535_
      refine sv_let (v := (snd s1530_)) (E := fun (y1538_ : (List (List Int))) => [some (O.ow [(encI (fst draws_1535_)), (encI (fst (snd draws_1535_))), (encB (snd (snd draws_1535_)))]), some (O.fz (encI size_242_)), some (O.fz (encI kind_244_)), some (O.ow2 (List.map (fun r => List.map encI r) y1538_)), some (O.fz ((encL encI) worths_266_)), some (O.fz (encI a271_)), some (O.fz (encI a1225_)), none, u1532_, u1533_]) ?_
      intro told_1537_
      refine sv_assoc ?_
      refine sv_V (st := fun b1539_ => [some (O.ow [(encI (fst (snd b1539_))), (encI (fst (snd (snd b1539_)))), (encB (snd (snd (snd b1539_))))]), some (O.fz (encI size_242_)), some (O.fz (encI kind_244_)), some (O.ow2 (List.map (fun r => List.map encI r) told_1537_)), some (O.fz ((encL encI) worths_266_)), some (O.fz (encI a271_)), some (O.fz (encI a1225_)), none, some (O.fz (encI ((Int.fmod (fst b1539_) (3 : Int)) - (1 : Int)))), u1533_]) (xv_VP (xv_VP (xv_VP (xv_VP (xv_VP (xv_VP (xv_PV' (a := [(P.var 0)]) (e2 := [some (O.ow [(encI (fst draws_1535_)), (encI (fst (snd draws_1535_))), (encB (snd (snd draws_1535_)))]), some (O.fz (encI size_242_)), some (O.fz (encI kind_244_)), some (O.ow2 (List.map (fun r => List.map encI r) told_1537_)), some (O.fz ((encL encI) worths_266_)), some (O.fz (encI a271_)), some (O.fz (encI a1225_)), none, u1532_, u1533_]) rfl (xo_call (tk__law_next draws_1535_) rfl rfl rfl (fun _ => rfl))) (fun b1539_ => rfl)) (fun b1539_ => rfl)) (fun b1539_ => rfl)) (fun b1539_ => rfl)) (fun b1539_ => rfl)) (fun b1539_ => rfl)) ?_
      intro b1539_
      refine sv_let (v := ((Int.fmod (fst b1539_) (3 : Int)) - (1 : Int))) (E := fun (y1541_ : Int) => [some (O.ow [(encI (fst (snd b1539_))), (encI (fst (snd (snd b1539_)))), (encB (snd (snd (snd b1539_))))]), some (O.fz (encI size_242_)), some (O.fz (encI kind_244_)), some (O.ow2 (List.map (fun r => List.map encI r) told_1537_)), some (O.fz ((encL encI) worths_266_)), some (O.fz (encI a271_)), some (O.fz (encI a1225_)), none, some (O.fz (encI y1541_)), u1533_]) ?_
      intro answer_1540_
      refine sv_let (v := (snd b1539_)) (E := fun (y1543_ : (Int × Int × Bool)) => [some (O.ow [(encI (fst y1543_)), (encI (fst (snd y1543_))), (encB (snd (snd y1543_)))]), some (O.fz (encI size_242_)), some (O.fz (encI kind_244_)), some (O.ow2 (List.map (fun r => List.map encI r) told_1537_)), some (O.fz ((encL encI) worths_266_)), some (O.fz (encI a271_)), some (O.fz (encI a1225_)), none, some (O.fz (encI answer_1540_)), u1533_]) ?_
      intro draws_1542_
      refine sv_assoc ?_
      refine sv_seq (Q := fun (s1680_ : ((Int × Int × Bool) × Int)) e1682_ => ∃ u1681_, e1682_ = [some (O.ow [(encI (fst (fst s1680_))), (encI (fst (snd (fst s1680_)))), (encB (snd (snd (fst s1680_))))]), some (O.fz (encI size_242_)), some (O.fz (encI kind_244_)), some (O.ow2 (List.map (fun r => List.map encI r) told_1537_)), some (O.fz ((encL encI) worths_266_)), some (O.fz (encI a271_)), some (O.fz (encI a1225_)), none, some (O.fz (encI (snd s1680_))), u1681_]) ?_ ?_
      · refine sv_last ?_
        refine sv_if rfl ?_ ?_
        · refine sv_V (st := fun q1614_ => [some (O.ow [(encI (fst (snd (fst q1614_)))), (encI (fst (snd (snd (fst q1614_))))), (encB (snd (snd (snd (fst q1614_)))))]), some (O.fz (encI size_242_)), some (O.fz (encI kind_244_)), some (O.ow2 (List.map (fun r => List.map encI r) told_1537_)), some (O.fz ((encL encI) worths_266_)), some (O.fz (encI a271_)), some (O.fz (encI a1225_)), none, some (O.fz (encI (snd q1614_))), u1533_]) (xv_VP (xv_PV' (a := (P.val ((encL encI) [(-(1 : Int)), (1 : Int)]))) (e2 := [some (O.ow [(encI (fst draws_1542_)), (encI (fst (snd draws_1542_))), (encB (snd (snd draws_1542_)))]), some (O.fz (encI size_242_)), some (O.fz (encI kind_244_)), some (O.ow2 (List.map (fun r => List.map encI r) told_1537_)), some (O.fz ((encL encI) worths_266_)), some (O.fz (encI a271_)), some (O.fz (encI a1225_)), none, some (O.fz (encI answer_1540_)), u1533_]) rfl (xv_VV (t := (t__law_next draws_1542_)) (t2 := fun b1612_ => (atI [(-(1 : Int)), (1 : Int)] (Int.fmod (fst b1612_) (2 : Int)))) (cv := fun q1614_ => (P.val (encI (snd q1614_)))) (st2 := fun q1614_ => [some (O.ow [(encI (fst (snd (fst q1614_)))), (encI (fst (snd (snd (fst q1614_))))), (encB (snd (snd (snd (fst q1614_)))))]), some (O.fz (encI size_242_)), some (O.fz (encI kind_244_)), some (O.ow2 (List.map (fun r => List.map encI r) told_1537_)), some (O.fz ((encL encI) worths_266_)), some (O.fz (encI a271_)), some (O.fz (encI a1225_)), none, some (O.fz (encI answer_1540_)), u1533_]) (xv_VP (xv_VP (xv_VP (xv_VP (xv_PV' (a := [(P.var 0)]) (e2 := [some (O.ow [(encI (fst draws_1542_)), (encI (fst (snd draws_1542_))), (encB (snd (snd draws_1542_)))]), some (O.fz (encI size_242_)), some (O.fz (encI kind_244_)), some (O.ow2 (List.map (fun r => List.map encI r) told_1537_)), some (O.fz ((encL encI) worths_266_)), some (O.fz (encI a271_)), some (O.fz (encI a1225_)), none, some (O.fz (encI answer_1540_)), u1533_]) rfl (xo_call (tk__law_next draws_1542_) rfl rfl rfl (fun _ => rfl))) (fun b1612_ => rfl)) (fun b1612_ => rfl)) (fun b1612_ => rfl)) (fun b1612_ => rfl)) (fun b1612_ => (xo_ix rfl)))) (fun q1614_ => rfl)) ?_
          intro q1614_
          refine sv_let (v := (snd q1614_)) (E := fun (y1616_ : Int) => [some (O.ow [(encI (fst (snd (fst q1614_)))), (encI (fst (snd (snd (fst q1614_))))), (encB (snd (snd (snd (fst q1614_)))))]), some (O.fz (encI size_242_)), some (O.fz (encI kind_244_)), some (O.ow2 (List.map (fun r => List.map encI r) told_1537_)), some (O.fz ((encL encI) worths_266_)), some (O.fz (encI a271_)), some (O.fz (encI a1225_)), none, some (O.fz (encI y1616_)), u1533_]) ?_
          intro answer_1615_
          refine sv_let (v := (snd (fst q1614_))) (E := fun (y1618_ : (Int × Int × Bool)) => [some (O.ow [(encI (fst y1618_)), (encI (fst (snd y1618_))), (encB (snd (snd y1618_)))]), some (O.fz (encI size_242_)), some (O.fz (encI kind_244_)), some (O.ow2 (List.map (fun r => List.map encI r) told_1537_)), some (O.fz ((encL encI) worths_266_)), some (O.fz (encI a271_)), some (O.fz (encI a1225_)), none, some (O.fz (encI answer_1615_)), u1533_]) ?_
          intro draws_1617_
          exact sv_end ⟨rfl, _, rfl⟩
        · refine sv_seq (Q := fun (s1673_ : ((Int × Int × Bool) × Int)) e1675_ => ∃ u1674_, e1675_ = [some (O.ow [(encI (fst (fst s1673_))), (encI (fst (snd (fst s1673_)))), (encB (snd (snd (fst s1673_))))]), some (O.fz (encI size_242_)), some (O.fz (encI kind_244_)), some (O.ow2 (List.map (fun r => List.map encI r) told_1537_)), some (O.fz ((encL encI) worths_266_)), some (O.fz (encI a271_)), some (O.fz (encI a1225_)), none, some (O.fz (encI (snd s1673_))), u1674_]) ?_ ?_
          · refine sv_last ?_
            refine sv_if rfl ?_ ?_
            · refine sv_assoc ?_
              refine sv_V (st := fun q1648_ => [some (O.ow [(encI (fst draws_1542_)), (encI (fst (snd draws_1542_))), (encB (snd (snd draws_1542_)))]), some (O.fz (encI size_242_)), some (O.fz (encI kind_244_)), some (O.ow2 (List.map (fun r => List.map encI r) told_1537_)), some (O.fz ((encL encI) worths_266_)), some (O.fz (encI a271_)), some (O.fz (encI a1225_)), none, some (O.fz (encI answer_1540_)), some (O.fz (encI (if (decide ((kind_244_ - (3 : Int)) < (if ((fst q1648_) - (snd q1648_)) < 0 then -((fst q1648_) - (snd q1648_)) else ((fst q1648_) - (snd q1648_))))) = true then (1 : Int) else 0)))]) (xv_VP (xv_VP (xv_VP (xv_VP (xv_VP (xv_VP (xv_VV (t := (atI worths_266_ a271_)) (t2 := fun b1646_ => (atI worths_266_ a1225_)) (cv := fun q1648_ => (P.val (encI ((fst q1648_) - (snd q1648_))))) (st2 := fun q1648_ => [some (O.ow [(encI (fst draws_1542_)), (encI (fst (snd draws_1542_))), (encB (snd (snd draws_1542_)))]), some (O.fz (encI size_242_)), some (O.fz (encI kind_244_)), some (O.ow2 (List.map (fun r => List.map encI r) told_1537_)), some (O.fz ((encL encI) worths_266_)), some (O.fz (encI a271_)), some (O.fz (encI a1225_)), none, some (O.fz (encI answer_1540_)), u1533_]) (xv_PV' (a := (P.val ((encL encI) worths_266_))) (e2 := [some (O.ow [(encI (fst draws_1542_)), (encI (fst (snd draws_1542_))), (encB (snd (snd draws_1542_)))]), some (O.fz (encI size_242_)), some (O.fz (encI kind_244_)), some (O.ow2 (List.map (fun r => List.map encI r) told_1537_)), some (O.fz ((encL encI) worths_266_)), some (O.fz (encI a271_)), some (O.fz (encI a1225_)), none, some (O.fz (encI answer_1540_)), u1533_]) rfl (xv_PV' (a := (P.val (encI a271_))) (e2 := [some (O.ow [(encI (fst draws_1542_)), (encI (fst (snd draws_1542_))), (encB (snd (snd draws_1542_)))]), some (O.fz (encI size_242_)), some (O.fz (encI kind_244_)), some (O.ow2 (List.map (fun r => List.map encI r) told_1537_)), some (O.fz ((encL encI) worths_266_)), some (O.fz (encI a271_)), some (O.fz (encI a1225_)), none, some (O.fz (encI answer_1540_)), u1533_]) rfl (xo_ix rfl))) (fun b1646_ => (xv_VP (xv_PV' (a := (P.val ((encL encI) worths_266_))) (e2 := [some (O.ow [(encI (fst draws_1542_)), (encI (fst (snd draws_1542_))), (encB (snd (snd draws_1542_)))]), some (O.fz (encI size_242_)), some (O.fz (encI kind_244_)), some (O.ow2 (List.map (fun r => List.map encI r) told_1537_)), some (O.fz ((encL encI) worths_266_)), some (O.fz (encI a271_)), some (O.fz (encI a1225_)), none, some (O.fz (encI answer_1540_)), u1533_]) rfl (xv_PV' (a := (P.val (encI a1225_))) (e2 := [some (O.ow [(encI (fst draws_1542_)), (encI (fst (snd draws_1542_))), (encB (snd (snd draws_1542_)))]), some (O.fz (encI size_242_)), some (O.fz (encI kind_244_)), some (O.ow2 (List.map (fun r => List.map encI r) told_1537_)), some (O.fz ((encL encI) worths_266_)), some (O.fz (encI a271_)), some (O.fz (encI a1225_)), none, some (O.fz (encI answer_1540_)), u1533_]) rfl (xo_ix rfl))) (fun b1647_ => rfl)))) (fun q1648_ => rfl)) (fun q1648_ => rfl)) (fun q1648_ => rfl)) (fun q1648_ => rfl)) (fun q1648_ => rfl)) (fun q1648_ => rfl)) ?_
              intro q1648_
              refine sv_let (v := (if (decide ((kind_244_ - (3 : Int)) < (if ((fst q1648_) - (snd q1648_)) < 0 then -((fst q1648_) - (snd q1648_)) else ((fst q1648_) - (snd q1648_))))) = true then (1 : Int) else 0)) (E := fun (y1650_ : Int) => [some (O.ow [(encI (fst draws_1542_)), (encI (fst (snd draws_1542_))), (encB (snd (snd draws_1542_)))]), some (O.fz (encI size_242_)), some (O.fz (encI kind_244_)), some (O.ow2 (List.map (fun r => List.map encI r) told_1537_)), some (O.fz ((encL encI) worths_266_)), some (O.fz (encI a271_)), some (O.fz (encI a1225_)), none, some (O.fz (encI answer_1540_)), some (O.fz (encI y1650_))]) ?_
              intro near_1649_
              refine sv_assoc ?_
              refine sv_V (st := fun q1657_ => [some (O.ow [(encI (fst draws_1542_)), (encI (fst (snd draws_1542_))), (encB (snd (snd draws_1542_)))]), some (O.fz (encI size_242_)), some (O.fz (encI kind_244_)), some (O.ow2 (List.map (fun r => List.map encI r) told_1537_)), some (O.fz ((encL encI) worths_266_)), some (O.fz (encI a271_)), some (O.fz (encI a1225_)), none, some (O.fz (encI (snd q1657_))), some (O.fz (encI near_1649_))]) (xv_VP (xv_VV (t := (((atI worths_266_ a271_).bind fun b1651_ => (atI worths_266_ a1225_).map fun b1652_ => (b1651_, b1652_)).bind fun q1653_ => (mulI (2 : Int) (if (decide ((fst q1653_) < (snd q1653_))) = true then (1 : Int) else 0)).map fun b1654_ => (q1653_, b1654_))) (t2 := fun q1655_ => (mulI ((1 : Int) - (snd q1655_)) near_1649_)) (cv := fun q1657_ => (P.val (encI (snd q1657_)))) (st2 := fun q1657_ => [some (O.ow [(encI (fst draws_1542_)), (encI (fst (snd draws_1542_))), (encB (snd (snd draws_1542_)))]), some (O.fz (encI size_242_)), some (O.fz (encI kind_244_)), some (O.ow2 (List.map (fun r => List.map encI r) told_1537_)), some (O.fz ((encL encI) worths_266_)), some (O.fz (encI a271_)), some (O.fz (encI a1225_)), none, some (O.fz (encI answer_1540_)), some (O.fz (encI near_1649_))]) (xv_PV' (a := (P.val (encI (1 : Int)))) (e2 := [some (O.ow [(encI (fst draws_1542_)), (encI (fst (snd draws_1542_))), (encB (snd (snd draws_1542_)))]), some (O.fz (encI size_242_)), some (O.fz (encI kind_244_)), some (O.ow2 (List.map (fun r => List.map encI r) told_1537_)), some (O.fz ((encL encI) worths_266_)), some (O.fz (encI a271_)), some (O.fz (encI a1225_)), none, some (O.fz (encI answer_1540_)), some (O.fz (encI near_1649_))]) rfl (xv_VP (xv_PV' (a := (P.val (encI (2 : Int)))) (e2 := [some (O.ow [(encI (fst draws_1542_)), (encI (fst (snd draws_1542_))), (encB (snd (snd draws_1542_)))]), some (O.fz (encI size_242_)), some (O.fz (encI kind_244_)), some (O.ow2 (List.map (fun r => List.map encI r) told_1537_)), some (O.fz ((encL encI) worths_266_)), some (O.fz (encI a271_)), some (O.fz (encI a1225_)), none, some (O.fz (encI answer_1540_)), some (O.fz (encI near_1649_))]) rfl (xv_VV (t := ((atI worths_266_ a271_).bind fun b1651_ => (atI worths_266_ a1225_).map fun b1652_ => (b1651_, b1652_))) (t2 := fun q1653_ => (mulI (2 : Int) (if (decide ((fst q1653_) < (snd q1653_))) = true then (1 : Int) else 0))) (cv := fun q1655_ => (P.val (encI (snd q1655_)))) (st2 := fun q1655_ => [some (O.ow [(encI (fst draws_1542_)), (encI (fst (snd draws_1542_))), (encB (snd (snd draws_1542_)))]), some (O.fz (encI size_242_)), some (O.fz (encI kind_244_)), some (O.ow2 (List.map (fun r => List.map encI r) told_1537_)), some (O.fz ((encL encI) worths_266_)), some (O.fz (encI a271_)), some (O.fz (encI a1225_)), none, some (O.fz (encI answer_1540_)), some (O.fz (encI near_1649_))]) (xv_VP (xv_VP (xv_VV (t := (atI worths_266_ a271_)) (t2 := fun b1651_ => (atI worths_266_ a1225_)) (cv := fun q1653_ => (P.val (encB (decide ((fst q1653_) < (snd q1653_)))))) (st2 := fun q1653_ => [some (O.ow [(encI (fst draws_1542_)), (encI (fst (snd draws_1542_))), (encB (snd (snd draws_1542_)))]), some (O.fz (encI size_242_)), some (O.fz (encI kind_244_)), some (O.ow2 (List.map (fun r => List.map encI r) told_1537_)), some (O.fz ((encL encI) worths_266_)), some (O.fz (encI a271_)), some (O.fz (encI a1225_)), none, some (O.fz (encI answer_1540_)), some (O.fz (encI near_1649_))]) (xv_PV' (a := (P.val ((encL encI) worths_266_))) (e2 := [some (O.ow [(encI (fst draws_1542_)), (encI (fst (snd draws_1542_))), (encB (snd (snd draws_1542_)))]), some (O.fz (encI size_242_)), some (O.fz (encI kind_244_)), some (O.ow2 (List.map (fun r => List.map encI r) told_1537_)), some (O.fz ((encL encI) worths_266_)), some (O.fz (encI a271_)), some (O.fz (encI a1225_)), none, some (O.fz (encI answer_1540_)), some (O.fz (encI near_1649_))]) rfl (xv_PV' (a := (P.val (encI a271_))) (e2 := [some (O.ow [(encI (fst draws_1542_)), (encI (fst (snd draws_1542_))), (encB (snd (snd draws_1542_)))]), some (O.fz (encI size_242_)), some (O.fz (encI kind_244_)), some (O.ow2 (List.map (fun r => List.map encI r) told_1537_)), some (O.fz ((encL encI) worths_266_)), some (O.fz (encI a271_)), some (O.fz (encI a1225_)), none, some (O.fz (encI answer_1540_)), some (O.fz (encI near_1649_))]) rfl (xo_ix rfl))) (fun b1651_ => (xv_VP (xv_PV' (a := (P.val ((encL encI) worths_266_))) (e2 := [some (O.ow [(encI (fst draws_1542_)), (encI (fst (snd draws_1542_))), (encB (snd (snd draws_1542_)))]), some (O.fz (encI size_242_)), some (O.fz (encI kind_244_)), some (O.ow2 (List.map (fun r => List.map encI r) told_1537_)), some (O.fz ((encL encI) worths_266_)), some (O.fz (encI a271_)), some (O.fz (encI a1225_)), none, some (O.fz (encI answer_1540_)), some (O.fz (encI near_1649_))]) rfl (xv_PV' (a := (P.val (encI a1225_))) (e2 := [some (O.ow [(encI (fst draws_1542_)), (encI (fst (snd draws_1542_))), (encB (snd (snd draws_1542_)))]), some (O.fz (encI size_242_)), some (O.fz (encI kind_244_)), some (O.ow2 (List.map (fun r => List.map encI r) told_1537_)), some (O.fz ((encL encI) worths_266_)), some (O.fz (encI a271_)), some (O.fz (encI a1225_)), none, some (O.fz (encI answer_1540_)), some (O.fz (encI near_1649_))]) rfl (xo_ix rfl))) (fun b1652_ => rfl)))) (fun q1653_ => rfl)) (fun q1653_ => rfl)) (fun q1653_ => xo_mul))) (fun q1655_ => rfl))) (fun q1655_ => (xv_PV' (a := (P.val (encI near_1649_))) (e2 := [some (O.ow [(encI (fst draws_1542_)), (encI (fst (snd draws_1542_))), (encB (snd (snd draws_1542_)))]), some (O.fz (encI size_242_)), some (O.fz (encI kind_244_)), some (O.ow2 (List.map (fun r => List.map encI r) told_1537_)), some (O.fz ((encL encI) worths_266_)), some (O.fz (encI a271_)), some (O.fz (encI a1225_)), none, some (O.fz (encI answer_1540_)), some (O.fz (encI near_1649_))]) rfl xo_mul))) (fun q1657_ => rfl)) ?_
              intro q1657_
              refine sv_let (v := (snd q1657_)) (E := fun (y1659_ : Int) => [some (O.ow [(encI (fst draws_1542_)), (encI (fst (snd draws_1542_))), (encB (snd (snd draws_1542_)))]), some (O.fz (encI size_242_)), some (O.fz (encI kind_244_)), some (O.ow2 (List.map (fun r => List.map encI r) told_1537_)), some (O.fz ((encL encI) worths_266_)), some (O.fz (encI a271_)), some (O.fz (encI a1225_)), none, some (O.fz (encI y1659_)), some (O.fz (encI near_1649_))]) ?_
              intro answer_1658_
              refine sv_seq (Q := fun (s1667_ : ((Int × Int × Bool) × Int)) e1668_ => e1668_ = [some (O.ow [(encI (fst (fst s1667_))), (encI (fst (snd (fst s1667_)))), (encB (snd (snd (fst s1667_))))]), some (O.fz (encI size_242_)), some (O.fz (encI kind_244_)), some (O.ow2 (List.map (fun r => List.map encI r) told_1537_)), some (O.fz ((encL encI) worths_266_)), some (O.fz (encI a271_)), some (O.fz (encI a1225_)), none, some (O.fz (encI (snd s1667_))), some (O.fz (encI near_1649_))]) ?_ ?_
              · refine sv_last ?_
                refine sv_ifV (st := fun b1661_ => [some (O.ow [(encI (fst (snd b1661_))), (encI (fst (snd (snd b1661_)))), (encB (snd (snd (snd b1661_))))]), some (O.fz (encI size_242_)), some (O.fz (encI kind_244_)), some (O.ow2 (List.map (fun r => List.map encI r) told_1537_)), some (O.fz ((encL encI) worths_266_)), some (O.fz (encI a271_)), some (O.fz (encI a1225_)), none, some (O.fz (encI answer_1658_)), some (O.fz (encI near_1649_))]) (xv_andP (s := draws_1542_) (E := (fun s1662_ => [some (O.ow [(encI (fst s1662_)), (encI (fst (snd s1662_))), (encB (snd (snd s1662_)))]), some (O.fz (encI size_242_)), some (O.fz (encI kind_244_)), some (O.ow2 (List.map (fun r => List.map encI r) told_1537_)), some (O.fz ((encL encI) worths_266_)), some (O.fz (encI a271_)), some (O.fz (encI a1225_)), none, some (O.fz (encI answer_1658_)), some (O.fz (encI near_1649_))])) ((bnd_eq (a := (P.val (encB (decide (kind_244_ = (3 : Int)))))) (e := [some (O.ow [(encI (fst draws_1542_)), (encI (fst (snd draws_1542_))), (encB (snd (snd draws_1542_)))]), some (O.fz (encI size_242_)), some (O.fz (encI kind_244_)), some (O.ow2 (List.map (fun r => List.map encI r) told_1537_)), some (O.fz ((encL encI) worths_266_)), some (O.fz (encI a271_)), some (O.fz (encI a1225_)), none, some (O.fz (encI answer_1658_)), some (O.fz (encI near_1649_))]) ((bnd_eq (a := (P.val (encI kind_244_))) (e := [some (O.ow [(encI (fst draws_1542_)), (encI (fst (snd draws_1542_))), (encB (snd (snd draws_1542_)))]), some (O.fz (encI size_242_)), some (O.fz (encI kind_244_)), some (O.ow2 (List.map (fun r => List.map encI r) told_1537_)), some (O.fz ((encL encI) worths_266_)), some (O.fz (encI a271_)), some (O.fz (encI a1225_)), none, some (O.fz (encI answer_1658_)), some (O.fz (encI near_1649_))]) rfl).trans ((bnd_eq (a := (P.val (encI (3 : Int)))) (e := [some (O.ow [(encI (fst draws_1542_)), (encI (fst (snd draws_1542_))), (encB (snd (snd draws_1542_)))]), some (O.fz (encI size_242_)), some (O.fz (encI kind_244_)), some (O.ow2 (List.map (fun r => List.map encI r) told_1537_)), some (O.fz ((encL encI) worths_266_)), some (O.fz (encI a271_)), some (O.fz (encI a1225_)), none, some (O.fz (encI answer_1658_)), some (O.fz (encI near_1649_))]) rfl).trans (oe_eq (a := kind_244_) (b := (3 : Int)) eo_I rfl rfl)))).trans rfl) (xv_map (t := (t__law_next draws_1542_)) (f := fun b1660_ => ((decide ((Int.fmod (fst b1660_) (7 : Int)) = (0 : Int))), (snd b1660_))) (xv_VP (xv_VP (xv_VP (xv_VP (xv_VP (xv_VP (xv_PV' (a := [(P.var 0)]) (e2 := [some (O.ow [(encI (fst draws_1542_)), (encI (fst (snd draws_1542_))), (encB (snd (snd draws_1542_)))]), some (O.fz (encI size_242_)), some (O.fz (encI kind_244_)), some (O.ow2 (List.map (fun r => List.map encI r) told_1537_)), some (O.fz ((encL encI) worths_266_)), some (O.fz (encI a271_)), some (O.fz (encI a1225_)), none, some (O.fz (encI answer_1658_)), some (O.fz (encI near_1649_))]) rfl (xo_call (tk__law_next draws_1542_) rfl rfl rfl (fun _ => rfl))) (fun b1660_ => rfl)) (fun b1660_ => rfl)) (fun b1660_ => rfl)) (fun b1660_ => rfl)) (fun b1660_ => ((bnd_eq (a := (P.val (encI (0 : Int)))) (e := [some (O.ow [(encI (fst (snd b1660_))), (encI (fst (snd (snd b1660_)))), (encB (snd (snd (snd b1660_))))]), some (O.fz (encI size_242_)), some (O.fz (encI kind_244_)), some (O.ow2 (List.map (fun r => List.map encI r) told_1537_)), some (O.fz ((encL encI) worths_266_)), some (O.fz (encI a271_)), some (O.fz (encI a1225_)), none, some (O.fz (encI answer_1658_)), some (O.fz (encI near_1649_))]) rfl).trans (oe_eq (a := (Int.fmod (fst b1660_) (7 : Int))) (b := (0 : Int)) eo_I rfl rfl)))) (fun b1660_ => rfl)))) ?_ ?_
                · intro b1661_
                  refine sv_nx (e := [some (O.ow [(encI (fst (snd b1661_))), (encI (fst (snd (snd b1661_)))), (encB (snd (snd (snd b1661_))))]), some (O.fz (encI size_242_)), some (O.fz (encI kind_244_)), some (O.ow2 (List.map (fun r => List.map encI r) told_1537_)), some (O.fz ((encL encI) worths_266_)), some (O.fz (encI a271_)), some (O.fz (encI a1225_)), none, some (O.fz (encI (-answer_1658_))), some (O.fz (encI near_1649_))]) rfl ?_
                  refine sv_let (v := (-answer_1658_)) (E := fun (y1666_ : Int) => [some (O.ow [(encI (fst (snd b1661_))), (encI (fst (snd (snd b1661_)))), (encB (snd (snd (snd b1661_))))]), some (O.fz (encI size_242_)), some (O.fz (encI kind_244_)), some (O.ow2 (List.map (fun r => List.map encI r) told_1537_)), some (O.fz ((encL encI) worths_266_)), some (O.fz (encI a271_)), some (O.fz (encI a1225_)), none, some (O.fz (encI y1666_)), some (O.fz (encI near_1649_))]) ?_
                  intro answer_1665_
                  exact sv_end ⟨rfl, rfl⟩
                · intro b1661_
                  refine sv_nx (e := [some (O.ow [(encI (fst (snd b1661_))), (encI (fst (snd (snd b1661_)))), (encB (snd (snd (snd b1661_))))]), some (O.fz (encI size_242_)), some (O.fz (encI kind_244_)), some (O.ow2 (List.map (fun r => List.map encI r) told_1537_)), some (O.fz ((encL encI) worths_266_)), some (O.fz (encI a271_)), some (O.fz (encI a1225_)), none, some (O.fz (encI answer_1658_)), some (O.fz (encI near_1649_))]) rfl ?_
                  exact sv_end ⟨rfl, rfl⟩
              rintro s1667_ _ ⟨rfl⟩
              refine sv_let (v := (fst s1667_)) (E := fun (y1670_ : (Int × Int × Bool)) => [some (O.ow [(encI (fst y1670_)), (encI (fst (snd y1670_))), (encB (snd (snd y1670_)))]), some (O.fz (encI size_242_)), some (O.fz (encI kind_244_)), some (O.ow2 (List.map (fun r => List.map encI r) told_1537_)), some (O.fz ((encL encI) worths_266_)), some (O.fz (encI a271_)), some (O.fz (encI a1225_)), none, some (O.fz (encI (snd s1667_))), some (O.fz (encI near_1649_))]) ?_
              intro draws_1669_
              refine sv_let (v := (snd s1667_)) (E := fun (y1672_ : Int) => [some (O.ow [(encI (fst draws_1669_)), (encI (fst (snd draws_1669_))), (encB (snd (snd draws_1669_)))]), some (O.fz (encI size_242_)), some (O.fz (encI kind_244_)), some (O.ow2 (List.map (fun r => List.map encI r) told_1537_)), some (O.fz ((encL encI) worths_266_)), some (O.fz (encI a271_)), some (O.fz (encI a1225_)), none, some (O.fz (encI y1672_)), some (O.fz (encI near_1649_))]) ?_
              intro answer_1671_
              exact sv_end ⟨rfl, _, rfl⟩
            · refine sv_nx (e := [some (O.ow [(encI (fst draws_1542_)), (encI (fst (snd draws_1542_))), (encB (snd (snd draws_1542_)))]), some (O.fz (encI size_242_)), some (O.fz (encI kind_244_)), some (O.ow2 (List.map (fun r => List.map encI r) told_1537_)), some (O.fz ((encL encI) worths_266_)), some (O.fz (encI a271_)), some (O.fz (encI a1225_)), none, some (O.fz (encI answer_1540_)), u1533_]) rfl ?_
              exact sv_end ⟨rfl, _, rfl⟩
          rintro s1673_ _ ⟨u1674_, rfl⟩
          refine sv_let (v := (fst s1673_)) (E := fun (y1677_ : (Int × Int × Bool)) => [some (O.ow [(encI (fst y1677_)), (encI (fst (snd y1677_))), (encB (snd (snd y1677_)))]), some (O.fz (encI size_242_)), some (O.fz (encI kind_244_)), some (O.ow2 (List.map (fun r => List.map encI r) told_1537_)), some (O.fz ((encL encI) worths_266_)), some (O.fz (encI a271_)), some (O.fz (encI a1225_)), none, some (O.fz (encI (snd s1673_))), u1674_]) ?_
          intro draws_1676_
          refine sv_let (v := (snd s1673_)) (E := fun (y1679_ : Int) => [some (O.ow [(encI (fst draws_1676_)), (encI (fst (snd draws_1676_))), (encB (snd (snd draws_1676_)))]), some (O.fz (encI size_242_)), some (O.fz (encI kind_244_)), some (O.ow2 (List.map (fun r => List.map encI r) told_1537_)), some (O.fz ((encL encI) worths_266_)), some (O.fz (encI a271_)), some (O.fz (encI a1225_)), none, some (O.fz (encI y1679_)), u1674_]) ?_
          intro answer_1678_
          exact sv_end ⟨rfl, _, rfl⟩
      rintro s1680_ _ ⟨u1681_, rfl⟩
      refine sv_let (v := (fst s1680_)) (E := fun (y1684_ : (Int × Int × Bool)) => [some (O.ow [(encI (fst y1684_)), (encI (fst (snd y1684_))), (encB (snd (snd y1684_)))]), some (O.fz (encI size_242_)), some (O.fz (encI kind_244_)), some (O.ow2 (List.map (fun r => List.map encI r) told_1537_)), some (O.fz ((encL encI) worths_266_)), some (O.fz (encI a271_)), some (O.fz (encI a1225_)), none, some (O.fz (encI (snd s1680_))), u1681_]) ?_
      intro draws_1683_
      refine sv_let (v := (snd s1680_)) (E := fun (y1686_ : Int) => [some (O.ow [(encI (fst draws_1683_)), (encI (fst (snd draws_1683_))), (encB (snd (snd draws_1683_)))]), some (O.fz (encI size_242_)), some (O.fz (encI kind_244_)), some (O.ow2 (List.map (fun r => List.map encI r) told_1537_)), some (O.fz ((encL encI) worths_266_)), some (O.fz (encI a271_)), some (O.fz (encI a1225_)), none, some (O.fz (encI y1686_)), u1681_]) ?_
      intro answer_1685_
      refine sv_assoc ?_
      refine sv_V (st := fun b1687_ => [some (O.ow [(encI (fst draws_1683_)), (encI (fst (snd draws_1683_))), (encB (snd (snd draws_1683_)))]), some (O.fz (encI size_242_)), some (O.fz (encI kind_244_)), some (O.ow2 (List.map (fun r => List.map encI r) b1687_)), some (O.fz ((encL encI) worths_266_)), some (O.fz (encI a271_)), some (O.fz (encI a1225_)), none, some (O.fz (encI answer_1685_)), u1681_]) (xo_set2 (en := encI) (xs := told_1537_) (x := answer_1685_) rfl rfl rfl rfl rfl (fun _ => rfl)) ?_
      intro told_1688_
      refine sv_V (st := fun b1689_ => [some (O.ow [(encI (fst draws_1683_)), (encI (fst (snd draws_1683_))), (encB (snd (snd draws_1683_)))]), some (O.fz (encI size_242_)), some (O.fz (encI kind_244_)), some (O.ow2 (List.map (fun r => List.map encI r) b1689_)), some (O.fz ((encL encI) worths_266_)), some (O.fz (encI a271_)), some (O.fz (encI a1225_)), none, some (O.fz (encI answer_1685_)), u1681_]) (xo_set2 (en := encI) (xs := told_1688_) (x := (-answer_1685_)) rfl rfl rfl rfl rfl (fun _ => rfl)) ?_
      intro told_1690_
      exact sv_end ⟨.inl rfl, _, _, _, rfl⟩
    intro b1224_
    rintro s1530_ _ ⟨u1531_, u1532_, u1533_, rfl⟩
    refine sv_let (v := (fst s1530_)) (E := fun (y1692_ : (Int × Int × Bool)) => [some (O.ow [(encI (fst y1692_)), (encI (fst (snd y1692_))), (encB (snd (snd y1692_)))]), some (O.fz (encI size_242_)), some (O.fz (encI kind_244_)), some (O.ow2 (List.map (fun r => List.map encI r) (snd s1530_))), some (O.fz ((encL encI) worths_266_)), some (O.fz (encI a271_)), u1531_, none, u1532_, u1533_]) ?_
    intro draws_1691_
    refine sv_let (v := (snd s1530_)) (E := fun (y1694_ : (List (List Int))) => [some (O.ow [(encI (fst draws_1691_)), (encI (fst (snd draws_1691_))), (encB (snd (snd draws_1691_)))]), some (O.fz (encI size_242_)), some (O.fz (encI kind_244_)), some (O.ow2 (List.map (fun r => List.map encI r) y1694_)), some (O.fz ((encL encI) worths_266_)), some (O.fz (encI a271_)), u1531_, none, u1532_, u1533_]) ?_
    intro told_1693_
    exact sv_end ⟨.inl rfl, _, _, _, _, rfl⟩
  intro b270_
  rintro s1214_ _ ⟨u1215_, u1216_, u1217_, u1218_, rfl⟩
  refine sv_let (v := (fst s1214_)) (E := fun (y1696_ : (Int × Int × Bool)) => [some (O.ow [(encI (fst y1696_)), (encI (fst (snd y1696_))), (encB (snd (snd y1696_)))]), some (O.fz (encI size_242_)), some (O.fz (encI kind_244_)), some (O.ow2 (List.map (fun r => List.map encI r) (snd s1214_))), some (O.fz ((encL encI) worths_266_)), u1215_, u1216_, none, u1217_, u1218_]) ?_
  intro draws_1695_
  refine sv_let (v := (snd s1214_)) (E := fun (y1698_ : (List (List Int))) => [some (O.ow [(encI (fst draws_1695_)), (encI (fst (snd draws_1695_))), (encB (snd (snd draws_1695_)))]), some (O.fz (encI size_242_)), some (O.fz (encI kind_244_)), some (O.ow2 (List.map (fun r => List.map encI r) y1698_)), some (O.fz ((encL encI) worths_266_)), u1215_, u1216_, none, u1217_, u1218_]) ?_
  intro told_1697_
  exact sv_exit (ct := (Ctl.rt (O.fz ((encL (encL encI)) told_1697_)))) (e := [some (O.ow [(encI (fst draws_1695_)), (encI (fst (snd draws_1695_))), (encB (snd (snd draws_1695_)))]), some (O.fz (encI size_242_)), some (O.fz (encI kind_244_)), some (O.fz ((encL (encL encI)) told_1697_)), some (O.fz ((encL encI) worths_266_)), u1215_, u1216_, none, u1217_, u1218_]) (os_ret2 (en := encI) (xs := told_1697_) rfl rfl) (fun h => nomatch h) ⟨.inl rfl, rfl⟩
def t__law_text (a_rule_1699_ : (List (List Int))) : Option Str := (strG ((List.length a_rule_1699_ : Nat) : Int)).bind fun b1700_ => (some [b1700_]).bind fun (lines_1701_ : (List Str)) => (rng1 ((List.length a_rule_1699_ : Nat) : Int)).bind fun b1703_ => (forN (fun (a1704_ : Int) (s1819_ : (List Str)) => (rng2 (a1704_ + (1 : Int)) ((List.length a_rule_1699_ : Nat) : Int)).bind fun b1823_ => (forN (fun (a1824_ : Int) (s1859_ : (List Str)) => ((((strG a1704_).bind fun b1862_ => ((((atI a_rule_1699_ a1704_).bind fun b1863_ => (atI b1863_ a1824_).map fun b1864_ => (b1863_, b1864_)).bind fun q1865_ => (atI [(Str.ofString " = "), (Str.ofString " > "), (Str.ofString " < ")] (snd q1865_)).map fun b1866_ => (q1865_, b1866_)).bind fun q1867_ => (addSG b1862_ (snd q1867_)).map fun b1868_ => (q1867_, b1868_)).map fun q1869_ => (b1862_, q1869_)).bind fun q1870_ => ((strG a1824_).bind fun b1871_ => (addSG (snd (snd q1870_)) b1871_).map fun b1872_ => (b1871_, b1872_)).map fun q1873_ => (q1870_, q1873_)).bind fun q1874_ => (appG s1859_ (snd (snd q1874_))).map fun b1875_ => (q1874_, b1875_)).bind fun q1876_ => (some (snd q1876_)).bind fun (lines_1877_ : (List Str)) => some lines_1877_) b1823_ s1819_).bind fun (lines_1879_ : (List Str)) => some lines_1879_) b1703_ lines_1701_).bind fun (lines_1880_ : (List Str)) => (joinG ((Str.ofString "
")) lines_1880_).map fun b1881_ => b1881_
theorem tk__law_text (a_rule_1699_ : (List (List Int))) : ∀ bb, t__law_text a_rule_1699_ = some bb → m__law_text [(O.fz ((encL (encL encI)) a_rule_1699_))] = some ((fun (bb : Str) => (O.fz (encS bb))) bb, (fun (bb : Str) => [(O.fz ((encL (encL encI)) a_rule_1699_))]) bb) := by
  unfold t__law_text m__law_text
  refine def_T (ro := (fun (bb : Str) => (O.fz (encS bb)))) (ios := (fun (bb : Str) => [(O.fz ((encL (encL encI)) a_rule_1699_))])) rfl ?_
  show SV _ [some (O.fz ((encL (encL encI)) a_rule_1699_)), none, none, none] _ _
  refine sv_last ?_
  refine sv_assoc ?_
  refine sv_V (st := fun b1700_ => [some (O.fz ((encL (encL encI)) a_rule_1699_)), some (O.ow (List.map encS [b1700_])), none, none]) (xv_VP (xv_VP (xv_VP (xv_VP (xv_PV' (a := [(P.val (encI ((List.length a_rule_1699_ : Nat) : Int)))]) (e2 := [some (O.fz ((encL (encL encI)) a_rule_1699_)), none, none, none]) ((bnd_eq (a := (P.val (encI ((List.length a_rule_1699_ : Nat) : Int)))) (e := [some (O.fz ((encL (encL encI)) a_rule_1699_)), none, none, none]) ((bnd_eq (a := [(P.val ((encL (encL encI)) a_rule_1699_))]) (e := [some (O.fz ((encL (encL encI)) a_rule_1699_)), none, none, none]) rfl).trans (oe_len rfl))).trans rfl) xo_strI) (fun b1700_ => rfl)) (fun b1700_ => rfl)) (fun b1700_ => rfl)) (fun b1700_ => rfl)) ?_
  intro b1700_
  refine sv_let (v := [b1700_]) (E := fun (y1702_ : (List Str)) => [some (O.fz ((encL (encL encI)) a_rule_1699_)), some (O.ow (List.map encS y1702_)), none, none]) ?_
  intro lines_1701_
  refine sv_assoc ?_
  refine sv_forNV (en := encI) (st := fun b1703_ => [some (O.fz ((encL (encL encI)) a_rule_1699_)), some (O.ow (List.map encS lines_1701_)), none, none]) (Q := fun b1703_ => fun (s1819_ : (List Str)) e1822_ => ∃ u1820_, ∃ u1821_, e1822_ = [some (O.fz ((encL (encL encI)) a_rule_1699_)), some (O.ow (List.map encS s1819_)), u1820_, u1821_]) (xv_PV' (a := [(P.val (encI ((List.length a_rule_1699_ : Nat) : Int)))]) (e2 := [some (O.fz ((encL (encL encI)) a_rule_1699_)), some (O.ow (List.map encS lines_1701_)), none, none]) ((bnd_eq (a := (P.val (encI ((List.length a_rule_1699_ : Nat) : Int)))) (e := [some (O.fz ((encL (encL encI)) a_rule_1699_)), some (O.ow (List.map encS lines_1701_)), none, none]) ((bnd_eq (a := [(P.val ((encL (encL encI)) a_rule_1699_))]) (e := [some (O.fz ((encL (encL encI)) a_rule_1699_)), some (O.ow (List.map encS lines_1701_)), none, none]) rfl).trans (oe_len rfl))).trans rfl) xo_rng1) (fun b1703_ => ⟨_, _, rfl⟩) ?_ ?_
  · intro b1703_
    rintro a1704_ s1819_ _ ⟨u1820_, u1821_, rfl⟩
    refine ⟨[some (O.fz ((encL (encL encI)) a_rule_1699_)), some (O.ow (List.map encS s1819_)), some (O.fz (encI a1704_)), u1821_], rfl, ?_⟩
    refine sv_last ?_
    refine sv_forNV (en := encI) (st := fun b1823_ => [some (O.fz ((encL (encL encI)) a_rule_1699_)), some (O.ow (List.map encS s1819_)), some (O.fz (encI a1704_)), u1821_]) (Q := fun b1823_ => fun (s1859_ : (List Str)) e1861_ => ∃ u1860_, e1861_ = [some (O.fz ((encL (encL encI)) a_rule_1699_)), some (O.ow (List.map encS s1859_)), some (O.fz (encI a1704_)), u1860_]) (xv_PV' (a := [(P.val (encI (a1704_ + (1 : Int)))), (P.val (encI ((List.length a_rule_1699_ : Nat) : Int)))]) (e2 := [some (O.fz ((encL (encL encI)) a_rule_1699_)), some (O.ow (List.map encS s1819_)), some (O.fz (encI a1704_)), u1821_]) ((bnd_eq (a := (P.val (encI (a1704_ + (1 : Int))))) (e := [some (O.fz ((encL (encL encI)) a_rule_1699_)), some (O.ow (List.map encS s1819_)), some (O.fz (encI a1704_)), u1821_]) rfl).trans ((bnd_eq (a := [(P.val (encI ((List.length a_rule_1699_ : Nat) : Int)))]) (e := [some (O.fz ((encL (encL encI)) a_rule_1699_)), some (O.ow (List.map encS s1819_)), some (O.fz (encI a1704_)), u1821_]) ((bnd_eq (a := (P.val (encI ((List.length a_rule_1699_ : Nat) : Int)))) (e := [some (O.fz ((encL (encL encI)) a_rule_1699_)), some (O.ow (List.map encS s1819_)), some (O.fz (encI a1704_)), u1821_]) ((bnd_eq (a := [(P.val ((encL (encL encI)) a_rule_1699_))]) (e := [some (O.fz ((encL (encL encI)) a_rule_1699_)), some (O.ow (List.map encS s1819_)), some (O.fz (encI a1704_)), u1821_]) rfl).trans (oe_len rfl))).trans rfl)).trans rfl)) xo_rng2) (fun b1823_ => ⟨_, rfl⟩) ?_ ?_
    · intro b1823_
      rintro a1824_ s1859_ _ ⟨u1860_, rfl⟩
      refine ⟨[some (O.fz ((encL (encL encI)) a_rule_1699_)), some (O.ow (List.map encS s1859_)), some (O.fz (encI a1704_)), some (O.fz (encI a1824_))], rfl, ?_⟩
      refine sv_last ?_
      refine sv_V (st := fun q1876_ => [some (O.fz ((encL (encL encI)) a_rule_1699_)), some (O.ow (List.map encS (snd q1876_))), some (O.fz (encI a1704_)), some (O.fz (encI a1824_))]) (by refine xv_app (j := 1) (t := (((strG a1704_).bind fun b1862_ => ((((atI a_rule_1699_ a1704_).bind fun b1863_ => (atI b1863_ a1824_).map fun b1864_ => (b1863_, b1864_)).bind fun q1865_ => (atI [(Str.ofString " = "), (Str.ofString " > "), (Str.ofString " < ")] (snd q1865_)).map fun b1866_ => (q1865_, b1866_)).bind fun q1867_ => (addSG b1862_ (snd q1867_)).map fun b1868_ => (q1867_, b1868_)).map fun q1869_ => (b1862_, q1869_)).bind fun q1870_ => ((strG a1824_).bind fun b1871_ => (addSG (snd (snd q1870_)) b1871_).map fun b1872_ => (b1871_, b1872_)).map fun q1873_ => (q1870_, q1873_))) (en := encS) (xs := fun q1874_ => s1859_) (x := fun q1874_ => (snd (snd q1874_))) (p := fun q1874_ => (P.val (encS (snd (snd q1874_))))) (e1 := fun q1874_ => [some (O.fz ((encL (encL encI)) a_rule_1699_)), some (O.ow (List.map encS s1859_)), some (O.fz (encI a1704_)), some (O.fz (encI a1824_))]) (e2 := fun q1874_ => [some (O.fz ((encL (encL encI)) a_rule_1699_)), some (O.ow (List.map encS s1859_)), some (O.fz (encI a1704_)), some (O.fz (encI a1824_))]) ⟨_, rfl⟩ ?_ ?_ ?_ ?_ <;> first | exact fun _ => rfl | exact (xv_VP (xv_VV (t := ((strG a1704_).bind fun b1862_ => ((((atI a_rule_1699_ a1704_).bind fun b1863_ => (atI b1863_ a1824_).map fun b1864_ => (b1863_, b1864_)).bind fun q1865_ => (atI [(Str.ofString " = "), (Str.ofString " > "), (Str.ofString " < ")] (snd q1865_)).map fun b1866_ => (q1865_, b1866_)).bind fun q1867_ => (addSG b1862_ (snd q1867_)).map fun b1868_ => (q1867_, b1868_)).map fun q1869_ => (b1862_, q1869_))) (t2 := fun q1870_ => ((strG a1824_).bind fun b1871_ => (addSG (snd (snd q1870_)) b1871_).map fun b1872_ => (b1871_, b1872_))) (cv := fun q1874_ => (P.val (encS (snd (snd q1874_))))) (st2 := fun q1874_ => [some (O.fz ((encL (encL encI)) a_rule_1699_)), some (O.ow (List.map encS s1859_)), some (O.fz (encI a1704_)), some (O.fz (encI a1824_))]) (xv_VV (t := (strG a1704_)) (t2 := fun b1862_ => ((((atI a_rule_1699_ a1704_).bind fun b1863_ => (atI b1863_ a1824_).map fun b1864_ => (b1863_, b1864_)).bind fun q1865_ => (atI [(Str.ofString " = "), (Str.ofString " > "), (Str.ofString " < ")] (snd q1865_)).map fun b1866_ => (q1865_, b1866_)).bind fun q1867_ => (addSG b1862_ (snd q1867_)).map fun b1868_ => (q1867_, b1868_))) (cv := fun q1870_ => (P.val (encS (snd (snd q1870_))))) (st2 := fun q1870_ => [some (O.fz ((encL (encL encI)) a_rule_1699_)), some (O.ow (List.map encS s1859_)), some (O.fz (encI a1704_)), some (O.fz (encI a1824_))]) (xv_PV' (a := [(P.val (encI a1704_))]) (e2 := [some (O.fz ((encL (encL encI)) a_rule_1699_)), some (O.ow (List.map encS s1859_)), some (O.fz (encI a1704_)), some (O.fz (encI a1824_))]) rfl xo_strI) (fun b1862_ => (xv_VV (t := (((atI a_rule_1699_ a1704_).bind fun b1863_ => (atI b1863_ a1824_).map fun b1864_ => (b1863_, b1864_)).bind fun q1865_ => (atI [(Str.ofString " = "), (Str.ofString " > "), (Str.ofString " < ")] (snd q1865_)).map fun b1866_ => (q1865_, b1866_))) (t2 := fun q1867_ => (addSG b1862_ (snd q1867_))) (cv := fun q1869_ => (P.val (encS (snd q1869_)))) (st2 := fun q1869_ => [some (O.fz ((encL (encL encI)) a_rule_1699_)), some (O.ow (List.map encS s1859_)), some (O.fz (encI a1704_)), some (O.fz (encI a1824_))]) (xv_PV' (a := (P.val ((encL encS) [(Str.ofString " = "), (Str.ofString " > "), (Str.ofString " < ")]))) (e2 := [some (O.fz ((encL (encL encI)) a_rule_1699_)), some (O.ow (List.map encS s1859_)), some (O.fz (encI a1704_)), some (O.fz (encI a1824_))]) rfl (xv_VV (t := ((atI a_rule_1699_ a1704_).bind fun b1863_ => (atI b1863_ a1824_).map fun b1864_ => (b1863_, b1864_))) (t2 := fun q1865_ => (atI [(Str.ofString " = "), (Str.ofString " > "), (Str.ofString " < ")] (snd q1865_))) (cv := fun q1867_ => (P.val (encS (snd q1867_)))) (st2 := fun q1867_ => [some (O.fz ((encL (encL encI)) a_rule_1699_)), some (O.ow (List.map encS s1859_)), some (O.fz (encI a1704_)), some (O.fz (encI a1824_))]) (xv_VV (t := (atI a_rule_1699_ a1704_)) (t2 := fun b1863_ => (atI b1863_ a1824_)) (cv := fun q1865_ => (P.val (encI (snd q1865_)))) (st2 := fun q1865_ => [some (O.fz ((encL (encL encI)) a_rule_1699_)), some (O.ow (List.map encS s1859_)), some (O.fz (encI a1704_)), some (O.fz (encI a1824_))]) (xv_PV' (a := (P.val ((encL (encL encI)) a_rule_1699_))) (e2 := [some (O.fz ((encL (encL encI)) a_rule_1699_)), some (O.ow (List.map encS s1859_)), some (O.fz (encI a1704_)), some (O.fz (encI a1824_))]) rfl (xv_PV' (a := (P.val (encI a1704_))) (e2 := [some (O.fz ((encL (encL encI)) a_rule_1699_)), some (O.ow (List.map encS s1859_)), some (O.fz (encI a1704_)), some (O.fz (encI a1824_))]) rfl (xo_ix rfl))) (fun b1863_ => (xv_PV' (a := (P.val (encI a1824_))) (e2 := [some (O.fz ((encL (encL encI)) a_rule_1699_)), some (O.ow (List.map encS s1859_)), some (O.fz (encI a1704_)), some (O.fz (encI a1824_))]) rfl (xo_ix rfl)))) (fun q1865_ => (xo_ix rfl)))) (fun q1867_ => xo_addS)))) (fun q1870_ => (xv_VV (t := (strG a1824_)) (t2 := fun b1871_ => (addSG (snd (snd q1870_)) b1871_)) (cv := fun q1873_ => (P.val (encS (snd q1873_)))) (st2 := fun q1873_ => [some (O.fz ((encL (encL encI)) a_rule_1699_)), some (O.ow (List.map encS s1859_)), some (O.fz (encI a1704_)), some (O.fz (encI a1824_))]) (xv_PV' (a := [(P.val (encI a1824_))]) (e2 := [some (O.fz ((encL (encL encI)) a_rule_1699_)), some (O.ow (List.map encS s1859_)), some (O.fz (encI a1704_)), some (O.fz (encI a1824_))]) rfl xo_strI) (fun b1871_ => xo_addS)))) (fun q1874_ => rfl))) ?_
      intro q1876_
      refine sv_let (v := (snd q1876_)) (E := fun (y1878_ : (List Str)) => [some (O.fz ((encL (encL encI)) a_rule_1699_)), some (O.ow (List.map encS y1878_)), some (O.fz (encI a1704_)), some (O.fz (encI a1824_))]) ?_
      intro lines_1877_
      exact sv_end ⟨.inl rfl, _, rfl⟩
    intro b1823_
    rintro lines_1879_ _ ⟨u1860_, rfl⟩
    exact sv_end ⟨.inl rfl, _, _, rfl⟩
  intro b1703_
  rintro lines_1880_ _ ⟨u1820_, u1821_, rfl⟩
  exact sv_exitV (ct := fun b1881_ => (Ctl.rt (O.fz (encS b1881_)))) (st := fun b1881_ => [some (O.fz ((encL (encL encI)) a_rule_1699_)), some (O.ow (List.map encS lines_1880_)), u1820_, u1821_]) (xv_VP (xv_PV' (a := (P.val (encS (Str.ofString "
")))) (e2 := [some (O.fz ((encL (encL encI)) a_rule_1699_)), some (O.ow (List.map encS lines_1880_)), u1820_, u1821_]) rfl (xv_PV' (a := (P.var 1)) (e2 := [some (O.fz ((encL (encL encI)) a_rule_1699_)), some (O.ow (List.map encS lines_1880_)), u1820_, u1821_]) rfl (xo_join rfl))) (fun b1881_ => rfl)) (fun _ h => nomatch h) (fun _ => ⟨.inl rfl, rfl⟩)
def t__law_right (draws_1883_ : (Int × Int × Bool)) : Option (Bool × (Int × Int × Bool)) := ((t__law_next draws_1883_).bind fun b1884_ => (t__law_rule (snd b1884_) (Int.fmod (fst b1884_) (13 : Int))).map fun b1885_ => (b1884_, b1885_)).bind fun q1886_ => (some (fst (snd q1886_))).bind fun (a_rule_1887_ : (List (List Int))) => (some (snd (snd q1886_))).bind fun (draws_1889_ : (Int × Int × Bool)) => (reprG ((encL (encL encI)) a_rule_1887_)).bind fun kept_1892_ => (t__law_text a_rule_1887_).bind fun due_1894_ => ((((t_format_rule a_rule_1887_).bind fun b1895_ => (eqS b1895_ due_1894_).map fun b1896_ => (b1895_, b1896_)).map fun q1897_ => ((!(snd q1897_)), ())).bind fun b1924_ => if (fst b1924_) = true then some (true, (snd b1924_)) else (fun s1910_ => (((((t_format_rule a_rule_1887_).bind fun b1911_ => (eqS b1911_ due_1894_).map fun b1912_ => (b1911_, b1912_)).map fun q1913_ => ((!(snd q1913_)), ())).bind fun b1922_ => if (fst b1922_) = true then some (true, (snd b1922_)) else (fun s1917_ => (((reprG ((encL (encL encI)) a_rule_1887_)).bind fun b1918_ => (eqS b1918_ kept_1892_).map fun b1919_ => (b1918_, b1919_)).map fun q1920_ => ((!(snd q1920_)), ()))) (snd b1922_)).map fun b1921_ => ((fst b1921_), ()))) (snd b1924_)).bind fun b1923_ => if (fst b1923_) = true then (some (false, draws_1889_)) else (((t_parse_rule due_1894_).bind fun b1925_ => (t_parse_rule due_1894_).map fun b1926_ => (b1925_, b1926_)).bind fun q1927_ => (some (fst q1927_)).bind fun (told_1928_ : (List (List Int))) => (some (snd q1927_)).bind fun (other_1930_ : (List (List Int))) => ((((reprG ((encL (encL encI)) told_1928_)).bind fun b1932_ => (eqS b1932_ kept_1892_).map fun b1933_ => (b1932_, b1933_)).map fun q1934_ => ((!(snd q1934_)), ())).bind fun b1937_ => if (fst b1937_) = true then some (true, (snd b1937_)) else (fun s1935_ => (some ((!(decide (other_1930_ = a_rule_1887_))), ()))) (snd b1937_)).bind fun b1936_ => if (fst b1936_) = true then (some (false, draws_1889_)) else ((t_tail a_rule_1887_ due_1894_ told_1928_).map fun b1938_ => (b1938_, draws_1889_)))
theorem tk__law_right (draws_1883_ : (Int × Int × Bool)) : ∀ bb, t__law_right draws_1883_ = some bb → m__law_right [(O.ow [(encI (fst draws_1883_)), (encI (fst (snd draws_1883_))), (encB (snd (snd draws_1883_)))])] = some ((fun (bb : (Bool × (Int × Int × Bool))) => (O.fz (encB (fst bb)))) bb, (fun (bb : (Bool × (Int × Int × Bool))) => [(O.ow [(encI (fst (snd bb))), (encI (fst (snd (snd bb)))), (encB (snd (snd (snd bb))))])]) bb) := by
  unfold t__law_right m__law_right
  refine def_T (ro := (fun (bb : (Bool × (Int × Int × Bool))) => (O.fz (encB (fst bb))))) (ios := (fun (bb : (Bool × (Int × Int × Bool))) => [(O.ow [(encI (fst (snd bb))), (encI (fst (snd (snd bb)))), (encB (snd (snd (snd bb))))])])) rfl ?_
  show SV _ [some (O.ow [(encI (fst draws_1883_)), (encI (fst (snd draws_1883_))), (encB (snd (snd draws_1883_)))]), none, none, none, none, none, none, none] _ _
  refine sv_last ?_
  refine sv_assoc ?_
  refine sv_V (st := fun q1886_ => [some (O.ow [(encI (fst (snd (snd q1886_)))), (encI (fst (snd (snd (snd q1886_))))), (encB (snd (snd (snd (snd q1886_)))))]), some (O.fz ((encL (encL encI)) (fst (snd q1886_)))), none, none, none, none, none, none]) (xv_VP (xv_VP (xv_VV (t := (t__law_next draws_1883_)) (t2 := fun b1884_ => (t__law_rule (snd b1884_) (Int.fmod (fst b1884_) (13 : Int)))) (cv := fun q1886_ => (O.fz ((encL (encL encI)) (fst (snd q1886_))))) (st2 := fun q1886_ => [some (O.ow [(encI (fst (snd (snd q1886_)))), (encI (fst (snd (snd (snd q1886_))))), (encB (snd (snd (snd (snd q1886_)))))]), none, none, none, none, none, none, none]) (xv_PV' (a := (P.var 0)) (e2 := [some (O.ow [(encI (fst draws_1883_)), (encI (fst (snd draws_1883_))), (encB (snd (snd draws_1883_)))]), none, none, none, none, none, none, none]) rfl (xv_VP (xv_VP (xv_VP (xv_VP (xv_VP (xv_VP (xv_PV' (a := [(P.var 0)]) (e2 := [some (O.ow [(encI (fst draws_1883_)), (encI (fst (snd draws_1883_))), (encB (snd (snd draws_1883_)))]), none, none, none, none, none, none, none]) rfl (xo_call (tk__law_next draws_1883_) rfl rfl rfl (fun _ => rfl))) (fun b1884_ => rfl)) (fun b1884_ => rfl)) (fun b1884_ => rfl)) (fun b1884_ => rfl)) (fun b1884_ => rfl)) (fun b1884_ => rfl))) (fun b1884_ => (xo_call (tk__law_rule (snd b1884_) (Int.fmod (fst b1884_) (13 : Int))) rfl rfl rfl (fun _ => rfl)))) (fun q1886_ => rfl)) (fun q1886_ => rfl)) ?_
  intro q1886_
  refine sv_let (v := (fst (snd q1886_))) (E := fun (y1888_ : (List (List Int))) => [some (O.ow [(encI (fst (snd (snd q1886_)))), (encI (fst (snd (snd (snd q1886_))))), (encB (snd (snd (snd (snd q1886_)))))]), some (O.fz ((encL (encL encI)) y1888_)), none, none, none, none, none, none]) ?_
  intro a_rule_1887_
  refine sv_let (v := (snd (snd q1886_))) (E := fun (y1890_ : (Int × Int × Bool)) => [some (O.ow [(encI (fst y1890_)), (encI (fst (snd y1890_))), (encB (snd (snd y1890_)))]), some (O.fz ((encL (encL encI)) a_rule_1887_)), none, none, none, none, none, none]) ?_
  intro draws_1889_
  refine sv_assoc ?_
  refine sv_V (st := fun b1891_ => [some (O.ow [(encI (fst draws_1889_)), (encI (fst (snd draws_1889_))), (encB (snd (snd draws_1889_)))]), some (O.fz ((encL (encL encI)) a_rule_1887_)), some (O.fz (encS b1891_)), none, none, none, none, none]) (xv_VP (xv_PV' (a := [(P.val ((encL (encL encI)) a_rule_1887_))]) (e2 := [some (O.ow [(encI (fst draws_1889_)), (encI (fst (snd draws_1889_))), (encB (snd (snd draws_1889_)))]), some (O.fz ((encL (encL encI)) a_rule_1887_)), none, none, none, none, none, none]) rfl (xo_repr rfl)) (fun b1891_ => rfl)) ?_
  intro kept_1892_
  refine sv_assoc ?_
  refine sv_V (st := fun b1893_ => [some (O.ow [(encI (fst draws_1889_)), (encI (fst (snd draws_1889_))), (encB (snd (snd draws_1889_)))]), some (O.fz ((encL (encL encI)) a_rule_1887_)), some (O.fz (encS kept_1892_)), some (O.fz (encS b1893_)), none, none, none, none]) (xv_VP (xv_VP (xv_PV' (a := [(P.val ((encL (encL encI)) a_rule_1887_))]) (e2 := [some (O.ow [(encI (fst draws_1889_)), (encI (fst (snd draws_1889_))), (encB (snd (snd draws_1889_)))]), some (O.fz ((encL (encL encI)) a_rule_1887_)), some (O.fz (encS kept_1892_)), none, none, none, none, none]) rfl (xo_call (tk__law_text a_rule_1887_) rfl rfl rfl (fun _ => rfl))) (fun b1893_ => rfl)) (fun b1893_ => rfl)) ?_
  intro due_1894_
  refine sv_assoc ?_
  refine sv_ifV (st := fun b1923_ => [some (O.ow [(encI (fst draws_1889_)), (encI (fst (snd draws_1889_))), (encB (snd (snd draws_1889_)))]), some (O.fz ((encL (encL encI)) a_rule_1887_)), some (O.fz (encS kept_1892_)), some (O.fz (encS due_1894_)), none, none, none, none]) (xv_orV (E := (fun s1910_ => [some (O.ow [(encI (fst draws_1889_)), (encI (fst (snd draws_1889_))), (encB (snd (snd draws_1889_)))]), some (O.fz ((encL (encL encI)) a_rule_1887_)), some (O.fz (encS kept_1892_)), some (O.fz (encS due_1894_)), none, none, none, none])) (t2 := (fun s1910_ => (((((t_format_rule a_rule_1887_).bind fun b1911_ => (eqS b1911_ due_1894_).map fun b1912_ => (b1911_, b1912_)).map fun q1913_ => ((!(snd q1913_)), ())).bind fun b1922_ => if (fst b1922_) = true then some (true, (snd b1922_)) else (fun s1917_ => (((reprG ((encL (encL encI)) a_rule_1887_)).bind fun b1918_ => (eqS b1918_ kept_1892_).map fun b1919_ => (b1918_, b1919_)).map fun q1920_ => ((!(snd q1920_)), ()))) (snd b1922_)).map fun b1921_ => ((fst b1921_), ())))) (xv_map (t := ((t_format_rule a_rule_1887_).bind fun b1895_ => (eqS b1895_ due_1894_).map fun b1896_ => (b1895_, b1896_))) (f := fun q1897_ => ((!(snd q1897_)), ())) (xv_VP (xv_VV (t := (t_format_rule a_rule_1887_)) (t2 := fun b1895_ => (eqS b1895_ due_1894_)) (cv := fun q1897_ => (P.val (encB (!(snd q1897_))))) (st2 := fun q1897_ => [some (O.ow [(encI (fst draws_1889_)), (encI (fst (snd draws_1889_))), (encB (snd (snd draws_1889_)))]), some (O.fz ((encL (encL encI)) a_rule_1887_)), some (O.fz (encS kept_1892_)), some (O.fz (encS due_1894_)), none, none, none, none]) (xv_VP (xv_PV' (a := [(P.val ((encL (encL encI)) a_rule_1887_))]) (e2 := [some (O.ow [(encI (fst draws_1889_)), (encI (fst (snd draws_1889_))), (encB (snd (snd draws_1889_)))]), some (O.fz ((encL (encL encI)) a_rule_1887_)), some (O.fz (encS kept_1892_)), some (O.fz (encS due_1894_)), none, none, none, none]) rfl (xo_call (tk_format_rule a_rule_1887_) rfl rfl rfl (fun _ => rfl))) (fun b1895_ => rfl)) (fun b1895_ => (xv_PV' (a := (P.val (encS due_1894_))) (e2 := [some (O.ow [(encI (fst draws_1889_)), (encI (fst (snd draws_1889_))), (encB (snd (snd draws_1889_)))]), some (O.fz ((encL (encL encI)) a_rule_1887_)), some (O.fz (encS kept_1892_)), some (O.fz (encS due_1894_)), none, none, none, none]) rfl (xo_eqS rfl rfl)))) (fun q1897_ => rfl))) (fun s1910_ => (xv_map (t := ((((t_format_rule a_rule_1887_).bind fun b1911_ => (eqS b1911_ due_1894_).map fun b1912_ => (b1911_, b1912_)).map fun q1913_ => ((!(snd q1913_)), ())).bind fun b1922_ => if (fst b1922_) = true then some (true, (snd b1922_)) else (fun s1917_ => (((reprG ((encL (encL encI)) a_rule_1887_)).bind fun b1918_ => (eqS b1918_ kept_1892_).map fun b1919_ => (b1918_, b1919_)).map fun q1920_ => ((!(snd q1920_)), ()))) (snd b1922_))) (f := fun b1921_ => ((fst b1921_), ())) (xv_orV (E := (fun s1917_ => [some (O.ow [(encI (fst draws_1889_)), (encI (fst (snd draws_1889_))), (encB (snd (snd draws_1889_)))]), some (O.fz ((encL (encL encI)) a_rule_1887_)), some (O.fz (encS kept_1892_)), some (O.fz (encS due_1894_)), none, none, none, none])) (t2 := (fun s1917_ => (((reprG ((encL (encL encI)) a_rule_1887_)).bind fun b1918_ => (eqS b1918_ kept_1892_).map fun b1919_ => (b1918_, b1919_)).map fun q1920_ => ((!(snd q1920_)), ())))) (xv_map (t := ((t_format_rule a_rule_1887_).bind fun b1911_ => (eqS b1911_ due_1894_).map fun b1912_ => (b1911_, b1912_))) (f := fun q1913_ => ((!(snd q1913_)), ())) (xv_VP (xv_VV (t := (t_format_rule a_rule_1887_)) (t2 := fun b1911_ => (eqS b1911_ due_1894_)) (cv := fun q1913_ => (P.val (encB (!(snd q1913_))))) (st2 := fun q1913_ => [some (O.ow [(encI (fst draws_1889_)), (encI (fst (snd draws_1889_))), (encB (snd (snd draws_1889_)))]), some (O.fz ((encL (encL encI)) a_rule_1887_)), some (O.fz (encS kept_1892_)), some (O.fz (encS due_1894_)), none, none, none, none]) (xv_VP (xv_PV' (a := []) (e2 := [some (O.ow [(encI (fst draws_1889_)), (encI (fst (snd draws_1889_))), (encB (snd (snd draws_1889_)))]), some (O.fz ((encL (encL encI)) a_rule_1887_)), some (O.fz (encS kept_1892_)), some (O.fz (encS due_1894_)), none, none, none, none]) rfl (xv_PV' (a := [(P.val ((encL (encL encI)) a_rule_1887_))]) (e2 := [some (O.ow [(encI (fst draws_1889_)), (encI (fst (snd draws_1889_))), (encB (snd (snd draws_1889_)))]), some (O.fz ((encL (encL encI)) a_rule_1887_)), some (O.fz (encS kept_1892_)), some (O.fz (encS due_1894_)), none, none, none, none]) rfl (xo_call (tk_format_rule a_rule_1887_) rfl rfl rfl (fun _ => rfl)))) (fun b1911_ => rfl)) (fun b1911_ => (xv_PV' (a := (P.val (encS due_1894_))) (e2 := [some (O.ow [(encI (fst draws_1889_)), (encI (fst (snd draws_1889_))), (encB (snd (snd draws_1889_)))]), some (O.fz ((encL (encL encI)) a_rule_1887_)), some (O.fz (encS kept_1892_)), some (O.fz (encS due_1894_)), none, none, none, none]) rfl (xo_eqS rfl rfl)))) (fun q1913_ => rfl))) (fun s1917_ => (xv_map (t := ((reprG ((encL (encL encI)) a_rule_1887_)).bind fun b1918_ => (eqS b1918_ kept_1892_).map fun b1919_ => (b1918_, b1919_))) (f := fun q1920_ => ((!(snd q1920_)), ())) (xv_VP (xv_VV (t := (reprG ((encL (encL encI)) a_rule_1887_))) (t2 := fun b1918_ => (eqS b1918_ kept_1892_)) (cv := fun q1920_ => (P.val (encB (!(snd q1920_))))) (st2 := fun q1920_ => [some (O.ow [(encI (fst draws_1889_)), (encI (fst (snd draws_1889_))), (encB (snd (snd draws_1889_)))]), some (O.fz ((encL (encL encI)) a_rule_1887_)), some (O.fz (encS kept_1892_)), some (O.fz (encS due_1894_)), none, none, none, none]) (xv_PV' (a := [(P.val ((encL (encL encI)) a_rule_1887_))]) (e2 := [some (O.ow [(encI (fst draws_1889_)), (encI (fst (snd draws_1889_))), (encB (snd (snd draws_1889_)))]), some (O.fz ((encL (encL encI)) a_rule_1887_)), some (O.fz (encS kept_1892_)), some (O.fz (encS due_1894_)), none, none, none, none]) rfl (xo_repr rfl)) (fun b1918_ => (xv_PV' (a := (P.val (encS kept_1892_))) (e2 := [some (O.ow [(encI (fst draws_1889_)), (encI (fst (snd draws_1889_))), (encB (snd (snd draws_1889_)))]), some (O.fz ((encL (encL encI)) a_rule_1887_)), some (O.fz (encS kept_1892_)), some (O.fz (encS due_1894_)), none, none, none, none]) rfl (xo_eqS rfl rfl)))) (fun q1920_ => rfl)))))))) ?_ ?_
  · intro b1923_
    exact sv_exit (ct := (Ctl.rt (O.fz (encB false)))) (e := [some (O.ow [(encI (fst draws_1889_)), (encI (fst (snd draws_1889_))), (encB (snd (snd draws_1889_)))]), some (O.fz ((encL (encL encI)) a_rule_1887_)), some (O.fz (encS kept_1892_)), some (O.fz (encS due_1894_)), none, none, none, none]) rfl (fun h => nomatch h) ⟨.inl rfl, rfl⟩
  · intro b1923_
    refine sv_nx (e := [some (O.ow [(encI (fst draws_1889_)), (encI (fst (snd draws_1889_))), (encB (snd (snd draws_1889_)))]), some (O.fz ((encL (encL encI)) a_rule_1887_)), some (O.fz (encS kept_1892_)), some (O.fz (encS due_1894_)), none, none, none, none]) rfl ?_
    refine sv_assoc ?_
    refine sv_V (st := fun q1927_ => [some (O.ow [(encI (fst draws_1889_)), (encI (fst (snd draws_1889_))), (encB (snd (snd draws_1889_)))]), some (O.fz ((encL (encL encI)) a_rule_1887_)), some (O.fz (encS kept_1892_)), some (O.fz (encS due_1894_)), some (O.ow2 (List.map (fun r => List.map encI r) (fst q1927_))), some (O.fz ((encL (encL encI)) (snd q1927_))), none, none]) (xv_VV (t := (t_parse_rule due_1894_)) (t2 := fun b1925_ => (t_parse_rule due_1894_)) (cv := fun q1927_ => Ctl.nx) (st2 := fun q1927_ => [some (O.ow [(encI (fst draws_1889_)), (encI (fst (snd draws_1889_))), (encB (snd (snd draws_1889_)))]), some (O.fz ((encL (encL encI)) a_rule_1887_)), some (O.fz (encS kept_1892_)), some (O.fz (encS due_1894_)), some (O.ow2 (List.map (fun r => List.map encI r) (fst q1927_))), some (O.fz ((encL (encL encI)) (snd q1927_))), none, none]) (xv_PV' (a := [(P.val (encS due_1894_))]) (e2 := [some (O.ow [(encI (fst draws_1889_)), (encI (fst (snd draws_1889_))), (encB (snd (snd draws_1889_)))]), some (O.fz ((encL (encL encI)) a_rule_1887_)), some (O.fz (encS kept_1892_)), some (O.fz (encS due_1894_)), none, none, none, none]) rfl (xo_call (tk_parse_rule due_1894_) rfl rfl rfl (fun _ => rfl))) (fun b1925_ => (xv_VP (xv_VP (xv_fz2 (en := encI) (rows := fun b1926_ => b1926_) (xv_PV' (a := []) (e2 := [some (O.ow [(encI (fst draws_1889_)), (encI (fst (snd draws_1889_))), (encB (snd (snd draws_1889_)))]), some (O.fz ((encL (encL encI)) a_rule_1887_)), some (O.fz (encS kept_1892_)), some (O.fz (encS due_1894_)), none, none, none, none]) rfl (xv_PV' (a := [(P.val (encS due_1894_))]) (e2 := [some (O.ow [(encI (fst draws_1889_)), (encI (fst (snd draws_1889_))), (encB (snd (snd draws_1889_)))]), some (O.fz ((encL (encL encI)) a_rule_1887_)), some (O.fz (encS kept_1892_)), some (O.fz (encS due_1894_)), none, none, none, none]) rfl (xo_call (tk_parse_rule due_1894_) rfl rfl rfl (fun _ => rfl))))) (fun b1926_ => rfl)) (fun b1926_ => rfl)))) ?_
    intro q1927_
    refine sv_let (v := (fst q1927_)) (E := fun (y1929_ : (List (List Int))) => [some (O.ow [(encI (fst draws_1889_)), (encI (fst (snd draws_1889_))), (encB (snd (snd draws_1889_)))]), some (O.fz ((encL (encL encI)) a_rule_1887_)), some (O.fz (encS kept_1892_)), some (O.fz (encS due_1894_)), some (O.ow2 (List.map (fun r => List.map encI r) y1929_)), some (O.fz ((encL (encL encI)) (snd q1927_))), none, none]) ?_
    intro told_1928_
    refine sv_let (v := (snd q1927_)) (E := fun (y1931_ : (List (List Int))) => [some (O.ow [(encI (fst draws_1889_)), (encI (fst (snd draws_1889_))), (encB (snd (snd draws_1889_)))]), some (O.fz ((encL (encL encI)) a_rule_1887_)), some (O.fz (encS kept_1892_)), some (O.fz (encS due_1894_)), some (O.ow2 (List.map (fun r => List.map encI r) told_1928_)), some (O.fz ((encL (encL encI)) y1931_)), none, none]) ?_
    intro other_1930_
    refine sv_assoc ?_
    refine sv_ifV (st := fun b1936_ => [some (O.ow [(encI (fst draws_1889_)), (encI (fst (snd draws_1889_))), (encB (snd (snd draws_1889_)))]), some (O.fz ((encL (encL encI)) a_rule_1887_)), some (O.fz (encS kept_1892_)), some (O.fz (encS due_1894_)), some (O.ow2 (List.map (fun r => List.map encI r) told_1928_)), some (O.fz ((encL (encL encI)) other_1930_)), none, none]) (xv_orV (E := (fun s1935_ => [some (O.ow [(encI (fst draws_1889_)), (encI (fst (snd draws_1889_))), (encB (snd (snd draws_1889_)))]), some (O.fz ((encL (encL encI)) a_rule_1887_)), some (O.fz (encS kept_1892_)), some (O.fz (encS due_1894_)), some (O.ow2 (List.map (fun r => List.map encI r) told_1928_)), some (O.fz ((encL (encL encI)) other_1930_)), none, none])) (t2 := (fun s1935_ => (some ((!(decide (other_1930_ = a_rule_1887_))), ())))) (xv_map (t := ((reprG ((encL (encL encI)) told_1928_)).bind fun b1932_ => (eqS b1932_ kept_1892_).map fun b1933_ => (b1932_, b1933_))) (f := fun q1934_ => ((!(snd q1934_)), ())) (xv_VP (xv_VV (t := (reprG ((encL (encL encI)) told_1928_))) (t2 := fun b1932_ => (eqS b1932_ kept_1892_)) (cv := fun q1934_ => (P.val (encB (!(snd q1934_))))) (st2 := fun q1934_ => [some (O.ow [(encI (fst draws_1889_)), (encI (fst (snd draws_1889_))), (encB (snd (snd draws_1889_)))]), some (O.fz ((encL (encL encI)) a_rule_1887_)), some (O.fz (encS kept_1892_)), some (O.fz (encS due_1894_)), some (O.ow2 (List.map (fun r => List.map encI r) told_1928_)), some (O.fz ((encL (encL encI)) other_1930_)), none, none]) (xv_PV' (a := [(P.var 4)]) (e2 := [some (O.ow [(encI (fst draws_1889_)), (encI (fst (snd draws_1889_))), (encB (snd (snd draws_1889_)))]), some (O.fz ((encL (encL encI)) a_rule_1887_)), some (O.fz (encS kept_1892_)), some (O.fz (encS due_1894_)), some (O.ow2 (List.map (fun r => List.map encI r) told_1928_)), some (O.fz ((encL (encL encI)) other_1930_)), none, none]) rfl (xo_repr (vw_ow2 rfl))) (fun b1932_ => (xv_PV' (a := (P.val (encS kept_1892_))) (e2 := [some (O.ow [(encI (fst draws_1889_)), (encI (fst (snd draws_1889_))), (encB (snd (snd draws_1889_)))]), some (O.fz ((encL (encL encI)) a_rule_1887_)), some (O.fz (encS kept_1892_)), some (O.fz (encS due_1894_)), some (O.ow2 (List.map (fun r => List.map encI r) told_1928_)), some (O.fz ((encL (encL encI)) other_1930_)), none, none]) rfl (xo_eqS rfl rfl)))) (fun q1934_ => rfl))) (fun s1935_ => (xv_some ((bnd_eq (a := (P.val (encB (!(decide (other_1930_ = a_rule_1887_)))))) (e := [some (O.ow [(encI (fst draws_1889_)), (encI (fst (snd draws_1889_))), (encB (snd (snd draws_1889_)))]), some (O.fz ((encL (encL encI)) a_rule_1887_)), some (O.fz (encS kept_1892_)), some (O.fz (encS due_1894_)), some (O.ow2 (List.map (fun r => List.map encI r) told_1928_)), some (O.fz ((encL (encL encI)) other_1930_)), none, none]) ((bnd_eq (a := (P.val ((encL (encL encI)) other_1930_))) (e := [some (O.ow [(encI (fst draws_1889_)), (encI (fst (snd draws_1889_))), (encB (snd (snd draws_1889_)))]), some (O.fz ((encL (encL encI)) a_rule_1887_)), some (O.fz (encS kept_1892_)), some (O.fz (encS due_1894_)), some (O.ow2 (List.map (fun r => List.map encI r) told_1928_)), some (O.fz ((encL (encL encI)) other_1930_)), none, none]) rfl).trans ((bnd_eq (a := (P.val ((encL (encL encI)) a_rule_1887_))) (e := [some (O.ow [(encI (fst draws_1889_)), (encI (fst (snd draws_1889_))), (encB (snd (snd draws_1889_)))]), some (O.fz ((encL (encL encI)) a_rule_1887_)), some (O.fz (encS kept_1892_)), some (O.fz (encS due_1894_)), some (O.ow2 (List.map (fun r => List.map encI r) told_1928_)), some (O.fz ((encL (encL encI)) other_1930_)), none, none]) rfl).trans (oe_eq (a := other_1930_) (b := a_rule_1887_) (eo_L (eo_L eo_I)) rfl rfl)))).trans rfl)))) ?_ ?_
    · intro b1936_
      exact sv_exit (ct := (Ctl.rt (O.fz (encB false)))) (e := [some (O.ow [(encI (fst draws_1889_)), (encI (fst (snd draws_1889_))), (encB (snd (snd draws_1889_)))]), some (O.fz ((encL (encL encI)) a_rule_1887_)), some (O.fz (encS kept_1892_)), some (O.fz (encS due_1894_)), some (O.ow2 (List.map (fun r => List.map encI r) told_1928_)), some (O.fz ((encL (encL encI)) other_1930_)), none, none]) rfl (fun h => nomatch h) ⟨.inl rfl, rfl⟩
    · intro b1936_
      refine sv_nx (e := [some (O.ow [(encI (fst draws_1889_)), (encI (fst (snd draws_1889_))), (encB (snd (snd draws_1889_)))]), some (O.fz ((encL (encL encI)) a_rule_1887_)), some (O.fz (encS kept_1892_)), some (O.fz (encS due_1894_)), some (O.ow2 (List.map (fun r => List.map encI r) told_1928_)), some (O.fz ((encL (encL encI)) other_1930_)), none, none]) rfl ?_
      exact sv_hand (fun c k e => k = Ctl.rt (O.fz (encB c)) ∧ e[0]? = some (some (O.ow [(encI (fst draws_1889_)), (encI (fst (snd draws_1889_))), (encB (snd (snd draws_1889_)))]))) xv_tail (fun _ _ _ h => And.elim (fun h1 h2 => ⟨.inl h1, fin0 h2⟩) h)
def t_law (script_1939_ : (List Int)) : Option Bool := (catG (cutG script_1939_ none (some (6 : Int))) [(0 : Int)]).bind fun b1940_ => (forR (ρ := Bool) (fun (a1941_ : Int) (s1988_ : Unit) => (t__law_draws a1941_).bind fun draws_1994_ => (rng1 (3 : Int)).bind fun b1995_ => (forR (ρ := Bool) (fun (a1996_ : Int) (s2007_ : (Int × Int × Bool)) => (t__law_right s2007_).bind fun b2010_ => if (!(fst b2010_)) = true then ((some (snd b2010_)).bind fun (draws_2011_ : (Int × Int × Bool)) => some (Rs.rt false)) else ((some (snd b2010_)).bind fun (draws_2013_ : (Int × Int × Bool)) => some (Rs.nx draws_2013_))) b1995_ draws_1994_).bind fun r => r.on (fun r => some (Rs.rt r)) (fun (draws_2015_ : (Int × Int × Bool)) => some (Rs.nx ()))) b1940_ ()).bind fun r => r.on (fun r => some r) (fun (s1988_ : Unit) => some true)
theorem tk_law {K : PySem.W.Frag} {ca : Nat → Addr} (script_1939_ : (List Int)) : ∀ bb, t_law script_1939_ = some bb → m_law K ca [(O.sc K script_1939_)] = some ((fun (bb : Bool) => (O.fz (encB bb))) bb, (fun (bb : Bool) => [(O.sc K script_1939_)]) bb) := by
  unfold t_law m_law
  refine def_T (ro := (fun (bb : Bool) => (O.fz (encB bb)))) (ios := (fun (bb : Bool) => [(O.sc K script_1939_)])) rfl ?_
  show SV _ [some (O.sc K script_1939_), none, none, none] _ _
  refine sv_last ?_
  refine sv_assoc ?_
  refine sv_forRV (en := encI) (st := fun b1940_ => [some (O.sc K script_1939_), none, none, none]) (Q := fun b1940_ => fun (s1988_ : Unit) e1992_ => ∃ u1989_, ∃ u1990_, ∃ u1991_, e1992_ = [some (O.sc K script_1939_), u1989_, u1990_, u1991_]) (PR := fun _ r c e => (c = .rt ((((fun (bb : Bool) => (O.fz (encB bb)))) r)) ∨ (c = .nx ∧ (((fun (bb : Bool) => (O.fz (encB bb)))) r) = .fz .none)) ∧ mDef.finL [] [(O.sc K script_1939_)] e = some (((fun (bb : Bool) => [(O.sc K script_1939_)])) r)) (xv_VP (xv_VP (xv_PV' (a := (P.val ((encL encI) (cutG script_1939_ none (some (6 : Int)))))) (e2 := [some (O.sc K script_1939_), none, none, none]) ((bnd_eq (a := (List.map encI (cutG script_1939_ none (some (6 : Int))))) (e := [some (O.sc K script_1939_), none, none, none]) (xo_slS rfl rfl rfl)).trans rfl) (xv_PV' (a := (P.val ((encL encI) [(0 : Int)]))) (e2 := [some (O.sc K script_1939_), none, none, none]) rfl (xo_cat rfl rfl))) (fun b1940_ => rfl)) (fun b1940_ => rfl)) (fun b1940_ => ⟨_, _, _, rfl⟩) ?_ (fun _ r c e b h hp hb => by cases hb; exact hp) ?_
  · intro b1940_
    rintro a1941_ s1988_ _ ⟨u1989_, u1990_, u1991_, rfl⟩
    refine ⟨[some (O.sc K script_1939_), some (O.fz (encI a1941_)), u1990_, u1991_], rfl, ?_⟩
    refine sv_last ?_
    refine sv_assoc ?_
    refine sv_V (st := fun b1993_ => [some (O.sc K script_1939_), some (O.fz (encI a1941_)), some (O.ow [(encI (fst b1993_)), (encI (fst (snd b1993_))), (encB (snd (snd b1993_)))]), u1991_]) (xv_VP (xv_PV' (a := [(P.val (encI a1941_))]) (e2 := [some (O.sc K script_1939_), some (O.fz (encI a1941_)), u1990_, u1991_]) rfl (xo_call (tk__law_draws a1941_) rfl rfl rfl (fun _ => rfl))) (fun b1993_ => rfl)) ?_
    intro draws_1994_
    refine sv_forRV (en := encI) (st := fun b1995_ => [some (O.sc K script_1939_), some (O.fz (encI a1941_)), some (O.ow [(encI (fst draws_1994_)), (encI (fst (snd draws_1994_))), (encB (snd (snd draws_1994_)))]), u1991_]) (Q := fun b1995_ => fun (s2007_ : (Int × Int × Bool)) e2009_ => ∃ u2008_, e2009_ = [some (O.sc K script_1939_), some (O.fz (encI a1941_)), some (O.ow [(encI (fst s2007_)), (encI (fst (snd s2007_))), (encB (snd (snd s2007_)))]), u2008_]) (PR := fun _ r c e => (c = .rt ((((fun (bb : Bool) => (O.fz (encB bb)))) r)) ∨ (c = .nx ∧ (((fun (bb : Bool) => (O.fz (encB bb)))) r) = .fz .none)) ∧ mDef.finL [] [(O.sc K script_1939_)] e = some (((fun (bb : Bool) => [(O.sc K script_1939_)])) r)) (xv_PV' (a := [(P.val (encI (3 : Int)))]) (e2 := [some (O.sc K script_1939_), some (O.fz (encI a1941_)), some (O.ow [(encI (fst draws_1994_)), (encI (fst (snd draws_1994_))), (encB (snd (snd draws_1994_)))]), u1991_]) rfl xo_rng1) (fun b1995_ => ⟨_, rfl⟩) ?_ (fun _ r c e b h hp hb => by cases hb; exact ⟨h, hp⟩) ?_
    · intro b1995_
      rintro a1996_ s2007_ _ ⟨u2008_, rfl⟩
      refine ⟨[some (O.sc K script_1939_), some (O.fz (encI a1941_)), some (O.ow [(encI (fst s2007_)), (encI (fst (snd s2007_))), (encB (snd (snd s2007_)))]), some (O.fz (encI a1996_))], rfl, ?_⟩
      refine sv_last ?_
      refine sv_ifV (st := fun b2010_ => [some (O.sc K script_1939_), some (O.fz (encI a1941_)), some (O.ow [(encI (fst (snd b2010_))), (encI (fst (snd (snd b2010_)))), (encB (snd (snd (snd b2010_))))]), some (O.fz (encI a1996_))]) (xv_not (xv_VP (xv_VP (xv_PV' (a := [(P.var 2)]) (e2 := [some (O.sc K script_1939_), some (O.fz (encI a1941_)), some (O.ow [(encI (fst s2007_)), (encI (fst (snd s2007_))), (encB (snd (snd s2007_)))]), some (O.fz (encI a1996_))]) rfl (xo_call (tk__law_right s2007_) rfl rfl rfl (fun _ => rfl))) (fun b2010_ => rfl)) (fun b2010_ => rfl))) ?_ ?_
      · intro b2010_
        refine sv_let (v := (snd b2010_)) (E := fun (y2012_ : (Int × Int × Bool)) => [some (O.sc K script_1939_), some (O.fz (encI a1941_)), some (O.ow [(encI (fst y2012_)), (encI (fst (snd y2012_))), (encB (snd (snd y2012_)))]), some (O.fz (encI a1996_))]) ?_
        intro draws_2011_
        exact sv_exit (ct := (Ctl.rt (O.fz (encB false)))) (e := [some (O.sc K script_1939_), some (O.fz (encI a1941_)), some (O.ow [(encI (fst draws_2011_)), (encI (fst (snd draws_2011_))), (encB (snd (snd draws_2011_)))]), some (O.fz (encI a1996_))]) rfl (fun h => nomatch h) ⟨⟨_, rfl⟩, ⟨.inl rfl, rfl⟩⟩
      · intro b2010_
        refine sv_let (v := (snd b2010_)) (E := fun (y2014_ : (Int × Int × Bool)) => [some (O.sc K script_1939_), some (O.fz (encI a1941_)), some (O.ow [(encI (fst y2014_)), (encI (fst (snd y2014_))), (encB (snd (snd y2014_)))]), some (O.fz (encI a1996_))]) ?_
        intro draws_2013_
        refine sv_nx (e := [some (O.sc K script_1939_), some (O.fz (encI a1941_)), some (O.ow [(encI (fst draws_2013_)), (encI (fst (snd draws_2013_))), (encB (snd (snd draws_2013_)))]), some (O.fz (encI a1996_))]) rfl ?_
        exact sv_end ⟨.inl rfl, _, rfl⟩
    intro b1995_
    rintro draws_2015_ _ ⟨u2008_, rfl⟩
    exact sv_end ⟨.inl rfl, _, _, _, rfl⟩
  intro b1940_
  rintro s1988_ _ ⟨u1989_, u1990_, u1991_, rfl⟩
  exact sv_exit (ct := (Ctl.rt (O.fz (encB true)))) (e := [some (O.sc K script_1939_), u1989_, u1990_, u1991_]) rfl (fun h => nomatch h) ⟨.inl rfl, rfl⟩
end
end My
namespace My
open PySem PySem.Spec PyProof.Rows L2 Tr
open Prod (fst snd)
/-! ### asking -/
/-! ### the place of an item, from the end -/
end My
namespace My
open PySem PySem.Spec PyProof.Rows L2 Tr
open Prod (fst snd)
/-! ### the place of an item, by halves -/
section
variable {b : Int → Int → Bool} {x : Int} {xs : List Int} {f lo hi : Nat}
end
/-! ### item by item -/
end My
namespace My
open PySem PySem.Spec PyProof.Rows L2 Tr
open Prod (fst snd)
/-! ### merging -/
section
variable {b : Int → Int → Bool} {x y : Int} {xs ys : List Int}
end
end My
namespace My
open PySem PySem.Spec PyProof.Rows L2 Tr
open Prod (fst snd)
/-! ### parting -/
/-! ### choosing -/
end My
namespace My
open PySem PySem.Spec PyProof.Rows L2 Tr
open Prod (fst snd)
/-! ### bubbling -/
end My
namespace My
open PySem PySem.Spec PyProof.Rows L2 Tr
open Prod (fst snd)
/-! ### heaping -/
section
variable {b : Int → Int → Bool} {h : List Int} {p c f : Nat}
end
end My
namespace My
open PySem PySem.Spec PyProof.Rows L2 Tr
open Prod (fst snd)
end My
namespace My
open PySem PySem.Spec PyProof.Rows L2 Tr
open Prod (fst snd)
/-! ### the checks, the dict of sorts -/
structure Rl (r : List (List Int)) (n : Nat) : Prop extends Sq r n where
  val : ∀ row ∈ r, ∀ a ∈ row, -1 ≤ a ∧ a ≤ 1
  skew : ∀ x y, InR n x → InR n y → ansN r x y = -ansN r y x
structure Rw (row : List Int) (n : Nat) : Prop where
  len : row.length = n
  nd : row.Nodup
  inr : ∀ y ∈ row, InR n y
theorem forN_unit {α : Type} {body : α → Unit → Option Unit} : ∀ (xs : List α), (∀ x ∈ xs, body x () = some ()) → forN body xs () = some ()
  | [], _ => rfl
  | x :: xs, h => (forN_cons (h x (List.mem_cons_self ..))).trans (forN_unit xs fun y hy => h y (List.mem_cons_of_mem _ hy))
theorem enL_mem {α : Type} {xs : List α} {p : Int × α} (h : p ∈ enL xs) : ∃ k : Nat, p.1 = (k : Int) ∧ xs[k]? = some p.2 := by
  unfold enL at h
  obtain ⟨i, hi, e⟩ := List.mem_mapIdx.mp h
  exact ⟨i, by rw [← e], by rw [← e]; exact List.getElem?_eq_getElem hi⟩
theorem all_true {α : Type} {xs : List α} : (List.all (xs.map fun _ => true) id) = true := by
  rw [List.all_eq_true]
  intro x hx
  obtain ⟨_, _, rfl⟩ := List.mem_map.mp hx
  rfl
theorem cmpO_true {α : Type} {xs : List α} {elt : α → Option Bool} (hl : xs.length ≤ 1000000) (h : ∀ x ∈ xs, elt x = some true) : cmpO (fun _ => some true) elt xs = some (xs.map fun _ => true) := by
  have go : ∀ xs : List α, (∀ x ∈ xs, elt x = some true) → cmpOGo (fun _ => some true) elt xs = some (xs.map fun _ => true) := by
    intro xs
    induction xs with
    | nil => intro _; rfl
    | cons x xs ih =>
      intro h
      unfold cmpOGo
      simp only [Option.bind_some, if_true, h x (List.mem_cons_self ..), ih fun y hy => h y (List.mem_cons_of_mem _ hy), Option.map_some]
      rfl
  unfold cmpO
  rw [if_pos (le_line hl), go xs h]
theorem is_answer_ok {a : Int} (h : -1 ≤ a ∧ a ≤ 1) : t_is_answer a = some true := by
  unfold t_is_answer t_is_whole
  simp only [Option.map_some, Option.bind_some, Bool.not_false, Bool.and_true, if_true]
  rw [decide_eq_true (show -(1 : Int) ≤ a from h.1), decide_eq_true h.2]
  rfl
theorem check_rule_ok {r : List (List Int)} {n : Nat} (h : Rl r n) (hn : n ≤ 1000) : t_check_rule r = some () := by
  have hlen := h.len
  unfold t_check_rule
  have c1 : cmpT (fun (a14_ : List Int) => true) r = some (r.map fun _ => true) := by
    unfold cmpT
    rw [if_pos (le_line (by omega))]
  simp only [Bool.not_true, Bool.false_eq_true, if_false, c1, Option.map_some, Option.bind_some, all_true]
  rw [forN_unit (enL r) (fun p hp => ?_)]
  · simp only [Option.bind_some]
    rw [forN_unit (enL r) (fun p hp => ?_)]
    · rfl
    · obtain ⟨k, e1, e2⟩ := enL_mem hp
      rw [forN_unit (enL p.2) (fun q hq => ?_)]
      · rfl
      · obtain ⟨j, f1, f2⟩ := enL_mem hq
        have hk : k < r.length := (List.getElem?_eq_some_iff.mp e2).1
        have hrow : p.2.length = n := h.row _ (List.mem_of_getElem? e2)
        have hj : j < p.2.length := (List.getElem?_eq_some_iff.mp f2).1
        have ij : InR n (j : Int) := ⟨by omega, by omega⟩
        have ik : InR n (k : Int) := ⟨by omega, by omega⟩
        have sk := h.skew _ _ ik ij
        have ev : ansN r (k : Int) (j : Int) = q.2 := by
          unfold ansN
          have g1 : r.getD k [] = p.2 := by rw [List.getD_eq_getElem?_getD, e2]; rfl
          rw [Int.toNat_natCast, Int.toNat_natCast, g1, List.getD_eq_getElem?_getD, f2, Option.getD_some]
        rw [e1, f1, ans_at h.toSq ij ik]
        simp only [Option.bind_some]
        rw [ev] at sk
        rw [sk, decide_eq_true rfl]
        rfl
  · obtain ⟨k, e1, e2⟩ := enL_mem hp
    have hrow : p.2.length = n := h.row _ (List.mem_of_getElem? e2)
    have hv := h.val _ (List.mem_of_getElem? e2)
    have c2 := cmpO_true (xs := p.2) (elt := fun (a35_ : Int) => (t_is_answer a35_).map fun b36_ => b36_) (by omega) (fun a ha => by simp only [is_answer_ok (hv a ha), Option.map_some])
    have d : decide (((List.length p.2 : Nat) : Int) = ((List.length r : Nat) : Int)) = true := decide_eq_true (by rw [hrow, hlen])
    simp only [d, Bool.not_true, Bool.false_eq_true, if_false, c2, Option.map_some, Option.bind_some, all_true]
end My
namespace My
open PySem PySem.Spec PyProof.Rows L2 Tr
open Prod (fst snd)
/-! ### the draws -/
abbrev Dr : Type := Int × Int × Bool
structure DrOk (c : Int) (d : Dr) : Prop where
  b0 : 0 ≤ d.1
  k0 : 0 ≤ d.2.1
  kc : d.2.1 ≤ c
theorem DrOk.mono {c c' : Int} {d : Dr} (h : DrOk c d) (l : c ≤ c') : DrOk c' d := ⟨h.b0, h.k0, Int.le_trans h.kc l⟩
theorem fmod_in (a : Int) {m : Int} (h : 0 < m) : 0 ≤ a.fmod m ∧ a.fmod m < m := ⟨Int.fmod_nonneg_of_pos a h, Int.fmod_lt_of_pos a h⟩
theorem modI_of {i j : Int} (h : j ≠ 0) : modI i j = some (i.fmod j) := if_neg h
theorem log63 {i : Int} (h1 : -9223372036854775808 < i) (h2 : i < 9223372036854775808) : i.natAbs.log2 < 1000 := by
  by_cases e : i.natAbs = 0
  · rw [e]; decide
  · refine Nat.lt_trans ((Nat.log2_lt e (k := 63)).mpr ?_) (by decide)
    show i.natAbs < 9223372036854775808
    omega
theorem mulI_of {i j : Int} (h1 : -9223372036854775808 < i) (h2 : i < 9223372036854775808) (h3 : -9223372036854775808 < j) (h4 : j < 9223372036854775808) : mulI i j = some (i * j) := by
  have a := log63 h1 h2
  have b := log63 h3 h4
  exact if_pos (by omega)
theorem p1 : powI (10 : Int) (60 : Int) = some ((10 ^ 60 : Nat) : Int) := by decide +kernel
theorem p2 : powI ((10 ^ 60 : Nat) : Int) (60 : Int) = some ((10 ^ 3600 : Nat) : Int) := by decide +kernel
theorem p3 : powI ((10 ^ 3600 : Nat) : Int) (4 : Int) = some ((10 ^ 14400 : Nat) : Int) := by decide +kernel
theorem p4 : powI (10 : Int) (18 : Int) = some (1000000000000000000 : Int) := by decide +kernel
theorem p5 : powI (10 : Int) (6 : Int) = some (1000000 : Int) := by decide +kernel
theorem draws_of {B cell : Int} (hB : 0 < B) (h1 : powI ((10 ^ 3600 : Nat) : Int) (4 : Int) = some B) : ∃ d, t__law_draws cell = some d ∧ DrOk 0 d := by
  unfold t__law_draws
  rw [p1, Option.bind_some, p2, Option.map_some, Option.bind_some, h1, Option.map_some, Option.bind_some, modI_of (show B ≠ 0 by omega), Option.map_some, Option.bind_some, p4, Option.map_some, Option.map_some]
  exact ⟨_, rfl, ⟨(fmod_in cell hB).1, Int.le_refl _, Int.le_refl _⟩⟩
theorem draws_ok {cell : Int} : ∃ d, t__law_draws cell = some d ∧ DrOk 0 d := draws_of (B := ((10 ^ 14400 : Nat) : Int)) (by
  have : 0 < 10 ^ 14400 := Nat.pow_pos (by decide)
  exact Int.natCast_pos.mpr this) p3
theorem next_ok {c : Int} {d : Dr} (h : DrOk c d) (hc : c ≤ 100000) : ∃ v d', t__law_next d = some (v, d') ∧ 0 ≤ v ∧ DrOk (c + 1) d' := by
  obtain ⟨x, k, s⟩ := d
  have hx : 0 ≤ x := h.b0
  have hk : 0 ≤ k := h.k0
  have hk2 : k ≤ c := h.kc
  unfold t__law_next
  rw [Option.bind_some, Option.bind_some]
  cases s with
  | true =>
    rw [if_pos rfl, p5, Option.bind_some, modI_of (by decide), Option.map_some, Option.bind_some, Option.bind_some, Option.bind_some]
    have hf : fdivI x 1000000 = some (x.fdiv 1000000) := if_pos ⟨by decide, by decide⟩
    rw [hf, Option.map_some, Option.bind_some, Option.bind_some]
    exact ⟨_, _, rfl, (fmod_in x (by decide)).1, ⟨Int.fdiv_nonneg hx (by decide), by show 0 ≤ k + 1; omega, by show k + 1 ≤ c + 1; omega⟩⟩
  | false =>
    rw [if_neg Bool.false_ne_true]
    have hkk : 0 ≤ (k + 1) * (k + 1) := Int.mul_nonneg (by omega) (by omega)
    have hkl : (k + 1) * (k + 1) ≤ 100001 * 100001 := Int.mul_le_mul (by omega) (by omega) (by omega) (by omega)
    have m1 : mulI (k + 1) (k + 1) = some ((k + 1) * (k + 1)) := mulI_of (by omega) (by omega) (by omega) (by omega)
    have m2 : mulI ((k + 1) * (k + 1)) 7919 = some ((k + 1) * (k + 1) * 7919) := mulI_of (by omega) (by omega) (by omega) (by omega)
    have f1 := fmod_in x (show (0 : Int) < 1000003 by decide)
    have m3 : mulI (((Int.fmod x (1000003 : Int)) + ((k + 1) * (k + 1) * 7919)) + (k + 1)) (48271 : Int) = some ((((Int.fmod x (1000003 : Int)) + ((k + 1) * (k + 1) * 7919)) + (k + 1)) * 48271) := mulI_of (by omega) (by omega) (by omega) (by omega)
    have f2 := fmod_in ((((Int.fmod x (1000003 : Int)) + ((k + 1) * (k + 1) * 7919)) + (k + 1)) * 48271) (show (0 : Int) < 2147483629 by decide)
    simp only [Option.bind_some, m1, m2, Option.map_some, m3]
    generalize Int.fmod ((((Int.fmod x (1000003 : Int)) + ((k + 1) * (k + 1) * 7919)) + (k + 1)) * 48271) 2147483629 = u at f2 ⊢
    have m4 : mulI u u = some (u * u) := mulI_of (by omega) (by omega) (by omega) (by omega)
    have f3 := fmod_in (u * u) (show (0 : Int) < 2147483587 by decide)
    simp only [m4, Option.bind_some]
    generalize Int.fmod (u * u) 2147483587 = w at f3 ⊢
    have m5 : mulI w (w + 2) = some (w * (w + 2)) := mulI_of (by omega) (by omega) (by omega) (by omega)
    simp only [m5, Option.map_some]
    exact ⟨_, _, rfl, Int.fdiv_nonneg (fmod_in _ (by decide)).1 (by decide), ⟨hx, by show 0 ≤ k + 1; omega, by show k + 1 ≤ c + 1; omega⟩⟩
/-! ### the drawn row -/
end My
namespace My
open PySem PySem.Spec PyProof.Rows L2 Tr
open Prod (fst snd)
/-! ### the drawn rule -/
theorem cmpO_map {α β : Type} {xs : List α} {elt : α → Option β} {f : α → β} (hl : xs.length ≤ 1000000) (h : ∀ x ∈ xs, elt x = some (f x)) : cmpO (fun _ => some true) elt xs = some (xs.map f) := by
  have go : ∀ xs : List α, (∀ x ∈ xs, elt x = some (f x)) → cmpOGo (fun _ => some true) elt xs = some (xs.map f) := by
    intro xs
    induction xs with
    | nil => intro _; rfl
    | cons x xs ih =>
      intro h
      unfold cmpOGo
      simp only [Option.bind_some, if_true, h x (List.mem_cons_self ..), ih fun y hy => h y (List.mem_cons_of_mem _ hy), Option.map_some]
      rfl
  unfold cmpO
  rw [if_pos (le_line hl), go xs h]
theorem cmpG_draws {n : Nat} {elt : Int → Dr → Option (Int × Dr)} (h : ∀ a c d, DrOk c d → c ≤ 90000 → ∃ v d', elt a d = some (v, d') ∧ 0 ≤ v ∧ v < (n : Int) ∧ DrOk (c + 1) d') :
    ∀ (xs : List Int) (c : Int) (d : Dr), DrOk c d → c + xs.length ≤ 90000 → xs.length ≤ 1000 → ∃ ws d', cmpG (fun _ s => some (true, s)) elt xs d = some (ws, d') ∧ ws.length = xs.length ∧ (∀ w ∈ ws, 0 ≤ w ∧ w < (n : Int)) ∧ DrOk (c + xs.length) d' := by
  have go : ∀ (xs : List Int) (c : Int) (d : Dr), DrOk c d → c + xs.length ≤ 90000 → ∃ ws d', cmpGo (fun _ s => some (true, s)) elt xs d = some (ws, d') ∧ ws.length = xs.length ∧ (∀ w ∈ ws, 0 ≤ w ∧ w < (n : Int)) ∧ DrOk (c + xs.length) d' := by
    intro xs
    induction xs with
    | nil => intro c d hd _; exact ⟨[], d, rfl, rfl, (fun w hw => nomatch hw), hd.mono (by show c ≤ c + ((0 : Nat) : Int); omega)⟩
    | cons x xs ih =>
      intro c d hd hc
      rw [List.length_cons] at hc ⊢
      obtain ⟨v, d1, e1, v0, v1, hd1⟩ := h x c d hd (by omega)
      obtain ⟨ws, d2, e2, l, hw, hd2⟩ := ih (c + 1) d1 hd1 (by omega)
      refine ⟨v :: ws, d2, ?_, by rw [List.length_cons, l], fun w hm => ?_, hd2.mono (by omega)⟩
      · unfold cmpGo
        rw [Option.bind_some, if_pos rfl, e1, Option.bind_some, e2]
        rfl
      · rcases List.mem_cons.mp hm with e | e
        · rw [e]; exact ⟨v0, v1⟩
        · exact hw w e
  intro xs c d hd hc hl
  obtain ⟨ws, d', e, r⟩ := go xs c d hd hc
  refine ⟨ws, d', ?_, r⟩
  unfold cmpG
  rw [if_pos (le_line (by omega)), e]
/-- a table told so far -/
structure Tb (t : List (List Int)) (n : Nat) : Prop extends Sq t n where
  val : ∀ x y, InR n x → InR n y → -1 ≤ ansN t x y ∧ ansN t x y ≤ 1
  skew : ∀ x y, InR n x → InR n y → ansN t x y = -ansN t y x
theorem ans_el {t : List (List Int)} {n : Nat} (h : Sq t n) {row : List Int} (hr : row ∈ t) {a : Int} (ha : a ∈ row) : ∃ x y, InR n x ∧ InR n y ∧ ansN t x y = a := by
  obtain ⟨i, hi, e1⟩ := List.getElem_of_mem hr
  obtain ⟨j, hj, e2⟩ := List.getElem_of_mem ha
  have l := h.row _ hr
  have ht := h.len
  refine ⟨(i : Int), (j : Int), ⟨by omega, by omega⟩, ⟨by omega, by omega⟩, ?_⟩
  unfold ansN
  have g1 : t.getD i [] = row := by rw [List.getD_eq_getElem?_getD, List.getElem?_eq_getElem hi, e1]; rfl
  rw [Int.toNat_natCast, Int.toNat_natCast, g1, List.getD_eq_getElem?_getD, List.getElem?_eq_getElem hj, e2]
  rfl
theorem Tb.rl {t : List (List Int)} {n : Nat} (h : Tb t n) : Rl t n := ⟨h.toSq, fun row hr a ha => by
  obtain ⟨x, y, hx, hy, e⟩ := ans_el h.toSq hr ha
  rw [← e]
  exact h.val x y hx hy, h.skew⟩
theorem set2_ok {t : List (List Int)} {n : Nat} {i k x : Int} (h : Sq t n) (hi : InR n i) (hk : InR n k) : ∃ t', set2G t i k x = some t' ∧ Sq t' n ∧ ∀ u v, InR n u → InR n v → ansN t' u v = if u = i ∧ v = k then x else ansN t u v := by
  have hlen := h.len
  have i1 : i = ((i.toNat : Nat) : Int) := (Int.toNat_of_nonneg hi.1).symm
  have k1 : k = ((k.toNat : Nat) : Int) := (Int.toNat_of_nonneg hk.1).symm
  have i2 : i.toNat < t.length := by have := hi.2; omega
  have hrow : (t[i.toNat]).length = n := h.row _ (List.getElem_mem _)
  have k2 : k.toNat < (t[i.toNat]).length := by have := hk.2; omega
  have e : set2G t i k x = some (t.set i.toNat ((t[i.toNat]).set k.toNat x)) := by
    have ii : ixN t.length i = some i.toNat := by
      conv => lhs; rw [i1]
      exact ixN_nat i2
    have kk : ixN (t[i.toNat]).length k = some k.toNat := by
      conv => lhs; rw [k1]
      exact ixN_nat k2
    unfold set2G
    rw [ii, Option.bind_some, List.getElem?_eq_getElem i2, Option.bind_some, kk]
    rfl
  refine ⟨_, e, ⟨by rw [List.length_set, hlen], fun row hr => ?_⟩, fun u v hu hv => ?_⟩
  · rcases List.mem_or_eq_of_mem_set hr with m | m
    · exact h.row _ m
    · rw [m, List.length_set, hrow]
  · have u1 : u = ((u.toNat : Nat) : Int) := (Int.toNat_of_nonneg hu.1).symm
    have v1 : v = ((v.toNat : Nat) : Int) := (Int.toNat_of_nonneg hv.1).symm
    have u2 : u.toNat < t.length := by have := hu.2; omega
    unfold ansN
    rw [List.getD_eq_getElem?_getD, List.getD_eq_getElem?_getD, List.getD_eq_getElem?_getD, List.getD_eq_getElem?_getD, List.getElem?_set]
    by_cases e1 : i.toNat = u.toNat
    · rw [if_pos e1, if_pos (by omega), Option.getD_some, List.getElem?_set]
      by_cases e2 : k.toNat = v.toNat
      · rw [if_pos e2, if_pos (by omega), Option.getD_some, if_pos ⟨by omega, by omega⟩]
      · rw [if_neg e2, if_neg (fun q => e2 (by rw [q.2])), ← e1, List.getElem?_eq_getElem i2, Option.getD_some]
    · rw [if_neg e1, if_neg (fun q => e1 (by rw [q.1]))]
theorem set_two {t : List (List Int)} {n : Nat} {i k x : Int} (h : Tb t n) (hi : InR n i) (hk : InR n k) (hik : i ≠ k) (hx : -1 ≤ x ∧ x ≤ 1) : ∃ t1 t2, set2G t i k x = some t1 ∧ set2G t1 k i (-x) = some t2 ∧ Tb t2 n := by
  obtain ⟨t1, e1, s1, a1⟩ := set2_ok (x := x) h.toSq hi hk
  obtain ⟨t2, e2, s2, a2⟩ := set2_ok (x := -x) s1 hk hi
  have a : ∀ u v, InR n u → InR n v → ansN t2 u v = if u = k ∧ v = i then -x else if u = i ∧ v = k then x else ansN t u v := fun u v hu hv => by rw [a2 u v hu hv, a1 u v hu hv]
  refine ⟨t1, t2, e1, e2, s2, fun u v hu hv => ?_, fun u v hu hv => ?_⟩
  · rw [a u v hu hv]
    split
    · omega
    · split
      · exact hx
      · exact h.val u v hu hv
  · rw [a u v hu hv, a v u hv hu]
    by_cases c1 : u = k ∧ v = i
    · rw [if_pos c1, if_neg (fun q => hik (by rw [← q.2, c1.1])), if_pos ⟨c1.2, c1.1⟩]
    · rw [if_neg c1]
      by_cases c2 : u = i ∧ v = k
      · rw [if_pos c2, if_pos ⟨c2.2, c2.1⟩, Int.neg_neg]
      · rw [if_neg c2, if_neg (fun q => c2 ⟨q.2, q.1⟩), if_neg (fun q => c1 ⟨q.2, q.1⟩)]
        exact h.skew u v hu hv
theorem two_at {i : Int} (h0 : 0 ≤ i) (h1 : i < 2) : ∃ a, atI [(-(1 : Int)), (1 : Int)] i = some a ∧ -1 ≤ a ∧ a ≤ 1 := by
  have : i = 0 ∨ i = 1 := by omega
  rcases this with e | e <;> subst e
  · exact ⟨_, rfl, by decide, by decide⟩
  · exact ⟨_, rfl, by decide, by decide⟩
theorem ite01 (b : Bool) : (if b = true then (1 : Int) else 0) = 0 ∨ (if b = true then (1 : Int) else 0) = 1 := by cases b <;> simp
/-- one answer -/
theorem answer_ok {c : Int} {d : Dr} {n : Nat} {ws : List Int} {kind one other a0 : Int} (h : DrOk c d) (hc : c ≤ 90000) (ha : -1 ≤ a0 ∧ a0 ≤ 1) (hw : ws.length = n) (h1 : InR n one) (h2 : InR n other) :
    ∃ d' a, ((if (decide (kind < (2 : Int))) = true then (((t__law_next d).bind fun b2713_ => (atI [(-(1 : Int)), (1 : Int)] (Int.fmod (fst b2713_) (2 : Int))).map fun b2714_ => (b2713_, b2714_)).bind fun q2715_ => (some (snd q2715_)).bind fun (answer_2716_ : Int) => (some (snd (fst q2715_))).bind fun (draws_2718_ : (Int × Int × Bool)) => some (draws_2718_, answer_2716_)) else ((if (decide (kind < (5 : Int))) = true then (((atI ws one).bind fun b2747_ => (atI ws other).map fun b2748_ => (b2747_, b2748_)).bind fun q2749_ => (some (if (decide ((kind - (3 : Int)) < (if ((fst q2749_) - (snd q2749_)) < 0 then -((fst q2749_) - (snd q2749_)) else ((fst q2749_) - (snd q2749_))))) = true then (1 : Int) else 0)).bind fun (near_2750_ : Int) => ((((atI ws one).bind fun b2752_ => (atI ws other).map fun b2753_ => (b2752_, b2753_)).bind fun q2754_ => (mulI (2 : Int) (if (decide ((fst q2754_) < (snd q2754_))) = true then (1 : Int) else 0)).map fun b2755_ => (q2754_, b2755_)).bind fun q2756_ => (mulI ((1 : Int) - (snd q2756_)) near_2750_).map fun b2757_ => (q2756_, b2757_)).bind fun q2758_ => (some (snd q2758_)).bind fun (answer_2759_ : Int) => ((if (decide (kind = (3 : Int))) = true then ((t__law_next d).map fun b2761_ => ((decide ((Int.fmod (fst b2761_) (7 : Int)) = (0 : Int))), (snd b2761_))) else some (false, d)).bind fun b2762_ => if (fst b2762_) = true then ((some (-answer_2759_)).bind fun (answer_2766_ : Int) => some ((snd b2762_), answer_2766_)) else (some ((snd b2762_), answer_2759_))).bind fun (s2768_ : ((Int × Int × Bool) × Int)) => (some (fst s2768_)).bind fun (draws_2770_ : (Int × Int × Bool)) => (some (snd s2768_)).bind fun (answer_2772_ : Int) => some (draws_2770_, answer_2772_)) else (some (d, a0))).bind fun (s2774_ : ((Int × Int × Bool) × Int)) => (some (fst s2774_)).bind fun (draws_2777_ : (Int × Int × Bool)) => (some (snd s2774_)).bind fun (answer_2779_ : Int) => some (draws_2777_, answer_2779_))) : Option (Dr × Int)) = some (d', a) ∧ -1 ≤ a ∧ a ≤ 1 ∧ DrOk (c + 1) d' := by
  obtain ⟨v, d1, e1, v0, hd1⟩ := next_ok h (by omega)
  by_cases k2 : kind < 2
  · rw [if_pos (decide_eq_true k2), e1, Option.bind_some]
    have f := fmod_in v (show (0 : Int) < 2 by decide)
    obtain ⟨a, e2, a0, a1⟩ := two_at f.1 f.2
    show ∃ d' a, ((Option.map _ (atI _ (Int.fmod v 2))).bind _) = some (d', a) ∧ _
    rw [e2]
    exact ⟨d1, a, rfl, a0, a1, hd1⟩
  · rw [if_neg (by rw [decide_eq_false k2]; exact Bool.false_ne_true)]
    by_cases k5 : kind < 5
    · rw [if_pos (decide_eq_true k5)]
      have w1 : atI ws one = some _ := atI_int h1.1 (by rw [hw]; exact h1.2)
      have w2 : atI ws other = some _ := atI_int h2.1 (by rw [hw]; exact h2.2)
      rw [w1, w2]
      generalize ws[one.toNat]'_ = p
      generalize ws[other.toNat]'_ = q
      simp only [Option.bind_some, Option.map_some]
      generalize hnear : (if (decide ((kind - (3 : Int)) < (if (p - q) < 0 then -(p - q) else (p - q)))) = true then (1 : Int) else 0) = near
      have near1 : near = 0 ∨ near = 1 := by
        rw [← hnear]
        exact ite01 _
      generalize hlt : (if (decide (p < q)) = true then (1 : Int) else 0) = lt
      have lt1 : lt = 0 ∨ lt = 1 := by
        rw [← hlt]
        exact ite01 _
      have m1 : mulI 2 lt = some (2 * lt) := mulI_of (by decide) (by decide) (by omega) (by omega)
      have m2 : mulI (1 - 2 * lt) near = some ((1 - 2 * lt) * near) := mulI_of (by omega) (by omega) (by omega) (by omega)
      have val : -1 ≤ (1 - 2 * lt) * near ∧ (1 - 2 * lt) * near ≤ 1 := by
        rcases near1 with e | e <;> rcases lt1 with g | g <;> subst e <;> subst g <;> decide
      simp only [m1, Option.bind_some, Option.map_some, m2]
      generalize (1 - 2 * lt) * near = A at val ⊢
      by_cases k3 : kind = 3
      · rw [if_pos (decide_eq_true k3), e1, Option.map_some, Option.bind_some]
        cases hz : decide ((Int.fmod v (7 : Int)) = (0 : Int)) with
        | true =>
          rw [if_pos rfl]
          exact ⟨d1, -A, rfl, by omega, by omega, hd1⟩
        | false =>
          rw [if_neg Bool.false_ne_true]
          exact ⟨d1, A, rfl, val.1, val.2, hd1⟩
      · rw [if_neg (by rw [decide_eq_false k3]; exact Bool.false_ne_true), Option.bind_some, if_neg Bool.false_ne_true]
        exact ⟨d, A, rfl, val.1, val.2, h.mono (by omega)⟩
    · rw [if_neg (by rw [decide_eq_false k5]; exact Bool.false_ne_true), Option.bind_some]
      exact ⟨d, a0, rfl, ha.1, ha.2, h.mono (by omega)⟩
end My
namespace My
open PySem PySem.Spec PyProof.Rows L2 Tr
open Prod (fst snd)
theorem forN_bind {α β σ : Type} {body : α → σ → Option σ} {F : σ → Option β} {P : β → Prop} {xs : List α} {s0 : σ} (I : Nat → σ → Prop) (h0 : I 0 s0) (hs : ∀ (j : Nat) (x : α) (s : σ), x ∈ xs → j < xs.length → I j s → ∃ s', body x s = some s' ∧ I (j + 1) s') (hF : ∀ s', I xs.length s' → ∃ b, F s' = some b ∧ P b) : ∃ b, (forN body xs s0).bind F = some b ∧ P b := by
  obtain ⟨s', g1, g2⟩ := forN_inv I xs 0 s0 h0 (fun j x s hm hj hi => by
    rw [Nat.zero_add] at hi ⊢
    exact hs j x s hm (List.getElem?_eq_some_iff.mp hj).1 hi)
  rw [Nat.zero_add] at g2
  obtain ⟨b, h1, h2⟩ := hF s' g2
  exact ⟨b, by rw [g1, Option.bind_some, h1], h2⟩
theorem rep0 {n : Nat} (hn : n ≤ 14) : ∃ Z : List Int, repG [(0 : Int)] (n : Int) = some Z ∧ Z.length = n ∧ ∀ a ∈ Z, a = 0 := by
  refine ⟨_, by unfold repG; rw [if_pos ⟨by omega, by omega, by rw [Int.toNat_natCast]; exact le_line (by rw [List.length_singleton]; omega)⟩], ?_, ?_⟩
  · rw [Int.toNat_natCast]
    induction n with
    | zero => rfl
    | succ n ih => rw [List.replicate_succ, List.flatten_cons, List.length_append, ih (by omega), List.length_singleton]; omega
  · intro a ha
    rw [List.mem_flatten] at ha
    obtain ⟨l, hl, ha⟩ := ha
    rw [List.eq_of_mem_replicate hl] at ha
    exact List.mem_singleton.mp ha
theorem tb0 {n : Nat} {Z : List Int} (h1 : Z.length = n) (h2 : ∀ a ∈ Z, a = 0) : Tb ((rangeL 0 n).map fun _ => Z) n := by
  have sq : Sq ((rangeL 0 n).map fun _ => Z) n := ⟨by rw [List.length_map, rangeL_len], fun row hr => by
    obtain ⟨_, _, rfl⟩ := List.mem_map.mp hr
    exact h1⟩
  have z : ∀ x y, InR n x → InR n y → ansN ((rangeL 0 n).map fun _ => Z) x y = 0 := by
    intro x y hx hy
    unfold ansN
    have hx1 := hx.1
    have hx2 := hx.2
    have hy1 := hy.1
    have hy2 := hy.2
    have l : x.toNat < ((rangeL 0 n).map fun _ => Z).length := by rw [List.length_map, rangeL_len]; omega
    have g1 : ((rangeL 0 n).map fun _ => Z).getD x.toNat [] = Z := by
      rw [List.getD_eq_getElem?_getD, List.getElem?_eq_getElem l, Option.getD_some, List.getElem_map]
    rw [g1, List.getD_eq_getElem?_getD, List.getElem?_eq_getElem (show y.toNat < Z.length by omega), Option.getD_some]
    exact h2 _ (List.getElem_mem _)
  exact ⟨sq, fun x y hx hy => by rw [z x y hx hy]; decide, fun x y hx hy => by rw [z x y hx hy, z y x hy hx]; rfl⟩
theorem law_rule_ok {c : Int} {d : Dr} {n : Nat} (h : DrOk c d) (hc : c ≤ 50000) (hc0 : 0 ≤ c) (hn : n ≤ 14) : ∃ b, t__law_rule d (n : Int) = some b ∧ (Rl b.1 n ∧ DrOk (c + 1000) b.2) := by
  obtain ⟨v, d1, e1, v0, hd1⟩ := next_ok h (by omega)
  obtain ⟨Z, z1, z2, z3⟩ := rep0 hn
  have zz := cmpO_map (xs := rangeL 0 n) (elt := fun (a1350_ : Int) => (repG [(0 : Int)] (n : Int)).map fun b1351_ => b1351_) (f := fun _ => Z) (by rw [rangeL_len]; omega) (fun x _ => by simp only [z1, Option.map_some])
  obtain ⟨ws, d2, e2, w1, w2, hd2⟩ := cmpG_draws (n := n + 3) (elt := fun (a1357_ : Int) (s1361_ : Dr) => (((t__law_next s1361_).bind fun b1362_ => (modI (fst b1362_) ((n : Int) + (3 : Int))).map fun b1363_ => (b1362_, b1363_)).map fun q1364_ => ((snd q1364_), (snd (fst q1364_))))) (fun a c d hd hc => by
    obtain ⟨v, d', e, v0, hd'⟩ := next_ok hd (by omega)
    have f := fmod_in v (show (0 : Int) < (n : Int) + 3 by omega)
    exact ⟨_, d', by simp only [e, Option.bind_some, modI_of (show (n : Int) + 3 ≠ 0 by omega), Option.map_some], f.1, by omega, hd'⟩) (rangeL 0 n) (c + 1) d1 hd1 (by rw [rangeL_len]; omega) (by rw [rangeL_len]; omega)
  rw [rangeL_len] at w1 hd2
  have r1 := rng1_of (show n < 2 ^ 62 by omega)
  unfold t__law_rule
  rw [e1, Option.bind_some, Option.bind_some, Option.bind_some, r1, Option.bind_some, zz, Option.map_some, Option.bind_some, Option.bind_some, Option.bind_some, e2, Option.map_some, Option.bind_some, Option.bind_some, Option.bind_some, Option.bind_some]
  refine forN_bind (fun j s => Tb s.2 n ∧ DrOk (c + 1 + n + 30 * j) s.1) ⟨tb0 z2 z3, hd2.mono (by omega)⟩ (fun j one s hm hj hI => ?_) (fun s' hI => ?_)
  · rw [rangeL_len] at hj
    have hone := rangeL_mem.mp hm
    have ione : InR n one := ⟨by omega, by omega⟩
    have r2 : rng2 (one + 1) (n : Int) = some (rangeL (one + 1) ((n : Int) - (one + 1)).toNat) := if_pos ⟨by omega, by omega, by omega, by omega⟩
    have hl : (rangeL (one + 1) ((n : Int) - (one + 1)).toNat).length ≤ 14 := by rw [rangeL_len]; omega
    rw [Option.bind_some, Option.bind_some, r2, Option.bind_some]
    refine forN_bind (fun i s => Tb s.2 n ∧ DrOk (c + 1 + n + 30 * j + 2 * i) s.1) ⟨hI.1, hI.2.mono (by omega)⟩ (fun i other s hm2 hi hI2 => ?_) (fun s' hI2 => ?_)
    · have hoth := rangeL_mem.mp hm2
      have ioth : InR n other := ⟨by omega, by omega⟩
      obtain ⟨u, d3, e3, u0, hd3⟩ := next_ok hI2.2 (by omega)
      have f := fmod_in u (show (0 : Int) < 3 by decide)
      obtain ⟨d4, a, e4, a1, a2, hd4⟩ := answer_ok (ws := ws) (kind := Int.fmod v (6 : Int)) (a0 := Int.fmod u 3 - 1) hd3 (by omega) ⟨by omega, by omega⟩ w1 ione ioth
      obtain ⟨t1, t2, s1, s2, tb⟩ := set_two hI2.1 ione ioth (by omega) ⟨a1, a2⟩
      rw [Option.bind_some, Option.bind_some, e3, Option.bind_some, Option.bind_some, Option.bind_some]
      refine ⟨(d4, t2), ?_, tb, hd4.mono (by omega)⟩
      refine (congrArg (fun z => Option.bind z _) e4).trans ?_
      rw [Option.bind_some, Option.bind_some, Option.bind_some]
      show ((set2G s.2 one other a).bind _) = _
      rw [s1, Option.bind_some, s2, Option.bind_some]
    · exact ⟨_, rfl, hI2.1, hI2.2.mono (by omega)⟩
  · rw [rangeL_len] at hI
    exact ⟨_, rfl, hI.1.rl, hI.2.mono (by omega)⟩
end My
namespace My
open PySem PySem.Spec PyProof.Rows L2 Tr
open Prod (fst snd)
/-! ### the texts -/
theorem textFrom_le {m : Nat} : ∀ (ts : List Str) (k : Nat) (acc : Str), (∀ t ∈ ts, t.length ≤ m) → (textFrom k acc ts).length ≤ acc.length + ts.length * (m + 2)
  | [], _, acc, _ => by show acc.length ≤ acc.length + 0 * (m + 2); omega
  | t :: r, k, acc, h => by
    have ih := textFrom_le r (k + 1) (acc ++ (if k > 0 then ", " else "" : String) ++ t) fun u hu => h u (by simp [hu])
    have e : (acc ++ (if k > 0 then ", " else "" : String) ++ t).length = acc.length + (if k > 0 then 2 else 0) + t.length := by
      rw [strLen_append, strLen_append]
      split <;> rfl
    have ht := h t (by simp)
    have hs : (if k > 0 then 2 else 0 : Nat) ≤ 2 := by split <;> omega
    rw [e] at ih
    show (textFrom (k + 1) _ r).length ≤ acc.length + (r.length + 1) * (m + 2)
    rw [Nat.add_mul]
    omega
theorem listText_le {m : Nat} {ts : List Str} (h : ∀ t ∈ ts, t.length ≤ m) : (listText ts).length ≤ 2 + ts.length * (m + 2) := by
  have := textFrom_le ts 0 "[" h
  unfold listText
  rw [strLen_append]
  have e1 : ("[" : Str).length = 1 := rfl
  have e2 : ("]" : Str).length = 1 := rfl
  omega
theorem reprDs_map : ∀ ds : List PyData, reprDs ds = ds.map reprD
  | [] => rfl
  | d :: ds => by show reprD d :: reprDs ds = _; rw [reprDs_map ds]; rfl
theorem reprOks_all : ∀ {ds : List PyData}, (∀ d ∈ ds, reprOk d = true) → reprOks ds = true
  | [], _ => rfl
  | d :: ds, h => by
    show (reprOk d && reprOks ds) = true
    rw [h d (by simp), reprOks_all fun e he => h e (by simp [he])]
    rfl
theorem deepDs_le {m : Nat} : ∀ {ds : List PyData}, (∀ d ∈ ds, deepD d ≤ m) → deepDs ds ≤ m
  | [], _ => Nat.zero_le _
  | d :: ds, h => by
    show max (deepD d) (deepDs ds) ≤ m
    exact Nat.max_le.mpr ⟨h d (by simp), deepDs_le fun e he => h e (by simp [he])⟩
theorem strOk_app {a b : Str} (ha : PyData.strOk a = true) (hb : PyData.strOk b = true) : PyData.strOk (a ++ b) = true := by
  unfold PyData.strOk at *
  show (a.cps ++ b.cps).all _ = true
  rw [Array.all_append, ha, hb]
  rfl
theorem textFrom_ok : ∀ (ts : List Str) (k : Nat) (acc : Str), PyData.strOk acc = true → (∀ t ∈ ts, PyData.strOk t = true) → PyData.strOk (textFrom k acc ts) = true
  | [], _, _, h, _ => h
  | t :: r, k, acc, h, ht => textFrom_ok r (k + 1) _ (strOk_app (strOk_app h (by split <;> decide +kernel)) (ht t (by simp))) fun u hu => ht u (by simp [hu])
theorem listText_ok {ts : List Str} (h : ∀ t ∈ ts, PyData.strOk t = true) : PyData.strOk (listText ts) = true := strOk_app (textFrom_ok ts 0 _ (by decide +kernel) h) (by decide +kernel)
def Rep (k L : Nat) (d : PyData) : Prop := reprOk d = true ∧ deepD d ≤ k ∧ (reprD d).length ≤ L ∧ PyData.strOk (reprD d) = true
theorem rep_tab : ((List.range 101).all fun k => PyData.strOk (reprD (.int ((k : Int) - 1))) && decide ((reprD (.int ((k : Int) - 1))).length ≤ 2) && reprOk (.int ((k : Int) - 1))) = true := by decide +kernel
theorem rep_int {i : Int} (h0 : -1 ≤ i) (h1 : i < 100) : Rep 0 2 (.int i) := by
  have := List.all_eq_true.mp rep_tab (i + 1).toNat (List.mem_range.mpr (by omega))
  have e : (((i + 1).toNat : Nat) : Int) - 1 = i := by omega
  rw [e] at this
  simp only [Bool.and_eq_true, decide_eq_true_eq] at this
  exact ⟨this.2, Nat.le_refl _, this.1.2, this.1.1⟩
theorem rep_list {k L : Nat} {ds : List PyData} (h : ∀ d ∈ ds, Rep k L d) : Rep (k + 1) (2 + ds.length * (L + 2)) (.list ds) := by
  refine ⟨reprOks_all fun d hd => (h d hd).1, Nat.succ_le_succ (deepDs_le fun d hd => (h d hd).2.1), ?_, ?_⟩
  · show (listText (reprDs _)).length ≤ _
    rw [reprDs_map]
    have := listText_le (m := L) (ts := ds.map reprD) fun t ht => by
      obtain ⟨d, hd, rfl⟩ := List.mem_map.mp ht
      exact (h d hd).2.2.1
    rw [List.length_map] at this
    exact this
  · show PyData.strOk (listText (reprDs _)) = true
    rw [reprDs_map]
    exact listText_ok fun t ht => by
      obtain ⟨d, hd, rfl⟩ := List.mem_map.mp ht
      exact (h d hd).2.2.2
theorem rep_G {k L : Nat} {d : PyData} (h : Rep k L d) (ht : isTup d = false) (hk : k ≤ 60) (hL : L ≤ 1000000) : reprG d = some (reprD d) := if_pos ⟨ht, h.1, Nat.le_trans h.2.1 hk, le_line (Nat.le_trans h.2.2.1 hL)⟩
theorem eqS_self {s : Str} (h : PyData.strOk s = true) : eqS s s = some true := by
  have q : SeqAt.shaped (.str s) = true := by
    unfold SeqAt.shaped PyData.canLay0 PyData.depth
    rw [h]
    rfl
  unfold eqS
  rw [if_pos ⟨q, q⟩]
  simp
end My
namespace My
open PySem PySem.Spec PyProof.Rows L2 Tr
open Prod (fst snd)
def PL (x y a : Int) : Str := (t_pair_line x y a).getD Str.empty
def SG (a : Int) : Str := (atI [(Str.ofString " = "), (Str.ofString " > "), (Str.ofString " < ")] a).getD Str.empty
def NL : Str := Str.ofString "
"
def lineOk (x y a : Int) : Bool := decide (t_pair_line x y a = some (PL x y a)) && decide ((PL x y a).length ≤ 20) && decide (10 ∉ TL.tl (PL x y a)) && decide (t_parse_answer (PL x y a) x y = some (some a)) &&
  decide (atI [(Str.ofString " = "), (Str.ofString " > "), (Str.ofString " < ")] a = some (SG a)) && decide (addSG (strI x) (SG a) = some (strI x ++ SG a)) && decide (addSG (strI x ++ SG a) (strI y) = some (PL x y a))
theorem lines_all : ∀ x < 12, ∀ y < 12, (lineOk (x : Nat) (y : Nat) (-1) && lineOk (x : Nat) (y : Nat) 0 && lineOk (x : Nat) (y : Nat) 1) = true := by decide +kernel
structure LineOk (x y a : Int) : Prop where
  pl : t_pair_line x y a = some (PL x y a)
  len : (PL x y a).length ≤ 20
  nl : 10 ∉ TL.tl (PL x y a)
  pa : t_parse_answer (PL x y a) x y = some (some a)
  sg : atI [(Str.ofString " = "), (Str.ofString " > "), (Str.ofString " < ")] a = some (SG a)
  a1 : addSG (strI x) (SG a) = some (strI x ++ SG a)
  a2 : addSG (strI x ++ SG a) (strI y) = some (PL x y a)
theorem lineOk_of {x y a : Int} (h : lineOk x y a = true) : LineOk x y a := by
  unfold lineOk at h
  simp only [Bool.and_eq_true, decide_eq_true_eq] at h
  obtain ⟨⟨⟨⟨⟨⟨h1, h2⟩, h3⟩, h4⟩, h5⟩, h6⟩, h7⟩ := h
  exact ⟨h1, h2, h3, h4, h5, h6, h7⟩
theorem line_ok {n : Nat} {x y a : Int} (hn : n ≤ 12) (hx : InR n x) (hy : InR n y) (ha : -1 ≤ a ∧ a ≤ 1) : LineOk x y a := by
  obtain ⟨i, rfl⟩ : ∃ i : Nat, x = (i : Int) := ⟨x.toNat, (Int.toNat_of_nonneg hx.1).symm⟩
  obtain ⟨j, rfl⟩ : ∃ j : Nat, y = (j : Int) := ⟨y.toNat, (Int.toNat_of_nonneg hy.1).symm⟩
  have q1 := hx.2
  have q2 := hy.2
  have h := lines_all i (by omega) j (by omega)
  simp only [Bool.and_eq_true] at h
  have e : a = -1 ∨ a = 0 ∨ a = 1 := by omega
  rcases e with rfl | rfl | rfl
  · exact lineOk_of h.1.1
  · exact lineOk_of h.1.2
  · exact lineOk_of h.2
theorem sizes_all : ∀ n < 13, (decide (strG (n : Nat) = some (strI (n : Nat))) && decide ((strI (n : Nat)).length ≤ 20) && decide (10 ∉ TL.tl (strI (n : Nat))) && decide (t_parse_size (strI (n : Nat)) = some (some ((n : Nat) : Int)))) = true := by decide +kernel
structure SizeOk (n : Nat) : Prop where
  sg : strG (n : Int) = some (strI n)
  len : (strI n).length ≤ 20
  nl : 10 ∉ TL.tl (strI n)
  ps : t_parse_size (strI n) = some (some (n : Int))
theorem size_ok {n : Nat} (hn : n ≤ 12) : SizeOk n := by
  have h := sizes_all n (by omega)
  simp only [Bool.and_eq_true, decide_eq_true_eq] at h
  obtain ⟨⟨⟨h1, h2⟩, h3⟩, h4⟩ := h
  exact ⟨h1, h2, h3, h4⟩
theorem str_ok {n : Nat} {x : Int} (hn : n ≤ 12) (hx : InR n x) : strG x = some (strI x) := by
  obtain ⟨i, rfl⟩ : ∃ i : Nat, x = (i : Int) := ⟨x.toNat, (Int.toNat_of_nonneg hx.1).symm⟩
  have q := hx.2
  exact (size_ok (n := i) (by omega)).sg
theorem ans_rng {r : List (List Int)} {n : Nat} {x y : Int} (h : Rl r n) (hx : InR n x) (hy : InR n y) : -1 ≤ ansN r x y ∧ ansN r x y ≤ 1 := by
  have hxl : x.toNat < r.length := by have := h.len; have := hx.1; have := hx.2; omega
  have e1 : r.getD x.toNat [] = r[x.toNat] := by rw [List.getD_eq_getElem?_getD, List.getElem?_eq_getElem hxl]; rfl
  have m1 : r[x.toNat] ∈ r := List.getElem_mem _
  have l1 := h.row _ m1
  have hyl : y.toNat < (r[x.toNat]).length := by have := hy.1; have := hy.2; omega
  have e2 : (r[x.toNat]).getD y.toNat 0 = (r[x.toNat])[y.toNat] := by rw [List.getD_eq_getElem?_getD, List.getElem?_eq_getElem hyl]; rfl
  unfold ansN
  rw [e1, e2]
  exact h.val _ m1 _ (List.getElem_mem _)
/-! ### the pairs of items -/
def itm (n : Nat) : List Int := rangeL 0 n
theorem itm_mem {n : Nat} {x : Int} : x ∈ itm n ↔ InR n x := by
  unfold itm InR
  rw [rangeL_mem]
  omega
def aft (n : Nat) (x : Int) : List Int := rangeL (x + 1) ((n : Int) - (x + 1)).toNat
theorem aft_mem {n : Nat} {x y : Int} (hx : InR n x) : y ∈ aft n x ↔ InR n y ∧ x < y := by
  unfold aft InR
  have h1 := hx.1
  have h2 := hx.2
  rw [rangeL_mem]
  omega
theorem aft_len {n : Nat} {x : Int} (hx : InR n x) : (aft n x).length ≤ n := by
  unfold aft
  rw [rangeL_len]
  have h1 := hx.1
  omega
theorem aft_ok {n : Nat} {x : Int} (hn : n ≤ 12) (hx : InR n x) : rng2 (x + (1 : Int)) (n : Int) = some (aft n x) := by
  have h1 := hx.1
  have h2 := hx.2
  unfold rng2 aft
  first
    | exact if_pos (by omega)
    | exact if_pos ⟨by omega, by omega⟩
    | exact if_pos ⟨by omega, by omega, by omega⟩
    | exact if_pos ⟨by omega, by omega, by omega, by omega⟩
def prs2 (n : Nat) : List (Int × Int) := (itm n).flatMap fun x => (aft n x).map fun y => (x, y)
theorem prs2_mem {n : Nat} {p : Int × Int} : p ∈ prs2 n ↔ InR n p.1 ∧ InR n p.2 ∧ p.1 < p.2 := by
  unfold prs2
  rw [List.mem_flatMap]
  constructor
  · rintro ⟨x, hx, hp⟩
    obtain ⟨y, hy, rfl⟩ := List.mem_map.mp hp
    have hx := itm_mem.mp hx
    have := (aft_mem hx).mp hy
    exact ⟨hx, this.1, this.2⟩
  · rintro ⟨h1, h2, h3⟩
    exact ⟨p.1, itm_mem.mpr h1, List.mem_map.mpr ⟨p.2, (aft_mem h1).mpr ⟨h2, h3⟩, rfl⟩⟩
theorem flat_le {α : Type} {m : Nat} : ∀ (xss : List (List α)), (∀ l ∈ xss, l.length ≤ m) → xss.flatten.length ≤ xss.length * m
  | [], _ => by simp
  | l :: xss, h => by
    have h1 := h l (List.mem_cons_self ..)
    have ih := flat_le xss fun x hx => h x (List.mem_cons_of_mem _ hx)
    rw [List.flatten_cons, List.length_append, List.length_cons, Nat.add_mul, Nat.one_mul]
    omega
theorem prs2_len {n : Nat} (hn : n ≤ 12) : (prs2 n).length ≤ 144 := by
  unfold prs2
  rw [List.flatMap_def]
  refine Nat.le_trans (flat_le (m := n) _ fun l hl => ?_) ?_
  · obtain ⟨x, hx, rfl⟩ := List.mem_map.mp hl
    rw [List.length_map]
    exact aft_len (itm_mem.mp hx)
  · rw [List.length_map]
    have : (itm n).length = n := rangeL_len
    rw [this]
    exact Nat.le_trans (Nat.mul_le_mul hn hn) (by decide)
theorem cmpOGo_yes {α β : Type} {elt : α → Option β} {g : α → β} : ∀ (xs : List α), (∀ a ∈ xs, elt a = some (g a)) → cmpOGo (fun _ => some true) elt xs = some (xs.map g)
  | [], _ => rfl
  | a :: as, h => by
    have ih := cmpOGo_yes as fun x hx => h x (List.mem_cons_of_mem _ hx)
    unfold cmpOGo
    rw [Option.bind_some, if_pos rfl, h a (List.mem_cons_self ..), Option.bind_some, ih]
    rfl
theorem item_pairs_ok {n : Nat} (hn : n ≤ 12) : t_item_pairs (n : Int) = some (prs2 n) := by
  have go : ∀ (xs : List Int) (k : Nat), k + xs.length * 12 ≤ 1000 → (∀ x ∈ xs, InR n x) → cmp2Go (fun a91_ => (rng2 (a91_ + (1 : Int)) (n : Int)).map fun b93_ => b93_) (fun _ _ => some true) (fun a91_ a92_ => some (a91_, a92_)) k xs = some (xs.flatMap fun x => (aft n x).map fun y => (x, y)) := by
    intro xs
    induction xs with
    | nil => intro k _ _; rfl
    | cons x xs ih =>
      intro k hk h
      have hx := h x (List.mem_cons_self ..)
      have al := aft_len hx
      have ml : ((aft n x).map fun y => (x, y)).length ≤ n := by rw [List.length_map]; exact al
      rw [List.length_cons, Nat.add_mul, Nat.one_mul] at hk
      unfold cmp2Go
      rw [aft_ok hn hx, Option.map_some, Option.bind_some, if_pos (le_line (by omega)), cmpOGo_yes (g := fun y => (x, y)) (aft n x) (fun _ _ => rfl), Option.bind_some, ih _ (by omega) fun y hy => h y (List.mem_cons_of_mem _ hy)]
      rfl
  unfold t_item_pairs
  rw [rng1_of (show n < 2 ^ 62 by omega), Option.bind_some]
  show Option.map _ (Option.map _ (cmp2Go _ _ _ 0 (itm n))) = _
  have il : (itm n).length = n := rangeL_len
  rw [go (itm n) 0 (by omega) fun x hx => itm_mem.mp hx]
  rfl
/-! ### loops that add to a list -/
theorem forN_app {α β : Type} {body : α → List β → Option (List β)} {G : α → List β} {B m : Nat} : ∀ (xs : List α) (s : List β), s.length + xs.length * m ≤ B → (∀ a ∈ xs, (G a).length ≤ m ∧ ∀ s : List β, s.length + m ≤ B → body a s = some (s ++ G a)) → forN body xs s = some (s ++ xs.flatMap G)
  | [], s, _, _ => by show some s = _; rw [List.flatMap_nil, List.append_nil]
  | a :: as, s, hB, h => by
    obtain ⟨h1, h2⟩ := h a (List.mem_cons_self ..)
    rw [List.length_cons, Nat.add_mul, Nat.one_mul] at hB
    rw [forN_cons (h2 s (by omega)), forN_app as (s ++ G a) (by rw [List.length_append]; omega) fun x hx => h x (List.mem_cons_of_mem _ hx), List.flatMap_cons, List.append_assoc]
def lns (r : List (List Int)) (n : Nat) : List Str := (prs2 n).map fun p => PL p.1 p.2 (ansN r p.1 p.2)
def TX (r : List (List Int)) (n : Nat) : Str := Txt.join NL (strI (n : Int) :: lns r n)
theorem lns_len {r : List (List Int)} {n : Nat} (hn : n ≤ 12) : (lns r n).length ≤ 144 := by unfold lns; rw [List.length_map]; exact prs2_len hn
theorem lns_mem {r : List (List Int)} {n : Nat} (h : Rl r n) (hn : n ≤ 12) : ∀ s ∈ strI (n : Int) :: lns r n, s.length ≤ 20 ∧ 10 ∉ TL.tl s := fun s hs => by
  rcases List.mem_cons.mp hs with rfl | hs
  · exact ⟨(size_ok hn).len, (size_ok hn).nl⟩
  · obtain ⟨p, hp, rfl⟩ := List.mem_map.mp hs
    have q := prs2_mem.mp hp
    have l := line_ok hn q.1 q.2.1 (ans_rng h q.1 q.2.1)
    exact ⟨l.len, l.nl⟩
theorem sum_le : ∀ (ys : List Str) (m : Nat), (∀ s ∈ ys, s.length ≤ m) → (ys.map (·.length)).sum ≤ ys.length * m
  | [], _, _ => by simp
  | y :: ys, m, h => by
    have h1 := h y (List.mem_cons_self ..)
    have ih := sum_le ys m fun s hs => h s (List.mem_cons_of_mem _ hs)
    rw [List.map_cons, List.sum_cons, List.length_cons, Nat.add_mul, Nat.one_mul]
    omega
theorem nl_len : NL.length = 1 := by decide +kernel
theorem join_ok {r : List (List Int)} {n : Nat} (h : Rl r n) (hn : n ≤ 12) : joinG NL (strI (n : Int) :: lns r n) = some (TX r n) := by
  have hl : (strI (n : Int) :: lns r n).length ≤ 145 := by rw [List.length_cons]; have := lns_len (r := r) hn; omega
  have s := sum_le (strI (n : Int) :: lns r n) 20 fun s hs => (lns_mem h hn s hs).1
  unfold joinG
  rw [if_pos (by rw [nl_len]; omega)]
  rfl
end My
namespace My
open PySem PySem.Spec PyProof.Rows L2 Tr
open Prod (fst snd)
theorem flat_one {α β : Type} {g : α → β} : ∀ l : List α, l.flatMap (fun y => [g y]) = l.map g
  | [] => rfl
  | a :: l => by rw [List.flatMap_cons, flat_one l]; rfl
theorem format_ok {r : List (List Int)} {n : Nat} (h : Rl r n) (hn : n ≤ 12) : t_format_rule r = some (TX r n) := by
  unfold t_format_rule
  rw [check_rule_ok h (by omega), Option.bind_some, h.len, item_pairs_ok hn, Option.bind_some]
  rw [cmpO_map (f := fun p => PL p.1 p.2 (ansN r p.1 p.2)) (by have := prs2_len hn; omega) fun p hp => by
    have q := prs2_mem.mp hp
    rw [ans_at h.toSq q.1 q.2.1, Option.bind_some]
    show Option.map _ (Option.map _ (t_pair_line p.1 p.2 (ansN r p.1 p.2))) = _
    rw [(line_ok hn q.1 q.2.1 (ans_rng h q.1 q.2.1)).pl]
    rfl]
  rw [Option.map_some, Option.bind_some, Option.bind_some, (size_ok hn).sg, Option.bind_some]
  have hl := lns_len (r := r) hn
  have c : catG [strI (n : Int)] (lns r n) = some (strI (n : Int) :: lns r n) := catG_of (le_line (by rw [List.length_singleton]; omega))
  show Option.map _ (Option.bind (Option.map _ (catG [strI (n : Int)] (lns r n))) _) = _
  rw [c, Option.map_some, Option.bind_some]
  show Option.map _ (Option.map _ (joinG NL (strI (n : Int) :: lns r n))) = _
  rw [join_ok h hn]
  rfl
theorem text_ok {r : List (List Int)} {n : Nat} (h : Rl r n) (hn : n ≤ 12) : t__law_text r = some (TX r n) := by
  unfold t__law_text
  rw [h.len, (size_ok hn).sg, Option.bind_some, Option.bind_some, rng1_of (show n < 2 ^ 62 by omega), Option.bind_some]
  have il : (itm n).length = n := rangeL_len
  rw [show rangeL 0 n = itm n from rfl]
  rw [forN_app (G := fun x => (aft n x).map fun y => PL x y (ansN r x y)) (B := 1000) (m := 12) (itm n) [strI (n : Int)] (by rw [List.length_singleton]; omega) fun x hx => ?_]
  · rw [Option.bind_some]
    show Option.map _ (joinG NL (strI (n : Int) :: ((itm n).flatMap fun x => (aft n x).map fun y => PL x y (ansN r x y)))) = _
    have e : ((itm n).flatMap fun x => (aft n x).map fun y => PL x y (ansN r x y)) = lns r n := by
      unfold lns prs2
      rw [List.map_flatMap]
      congr 1
      funext x
      rw [List.map_map]
      rfl
    rw [e, join_ok h hn]
    rfl
  · have hx := itm_mem.mp hx
    have al := aft_len hx
    refine ⟨by rw [List.length_map]; omega, fun s hs => ?_⟩
    rw [aft_ok hn hx, Option.bind_some, forN_app (G := fun y => [PL x y (ansN r x y)]) (B := 1000) (m := 1) (aft n x) s (by omega) fun y hy => ?_]
    · rw [Option.bind_some, flat_one]
    · have hy := ((aft_mem hx).mp hy).1
      have l := line_ok hn hx hy (ans_rng h hx hy)
      refine ⟨by rw [List.length_singleton]; exact Nat.le_refl _, fun s hs => ?_⟩
      rw [str_ok hn hx, Option.bind_some, ans_at h.toSq hx hy, Option.bind_some]
      show Option.bind (Option.bind (Option.bind (Option.map _ (Option.bind (Option.map _ (atI [(Str.ofString " = "), (Str.ofString " > "), (Str.ofString " < ")] (ansN r x y))) _)) _) _) _ = _
      rw [l.sg, Option.map_some, Option.bind_some]
      show Option.bind (Option.bind (Option.bind (Option.map _ (Option.map _ (addSG (strI x) (SG (ansN r x y))))) _) _) _ = _
      rw [l.a1, Option.map_some, Option.map_some, Option.bind_some, str_ok hn hy, Option.bind_some]
      show Option.bind (Option.bind (Option.map _ (Option.map _ (addSG (strI x ++ SG (ansN r x y)) (strI y)))) _) _ = _
      rw [l.a2, Option.map_some, Option.map_some, Option.bind_some]
      show Option.bind (Option.map _ (appG s (PL x y (ansN r x y)))) _ = _
      rw [appG_of (lt_line (by omega))]
      rfl
end My
namespace My
open PySem PySem.Spec PyProof.Rows L2 Tr
open Prod (fst snd)
theorem sq_ext {s t : List (List Int)} {n : Nat} (hs : Sq s n) (ht : Sq t n) (h : ∀ u v, InR n u → InR n v → ansN s u v = ansN t u v) : s = t := by
  have e : ∀ {z : List (List Int)}, Sq z n → ∀ i (hi : i < z.length), ∃ row, z[i]? = some row ∧ row.length = n ∧ ∀ j, j < n → row[j]? = some (ansN z (i : Nat) (j : Nat)) := fun {z} hz i hi => by
    have l := hz.row _ (List.getElem_mem hi)
    refine ⟨z[i], List.getElem?_eq_getElem hi, l, fun j hj => ?_⟩
    unfold ansN
    rw [Int.toNat_natCast, Int.toNat_natCast, List.getD_eq_getElem?_getD (l := z), List.getElem?_eq_getElem hi]
    show _ = some ((z[i]).getD j 0)
    rw [List.getD_eq_getElem?_getD, List.getElem?_eq_getElem (by omega)]
    rfl
  refine List.ext_getElem? fun i => ?_
  by_cases hi : i < n
  · obtain ⟨r1, a1, b1, c1⟩ := e hs i (by rw [hs.len]; exact hi)
    obtain ⟨r2, a2, b2, c2⟩ := e ht i (by rw [ht.len]; exact hi)
    rw [a1, a2]
    congr 1
    refine List.ext_getElem? fun j => ?_
    by_cases hj : j < n
    · rw [c1 j hj, c2 j hj, h i j ⟨by omega, by omega⟩ ⟨by omega, by omega⟩]
    · rw [List.getElem?_eq_none (by omega), List.getElem?_eq_none (by omega)]
  · rw [List.getElem?_eq_none (by rw [hs.len]; omega), List.getElem?_eq_none (by rw [ht.len]; omega)]
theorem joinL_len {S : List Nat} : ∀ (ps : List (List Nat)) (m : Nat), (∀ p ∈ ps, p.length ≤ m) → (TL.joinL S ps).length ≤ ps.length * (m + S.length)
  | [], _, _ => Nat.zero_le _
  | [p], m, h => by
    have := h p (List.mem_cons_self ..)
    show p.length ≤ 1 * (m + S.length)
    omega
  | p :: q :: r, m, h => by
    have h1 := h p (List.mem_cons_self ..)
    have ih := joinL_len (S := S) (q :: r) m fun x hx => h x (List.mem_cons_of_mem _ hx)
    show (p ++ (S ++ TL.joinL S (q :: r))).length ≤ _
    rw [List.length_append, List.length_append, List.length_cons, Nat.add_mul, Nat.one_mul]
    omega
theorem tl_len (s : Str) : (TL.tl s).length = s.length := by
  first
    | rfl
    | (show s.cps.toList.length = s.cps.size; simp)
theorem nl_tl : TL.tl NL = [10] := by decide +kernel
theorem tx_len {r : List (List Int)} {n : Nat} (h : Rl r n) (hn : n ≤ 12) : (TX r n).length ≤ 4000 := by
  rw [← tl_len]
  unfold TX
  rw [TL.join_eq, TL.tl_join, nl_tl]
  have := joinL_len (S := [10]) ((strI (n : Int) :: lns r n).map TL.tl) 20 fun p hp => by
    obtain ⟨s, hs, rfl⟩ := List.mem_map.mp hp
    rw [tl_len]
    exact (lns_mem h hn s hs).1
  rw [List.length_map, List.length_cons] at this
  have l := lns_len (r := r) hn
  refine Nat.le_trans this ?_
  show (lns r n).length.succ * (20 + 1) ≤ 4000
  omega
theorem split_ok {r : List (List Int)} {n : Nat} (h : Rl r n) (hn : n ≤ 12) : splitG (TX r n) NL = some (strI (n : Int) :: lns r n) := by
  unfold splitG
  rw [if_pos ⟨by decide +kernel, le_line (by have := tx_len h hn; omega)⟩]
  exact congrArg some (TL.split_join (s := 10) (S := []) nl_tl (by decide +kernel) (fun z => nomatch z) fun p hp => (lns_mem h hn p hp).2)
theorem zero_ok {n : Nat} (hn : n ≤ 12) : ∃ Z, t_square_of_zeros (n : Int) = some Z ∧ Sq Z n ∧ ∀ u v, InR n u → InR n v → ansN Z u v = 0 := by
  obtain ⟨Z, z1, z2, z3⟩ := rep0 (n := n) (by omega)
  refine ⟨(rangeL 0 n).map fun _ => Z, ?_, (tb0 z2 z3).toSq, fun u v hu hv => ?_⟩
  · unfold t_square_of_zeros
    rw [rng1_of (show n < 2 ^ 62 by omega), Option.bind_some, cmpO_map (f := fun _ => Z) (by rw [rangeL_len]; omega) fun x _ => by rw [z1]; rfl]
    rfl
  · have e1 : ((rangeL 0 n).map fun _ => Z).getD u.toNat [] = Z := by
      have hu' : u.toNat < ((rangeL 0 n).map fun _ => Z).length := by rw [List.length_map, rangeL_len]; have := hu.1; have := hu.2; omega
      rw [List.getD_eq_getElem?_getD, List.getElem?_eq_getElem hu', List.getElem_map]
      rfl
    unfold ansN
    rw [e1]
    have hv' : v.toNat < Z.length := by have := hv.1; have := hv.2; omega
    rw [List.getD_eq_getElem?_getD, List.getElem?_eq_getElem hv']
    exact z3 _ (List.getElem_mem _)
theorem parse_ok {r : List (List Int)} {n : Nat} (h : Rl r n) (hn : n ≤ 12) : t_parse_rule (TX r n) = some r := by
  obtain ⟨Z, z1, z2, z3⟩ := zero_ok hn
  have pl := prs2_len hn
  unfold t_parse_rule
  rw [if_neg (show ¬((!true) = true) from Bool.false_ne_true)]
  show Option.bind (splitG (TX r n) NL) _ = _
  rw [split_ok h hn, Option.bind_some, atI_zero, Option.bind_some, (size_ok hn).ps, Option.map_some, Option.bind_some, Option.bind_some]
  show Option.elim (some (n : Int)) (none : Option (List (List Int))) _ = _
  rw [Option.elim_some, z1, Option.bind_some, item_pairs_ok hn, Option.bind_some]
  have ll : (strI (n : Int) :: lns r n).length = (prs2 n).length + 1 := by rw [List.length_cons]; unfold lns; rw [List.length_map]
  obtain ⟨M, f, I1, I2⟩ := forN_inv (body := fun (a164_ : (Int × (Int × Int))) (s187_ : (List (List Int))) => (if (decide ((fst a164_) < ((List.length (strI (n : Int) :: lns r n) : Nat) : Int))) = true then (((atI (strI (n : Int) :: lns r n) (fst a164_)).bind fun b193_ => (t_parse_answer b193_ (fst (snd a164_)) (snd (snd a164_))).map fun b194_ => (b193_, b194_)).map fun q195_ => (snd q195_)) else (some (none : (Option Int)))).bind fun answer_197_ => (Option.elim answer_197_ ((none : Option (List (List Int)))) (fun (answer_199_ : Int) => (set2G s187_ (fst (snd a164_)) (snd (snd a164_)) answer_199_).bind fun rule_201_ => (set2G rule_201_ (snd (snd a164_)) (fst (snd a164_)) (-answer_199_)).bind fun rule_203_ => some rule_203_)))
    (fun k M => Sq M n ∧ ∀ u v, InR n u → InR n v → ansN M u v = if (u, v) ∈ (prs2 n).take k ∨ (v, u) ∈ (prs2 n).take k then ansN r u v else 0) (enLC (1 : Int) (prs2 n)) 0 Z
    ⟨z2, fun u v hu hv => by rw [z3 u v hu hv, if_neg (by rw [List.take_zero]; rintro (z | z) <;> cases z)]⟩
    (fun j p M hp hj ⟨I1, I2⟩ => by
      rw [Nat.zero_add] at I2 ⊢
      have gj : (prs2 n)[j]? = some p.2 ∧ p.1 = 1 + (j : Int) := by
        have e : (enLC (1 : Int) (prs2 n))[j]? = ((prs2 n)[j]?).map fun x => ((1 : Int) + ((j : Nat) : Int), x) := by unfold enLC; rw [List.getElem?_mapIdx]
        rw [e] at hj
        cases q : (prs2 n)[j]? with
        | none => rw [q] at hj; cases hj
        | some x =>
          rw [q] at hj
          have := Option.some.inj hj
          rw [← this]
          exact ⟨rfl, rfl⟩
      obtain ⟨g1, g2⟩ := gj
      have jl : j < (prs2 n).length := (List.getElem?_eq_some_iff.mp g1).1
      have pm := prs2_mem.mp (List.mem_of_getElem? g1)
      obtain ⟨px, py, plt⟩ := pm
      have l := line_ok hn px py (ans_rng h px py)
      have at_ : atI (strI (n : Int) :: lns r n) p.1 = some (PL p.2.1 p.2.2 (ansN r p.2.1 p.2.2)) := by
        rw [g2, show (1 : Int) + (j : Int) = ((j + 1 : Nat) : Int) by omega]
        refine atI_get ?_
        rw [List.getElem?_cons_succ]
        unfold lns
        rw [List.getElem?_map, g1]
        rfl
      obtain ⟨M1, m1, s1, q1⟩ := set2_ok (x := ansN r p.2.1 p.2.2) I1 px py
      obtain ⟨M2, m2, s2, q2⟩ := set2_ok (x := -ansN r p.2.1 p.2.2) s1 py px
      refine ⟨M2, ?_, s2, fun u v hu hv => ?_⟩
      · rw [if_pos (decide_eq_true (by rw [g2, ll]; omega)), at_, Option.bind_some, l.pa, Option.map_some, Option.map_some, Option.bind_some]
        show Option.bind (set2G M p.2.1 p.2.2 (ansN r p.2.1 p.2.2)) _ = _
        rw [m1, Option.bind_some, m2, Option.bind_some]
      · rw [q2 u v hu hv, q1 u v hu hv, I2 u v hu hv, List.take_succ, g1]
        have sk := h.skew p.2.1 p.2.2 px py
        by_cases c1 : u = p.2.2 ∧ v = p.2.1
        · rw [if_pos c1, c1.1, c1.2, if_pos (.inr (List.mem_append_right _ (by simp)))]
          omega
        · rw [if_neg c1]
          by_cases c2 : u = p.2.1 ∧ v = p.2.2
          · rw [if_pos c2, c2.1, c2.2, if_pos (.inl (List.mem_append_right _ (by simp)))]
          · rw [if_neg c2]
            have e : ((u, v) ∈ (prs2 n).take j ∨ (v, u) ∈ (prs2 n).take j) ↔ ((u, v) ∈ (prs2 n).take j ++ (some p.2).toList ∨ (v, u) ∈ (prs2 n).take j ++ (some p.2).toList) := by
              constructor
              · rintro (z | z)
                · exact .inl (List.mem_append_left _ z)
                · exact .inr (List.mem_append_left _ z)
              · rintro (z | z)
                · rcases List.mem_append.mp z with z | z
                  · exact .inl z
                  · have : (u, v) = p.2 := by simpa using z
                    exact absurd ⟨congrArg Prod.fst this, congrArg Prod.snd this⟩ c2
                · rcases List.mem_append.mp z with z | z
                  · exact .inr z
                  · have : (v, u) = p.2 := by simpa using z
                    exact absurd ⟨congrArg Prod.snd this, congrArg Prod.fst this⟩ c1
            by_cases c3 : (u, v) ∈ (prs2 n).take j ∨ (v, u) ∈ (prs2 n).take j
            · rw [if_pos c3, if_pos (e.mp c3)]
            · rw [if_neg c3, if_neg fun z => c3 (e.mpr z)])
  have el : (enLC (1 : Int) (prs2 n)).length = (prs2 n).length := by unfold enLC; rw [List.length_mapIdx]
  rw [Nat.zero_add, el, List.take_length] at I2
  have Mr : M = r := sq_ext I1 h.toSq fun u v hu hv => by
    rw [I2 u v hu hv]
    by_cases c : (u, v) ∈ prs2 n ∨ (v, u) ∈ prs2 n
    · rw [if_pos c]
    · rw [if_neg c]
      have e : u = v := by
        refine Classical.byContradiction fun ne => c ?_
        by_cases lt : u < v
        · exact .inl (prs2_mem.mpr ⟨hu, hv, lt⟩)
        · exact .inr (prs2_mem.mpr ⟨hv, hu, by show v < u; omega⟩)
      have s := h.skew u u hu hu
      rw [← e]
      omega
  refine (congrArg (fun z => Option.bind z _) f).trans ?_
  rw [Option.bind_some, if_neg (by rw [decide_eq_false (by rw [ll]; omega)]; exact Bool.false_ne_true), Mr]
end My
namespace My
open PySem PySem.Spec PyProof.Rows L2 Tr
open Prod (fst snd)
theorem Rep.mono {k k' L L' : Nat} {d : PyData} (h : Rep k L d) (hk : k ≤ k') (hL : L ≤ L') : Rep k' L' d := ⟨h.1, Nat.le_trans h.2.1 hk, Nat.le_trans h.2.2.1 hL, h.2.2.2⟩
theorem rep_row {xs : List Int} (h : ∀ y ∈ xs, -1 ≤ y ∧ y < 100) (hl : xs.length ≤ 14) : Rep 1 100 (encL encI xs) := by
  have := rep_list (k := 0) (L := 2) (ds := xs.map encI) fun d hd => by
    obtain ⟨y, hy, rfl⟩ := List.mem_map.mp hd
    exact rep_int (h y hy).1 (h y hy).2
  refine Rep.mono this (Nat.le_refl _) ?_
  rw [List.length_map]
  omega
theorem rep_rule {r : List (List Int)} {n : Nat} (h : Rl r n) (hn : n ≤ 14) : Rep 2 2000 (encL (encL encI) r) := by
  have := rep_list (k := 1) (L := 100) (ds := r.map (encL encI)) fun d hd => by
    obtain ⟨row, hr, rfl⟩ := List.mem_map.mp hd
    exact rep_row (fun y hy => by have := h.val row hr y hy; omega) (by rw [h.row _ hr]; exact hn)
  refine Rep.mono this (Nat.le_refl _) ?_
  rw [List.length_map, h.len]
  omega
theorem strOk_tl {s : Str} : PyData.strOk s = true ↔ ∀ c ∈ TL.tl s, c < 0x110000 := by
  have e : TL.tl s = s.cps.toList := rfl
  rw [e]
  unfold PyData.strOk
  rw [← Array.all_toList, List.all_eq_true]
  constructor
  · intro h c hc
    exact of_decide_eq_true (h c hc)
  · intro h c hc
    exact decide_eq_true (h c hc)
theorem joinL_all {P : Nat → Prop} {S : List Nat} (hS : ∀ c ∈ S, P c) : ∀ (ps : List (List Nat)), (∀ p ∈ ps, ∀ c ∈ p, P c) → ∀ c ∈ TL.joinL S ps, P c
  | [], _, c, hc => by cases hc
  | [p], h, c, hc => h p (List.mem_cons_self ..) c hc
  | p :: q :: r, h, c, hc => by
    have hc' : c ∈ p ++ (S ++ TL.joinL S (q :: r)) := hc
    rcases List.mem_append.mp hc' with z | z
    · exact h p (List.mem_cons_self ..) c z
    · rcases List.mem_append.mp z with z | z
      · exact hS c z
      · exact joinL_all hS (q :: r) (fun x hx => h x (List.mem_cons_of_mem _ hx)) c z
theorem okA : ∀ x < 12, ∀ y < 12, (PyData.strOk (PL (x : Nat) (y : Nat) (-1)) && PyData.strOk (PL (x : Nat) (y : Nat) 0) && PyData.strOk (PL (x : Nat) (y : Nat) 1)) = true := by decide +kernel
theorem okB : ∀ n < 13, PyData.strOk (strI (n : Nat)) = true := by decide +kernel
theorem lns_str {r : List (List Int)} {n : Nat} (h : Rl r n) (hn : n ≤ 12) : ∀ s ∈ strI (n : Int) :: lns r n, PyData.strOk s = true := fun s hs => by
  rcases List.mem_cons.mp hs with rfl | hs
  · exact okB n (by omega)
  · obtain ⟨p, hp, rfl⟩ := List.mem_map.mp hs
    have q := prs2_mem.mp hp
    have g := ans_rng h q.1 q.2.1
    obtain ⟨i, hi⟩ : ∃ i : Nat, p.1 = (i : Int) := ⟨p.1.toNat, (Int.toNat_of_nonneg q.1.1).symm⟩
    obtain ⟨j, hj⟩ : ∃ j : Nat, p.2 = (j : Int) := ⟨p.2.toNat, (Int.toNat_of_nonneg q.2.1.1).symm⟩
    have q1 := q.1.2
    have q2 := q.2.1.2
    have o := okA i (by omega) j (by omega)
    simp only [Bool.and_eq_true] at o
    have e : ansN r p.1 p.2 = -1 ∨ ansN r p.1 p.2 = 0 ∨ ansN r p.1 p.2 = 1 := by omega
    show PyData.strOk (PL p.1 p.2 (ansN r p.1 p.2)) = true
    rcases e with e | e | e
    · rw [e, hi, hj]; exact o.1.1
    · rw [e, hi, hj]; exact o.1.2
    · rw [e, hi, hj]; exact o.2
theorem tx_str {r : List (List Int)} {n : Nat} (h : Rl r n) (hn : n ≤ 12) : PyData.strOk (TX r n) = true := by
  refine strOk_tl.mpr ?_
  unfold TX
  rw [TL.join_eq, TL.tl_join, nl_tl]
  refine joinL_all (P := fun c => c < 0x110000) (fun c hc => by rw [List.mem_singleton.mp hc]; decide) _ fun p hp => ?_
  obtain ⟨s, hs, rfl⟩ := List.mem_map.mp hp
  exact strOk_tl.mp (lns_str h hn s hs)
theorem tail_ok {r : List (List Int)} {n : Nat} (h : Rl r n) (hn : n ≤ 12) : t_tail r (TX r n) r = some true :=
  tail_of ⟨rfl, by rw [h.len]; omega, fun row hr => by rw [h.row row hr]; omega, tk_parse_rule (TX r n) r (parse_ok h hn)⟩
theorem law_right_ok {c : Int} {d : Dr} (hd : DrOk c d) (hc : c ≤ 30000) (hc0 : 0 ≤ c) : ∃ d', t__law_right d = some (true, d') ∧ DrOk (c + 2000) d' := by
  obtain ⟨v, d1, e1, v0, D1⟩ := next_ok hd (by omega)
  have fm := fmod_in v (show (0 : Int) < 13 by decide)
  obtain ⟨n, hn⟩ : ∃ n : Nat, v.fmod 13 = (n : Int) := ⟨(v.fmod 13).toNat, (Int.toNat_of_nonneg fm.1).symm⟩
  have nn : n ≤ 12 := by omega
  obtain ⟨⟨r, d2⟩, r1, h, D2⟩ := law_rule_ok D1 (by omega) (by omega) (show n ≤ 14 by omega)
  have h : Rl r n := h
  have D2 : DrOk (c + 1 + 1000) d2 := D2
  have R1 := rep_rule h (by omega)
  have G1 := rep_G R1 rfl (by decide) (by decide)
  have Q1 := eqS_self R1.2.2.2
  have Q2 := eqS_self (tx_str h nn)
  have F := format_ok h nn
  have Tx := text_ok h nn
  have Pr := parse_ok h nn
  have Tl := tail_ok h nn
  refine ⟨d2, ?_, D2.mono (by omega)⟩
  unfold t__law_right
  rw [e1, Option.bind_some]
  show Option.bind (Option.map _ (t__law_rule d1 (v.fmod 13))) _ = _
  rw [hn, r1, Option.map_some, Option.bind_some, Option.bind_some, Option.bind_some]
  show Option.bind (reprG (encL (encL encI) r)) _ = _
  rw [G1, Option.bind_some, Tx, Option.bind_some, F, Option.bind_some, Q2, Option.map_some, Option.map_some, Option.bind_some, if_neg (show ¬((!true) = true) from Bool.false_ne_true), Option.bind_some]
  show Option.bind (Option.map _ (if (false : Bool) = true then (some (true, ()) : Option (Bool × Unit)) else Option.map _ (Option.bind (some (reprD (encL (encL encI) r))) _))) _ = _
  rw [if_neg Bool.false_ne_true, Option.bind_some, Q1, Option.map_some, Option.map_some, Option.map_some, Option.bind_some, if_neg (show ¬((!true) = true) from Bool.false_ne_true), Pr, Option.bind_some, Option.map_some, Option.bind_some, Option.bind_some, Option.bind_some]
  show Option.bind (Option.bind (Option.map _ (Option.bind (reprG (encL (encL encI) r)) _)) _) _ = _
  rw [G1, Option.bind_some, Q1, Option.map_some, Option.map_some, Option.bind_some, if_neg (show ¬((!true) = true) from Bool.false_ne_true)]
  show Option.bind (some (!(decide (r = r)), ())) _ = _
  rw [decide_eq_true rfl, Option.bind_some, if_neg (show ¬((!true) = true) from Bool.false_ne_true)]
  show Option.map _ (t_tail r (TX r n) r) = _
  rw [Tl]
  rfl
theorem forR_nx {α σ ρ : Type} {body : α → σ → Option (Rs ρ σ)} {a : α} {as : List α} {s s' : σ} (h : body a s = some (.nx s')) : forR body (a :: as) s = forR body as s' := by
  show (body a s).bind _ = _
  rw [h]
  rfl
theorem forR_unit {α ρ : Type} {body : α → Unit → Option (Rs ρ Unit)} : ∀ (xs : List α), (∀ x ∈ xs, body x () = some (.nx ())) → forR body xs () = some (.nx ())
  | [], _ => rfl
  | x :: xs, h => (forR_nx (h x (List.mem_cons_self ..))).trans (forR_unit xs fun y hy => h y (List.mem_cons_of_mem _ hy))
theorem t_law_ok (ns : List Int) (hl : ns.length ≤ 63) : t_law ns = some true := by
  have cl : (cutG ns none (some (6 : Int))) = ns.take 6 := cut_to (k := 6)
  have tl : (ns.take 6).length ≤ 6 := by rw [List.length_take]; omega
  unfold t_law
  rw [cl, catG_of (le_line (by rw [List.length_singleton]; omega)), Option.bind_some]
  rw [forR_unit (ns.take 6 ++ [0]) (fun cell _ => ?_)]
  · rfl
  obtain ⟨d, e1, hd⟩ := draws_ok (cell := cell)
  obtain ⟨d1, r1, hd1⟩ := law_right_ok hd (by decide) (by decide)
  obtain ⟨d2, r2, hd2⟩ := law_right_ok hd1 (by decide) (by decide)
  obtain ⟨d3, r3, hd3⟩ := law_right_ok hd2 (by decide) (by decide)
  have f : forR (ρ := Bool) (fun (a1996_ : Int) (s2007_ : (Int × Int × Bool)) => (t__law_right s2007_).bind fun b2010_ => if (!(fst b2010_)) = true then ((some (snd b2010_)).bind fun (draws_2011_ : (Int × Int × Bool)) => some (Rs.rt false)) else ((some (snd b2010_)).bind fun (draws_2013_ : (Int × Int × Bool)) => some (Rs.nx draws_2013_))) [0, 1, 2] d = some (.nx d3) := by
    rw [forR_nx (s' := d1) (by rw [r1]; rfl), forR_nx (s' := d2) (by rw [r2]; rfl), forR_nx (s' := d3) (by rw [r3]; rfl)]
    rfl
  have rg : rng1 (3 : Int) = some [0, 1, 2] := rfl
  rw [e1, Option.bind_some, rg, Option.bind_some, f]
  rfl
theorem law_true (K : PySem.W.Frag) (z : Nat → Addr) (ns : List Int) (h : ns.length ≤ 63) : ∃ os, m_law K z [.sc K ns] = some (.fz (.bool true), os) := ⟨_, tk_law ns true (t_law_ok ns h)⟩
end My
namespace My
open PySem PySem.Spec PyProof.Rows L2 Tr
/-! what the top has written; the law's own head -/
theorem all_mk {l : PySem.W.OpenLaw} {w : World} {K : PySem.W.Frag} {h : Heap} {mg : Str → Option Value} {fa : Addr} (X : K.In h) (G : h.Ns mainGlobals mg) (hfa : mg "law" = some (.ref fa))
    {f0 f1 f2 f3 f4 f5 f6 f7 f8 f9 f10 f11 f12 f13 f14 f15 f16 : Addr} {od0 an0 od1 an1 od2 an2 od3 an3 od4 an4 od5 an5 od6 an6 od7 an7 od8 an8 od9 an9 od10 an10 od11 an11 od12 an12 od13 an13 od14 an14 od15 an15 od16 an16 : Option Addr} {sl0 sl1 sl2 sl3 sl4 sl5 sl6 sl7 sl8 sl9 sl10 sl11 sl12 sl13 sl14 sl15 sl16 : Array (Option Value)}
    {oc0 kV0 dc0 pm0 cd0 ct0 oc1 kV1 dc1 pm1 cd1 ct1 oc2 kV2 dc2 pm2 cd2 ct2 oc3 kV3 dc3 pm3 cd3 ct3 oc4 kV4 dc4 pm4 cd4 ct4 oc5 kV5 dc5 pm5 cd5 ct5 oc6 kV6 dc6 pm6 cd6 ct6 oc7 kV7 dc7 pm7 cd7 ct7 oc8 kV8 dc8 pm8 cd8 ct8 oc9 kV9 dc9 pm9 cd9 ct9 oc10 kV10 dc10 pm10 cd10 ct10 oc11 kV11 dc11 pm11 cd11 ct11 oc12 kV12 dc12 pm12 cd12 ct12 oc13 kV13 dc13 pm13 cd13 ct13 oc14 kV14 dc14 pm14 cd14 ct14 oc15 kV15 dc15 pm15 cd15 ct15 oc16 kV16 dc16 pm16 cd16 ct16 : Value}
    {tc_MOST_ITEMS : Tok}
    {tc_SIGNS : Tok}
    {C0 I0 NN0 : Addr} {nm0 q0 : Str} {bs0 sub0 : List Value} {sn0 : List Str} {ab0 : Bool} {col0 : Option Bool} {dd0 iod0 ian0 : Option Addr} {m0_0 m1_0 m2_0 m3_0 m5_0 : Option Value} {isl0 : Array (Option Value)} {ioc0 ikV0 idc0 ipm0 icd0 ict0 : Value}
    (aC0 : PySem.W.nsIn K mainGlobals "InvalidRule" = some (some (.ref C0)))
    (xL0 : K.lookup C0 = some (excClassObj nm0 q0 C0 NN0 bs0 [.type "ValueError", .type "Exception", .type "BaseException", .type "object"] true sn0 sub0 ab0 col0 dd0 m0_0 m1_0 m2_0 m3_0 m5_0 "ValueError.__new__"))
    (sa0 : PySem.W.findIn K (.ref C0) "__setattr__" = some (some (.builtin "object.__setattr__"))) (ga0 : PySem.W.findIn K (.ref C0) "__getattribute__" = some (some (.builtin "BaseException.__getattribute__"))) (gg0 : PySem.W.findIn K (.ref C0) "__getattr__" = some none) (nb0 : PySem.W.findIn K (.ref C0) "item" = some none)
    (iC0 : PySem.W.findIn K (.ref C0) "__init__" = some (some (.ref I0))) (it0 : PySem.W.typeIn K (.ref I0) = some (.type "function"))
    (il0 : K.lookup I0 = some ⟨ioc0, iod0, .func (PySem.W.fnOf "__init__" "InvalidRule.__init__" (defArgs s_I_InvalidRule) (defBody s_I_InvalidRule) (defScope s_I_InvalidRule) .none ikV0 idc0 ipm0 ian0 icd0 ict0), isl0⟩) (ic0 : PySem.W.codeIn K icd0 "InvalidRule.__init__" = true) (ik0 : PySem.W.keepIn K (.ref I0) = true)
    (kC0 : PySem.W.keepIn K (.ref C0) = true) (eC0 : PySem.W.subIn K (.ref C0) (.type "BaseException") = some true) (tC0 : PySem.W.typeIn K (.ref C0) = some (.type "type")) (hC0 : PySem.W.hasDictIn K C0 = true) (jC0 : PySem.W.isClsIn K C0 = true) (sC0 : PySem.W.subIn K (.ref C0) (.ref C0) = some true)
    (ca0 : PySem.W.findIn K (.ref C0) "__class__" = some (some (.builtin "object.__class__"))) (cm0 : PySem.W.mroIn K C0 (.type "object") = some true) (kt0 : PySem.W.subIn K (.ref C0) (.type "ValueError") = some true)
    (vV : PySem.W.findCls K (.type "ValueError") (.type "type") "__init__" = some (.val (.builtin "ValueError.__init__"))) (cn : PySem.W.specialIn K (.builtin "object.__class__") "__get__" = some (some (.builtin "getset_descriptor.__get__"))) (ct : PySem.W.takesIn K (.builtin "object.__class__") = some true)
    (a0 : PySem.W.nsIn K mainGlobals "is_whole" = some (some (.ref f0)))
    (l0 : K.lookup f0 = some ⟨oc0, od0, .func (PySem.W.fnOf "is_whole" "is_whole" (defArgs s_is_whole) (defBody s_is_whole) (defScope s_is_whole) .none kV0 dc0 pm0 an0 cd0 ct0), sl0⟩)
    (c0 : PySem.W.codeIn K cd0 "is_whole" = true) (k0 : PySem.W.keepIn K (.ref f0) = true)
    (a1 : PySem.W.nsIn K mainGlobals "is_answer" = some (some (.ref f1)))
    (l1 : K.lookup f1 = some ⟨oc1, od1, .func (PySem.W.fnOf "is_answer" "is_answer" (defArgs s_is_answer) (defBody s_is_answer) (defScope s_is_answer) .none kV1 dc1 pm1 an1 cd1 ct1), sl1⟩)
    (c1 : PySem.W.codeIn K cd1 "is_answer" = true) (k1 : PySem.W.keepIn K (.ref f1) = true)
    (a2 : PySem.W.nsIn K mainGlobals "check_rule" = some (some (.ref f2)))
    (l2 : K.lookup f2 = some ⟨oc2, od2, .func (PySem.W.fnOf "check_rule" "check_rule" (defArgs s_check_rule) (defBody s_check_rule) (defScope s_check_rule) .none kV2 dc2 pm2 an2 cd2 ct2), sl2⟩)
    (c2 : PySem.W.codeIn K cd2 "check_rule" = true) (k2 : PySem.W.keepIn K (.ref f2) = true)
    (a3 : PySem.W.nsIn K mainGlobals "square_of_zeros" = some (some (.ref f3)))
    (l3 : K.lookup f3 = some ⟨oc3, od3, .func (PySem.W.fnOf "square_of_zeros" "square_of_zeros" (defArgs s_square_of_zeros) (defBody s_square_of_zeros) (defScope s_square_of_zeros) .none kV3 dc3 pm3 an3 cd3 ct3), sl3⟩)
    (c3 : PySem.W.codeIn K cd3 "square_of_zeros" = true) (k3 : PySem.W.keepIn K (.ref f3) = true)
    (a4 : PySem.W.nsIn K mainGlobals "item_pairs" = some (some (.ref f4)))
    (l4 : K.lookup f4 = some ⟨oc4, od4, .func (PySem.W.fnOf "item_pairs" "item_pairs" (defArgs s_item_pairs) (defBody s_item_pairs) (defScope s_item_pairs) .none kV4 dc4 pm4 an4 cd4 ct4), sl4⟩)
    (c4 : PySem.W.codeIn K cd4 "item_pairs" = true) (k4 : PySem.W.keepIn K (.ref f4) = true)
    (a5 : PySem.W.nsIn K mainGlobals "pair_line" = some (some (.ref f5)))
    (l5 : K.lookup f5 = some ⟨oc5, od5, .func (PySem.W.fnOf "pair_line" "pair_line" (defArgs s_pair_line) (defBody s_pair_line) (defScope s_pair_line) .none kV5 dc5 pm5 an5 cd5 ct5), sl5⟩)
    (c5 : PySem.W.codeIn K cd5 "pair_line" = true) (k5 : PySem.W.keepIn K (.ref f5) = true)
    (a6 : PySem.W.nsIn K mainGlobals "format_rule" = some (some (.ref f6)))
    (l6 : K.lookup f6 = some ⟨oc6, od6, .func (PySem.W.fnOf "format_rule" "format_rule" (defArgs s_format_rule) (defBody s_format_rule) (defScope s_format_rule) .none kV6 dc6 pm6 an6 cd6 ct6), sl6⟩)
    (c6 : PySem.W.codeIn K cd6 "format_rule" = true) (k6 : PySem.W.keepIn K (.ref f6) = true)
    (a7 : PySem.W.nsIn K mainGlobals "parse_size" = some (some (.ref f7)))
    (l7 : K.lookup f7 = some ⟨oc7, od7, .func (PySem.W.fnOf "parse_size" "parse_size" (defArgs s_parse_size) (defBody s_parse_size) (defScope s_parse_size) .none kV7 dc7 pm7 an7 cd7 ct7), sl7⟩)
    (c7 : PySem.W.codeIn K cd7 "parse_size" = true) (k7 : PySem.W.keepIn K (.ref f7) = true)
    (a8 : PySem.W.nsIn K mainGlobals "parse_answer" = some (some (.ref f8)))
    (l8 : K.lookup f8 = some ⟨oc8, od8, .func (PySem.W.fnOf "parse_answer" "parse_answer" (defArgs s_parse_answer) (defBody s_parse_answer) (defScope s_parse_answer) .none kV8 dc8 pm8 an8 cd8 ct8), sl8⟩)
    (c8 : PySem.W.codeIn K cd8 "parse_answer" = true) (k8 : PySem.W.keepIn K (.ref f8) = true)
    (a9 : PySem.W.nsIn K mainGlobals "parse_rule" = some (some (.ref f9)))
    (l9 : K.lookup f9 = some ⟨oc9, od9, .func (PySem.W.fnOf "parse_rule" "parse_rule" (defArgs s_parse_rule) (defBody s_parse_rule) (defScope s_parse_rule) .none kV9 dc9 pm9 an9 cd9 ct9), sl9⟩)
    (c9 : PySem.W.codeIn K cd9 "parse_rule" = true) (k9 : PySem.W.keepIn K (.ref f9) = true)
    (a10 : PySem.W.nsIn K mainGlobals "_law_draws" = some (some (.ref f10)))
    (l10 : K.lookup f10 = some ⟨oc10, od10, .func (PySem.W.fnOf "_law_draws" "_law_draws" (defArgs s__law_draws) (defBody s__law_draws) (defScope s__law_draws) .none kV10 dc10 pm10 an10 cd10 ct10), sl10⟩)
    (c10 : PySem.W.codeIn K cd10 "_law_draws" = true) (k10 : PySem.W.keepIn K (.ref f10) = true)
    (a11 : PySem.W.nsIn K mainGlobals "_law_next" = some (some (.ref f11)))
    (l11 : K.lookup f11 = some ⟨oc11, od11, .func (PySem.W.fnOf "_law_next" "_law_next" (defArgs s__law_next) (defBody s__law_next) (defScope s__law_next) .none kV11 dc11 pm11 an11 cd11 ct11), sl11⟩)
    (c11 : PySem.W.codeIn K cd11 "_law_next" = true) (k11 : PySem.W.keepIn K (.ref f11) = true)
    (a12 : PySem.W.nsIn K mainGlobals "_law_rule" = some (some (.ref f12)))
    (l12 : K.lookup f12 = some ⟨oc12, od12, .func (PySem.W.fnOf "_law_rule" "_law_rule" (defArgs s__law_rule) (defBody s__law_rule) (defScope s__law_rule) .none kV12 dc12 pm12 an12 cd12 ct12), sl12⟩)
    (c12 : PySem.W.codeIn K cd12 "_law_rule" = true) (k12 : PySem.W.keepIn K (.ref f12) = true)
    (a13 : PySem.W.nsIn K mainGlobals "_law_text" = some (some (.ref f13)))
    (l13 : K.lookup f13 = some ⟨oc13, od13, .func (PySem.W.fnOf "_law_text" "_law_text" (defArgs s__law_text) (defBody s__law_text) (defScope s__law_text) .none kV13 dc13 pm13 an13 cd13 ct13), sl13⟩)
    (c13 : PySem.W.codeIn K cd13 "_law_text" = true) (k13 : PySem.W.keepIn K (.ref f13) = true)
    (a14 : PySem.W.nsIn K mainGlobals "_law_refused" = some (some (.ref f14)))
    (l14 : K.lookup f14 = some ⟨oc14, od14, .func (PySem.W.fnOf "_law_refused" "_law_refused" (defArgs s__law_refused) (defBody s__law_refused) (defScope s__law_refused) .none kV14 dc14 pm14 an14 cd14 ct14), sl14⟩)
    (c14 : PySem.W.codeIn K cd14 "_law_refused" = true) (k14 : PySem.W.keepIn K (.ref f14) = true)
    (a15 : PySem.W.nsIn K mainGlobals "_law_right" = some (some (.ref f15)))
    (l15 : K.lookup f15 = some ⟨oc15, od15, .func (PySem.W.fnOf "_law_right" "_law_right" (defArgs s__law_right) (defBody s__law_right) (defScope s__law_right) .none kV15 dc15 pm15 an15 cd15 ct15), sl15⟩)
    (c15 : PySem.W.codeIn K cd15 "_law_right" = true) (k15 : PySem.W.keepIn K (.ref f15) = true)
    (a16 : PySem.W.nsIn K mainGlobals "law" = some (some (.ref f16)))
    (l16 : K.lookup f16 = some ⟨oc16, od16, .func (PySem.W.fnOf "law" "law" (defArgs s_law) (defBody s_law) (defScope s_law) .none kV16 dc16 pm16 an16 cd16 ct16), sl16⟩)
    (c16 : PySem.W.codeIn K cd16 "law" = true) (k16 : PySem.W.keepIn K (.ref f16) = true)
    (z0 : PySem.W.nsIn K mainGlobals "ValueError" = some none)
    (z1 : PySem.W.nsIn K mainGlobals "abs" = some none)
    (z2 : PySem.W.nsIn K mainGlobals "all" = some none)
    (z3 : PySem.W.nsIn K mainGlobals "bool" = some none)
    (z4 : PySem.W.nsIn K mainGlobals "enumerate" = some none)
    (z5 : PySem.W.nsIn K mainGlobals "int" = some none)
    (z6 : PySem.W.nsIn K mainGlobals "isinstance" = some none)
    (z7 : PySem.W.nsIn K mainGlobals "len" = some none)
    (z8 : PySem.W.nsIn K mainGlobals "list" = some none)
    (z9 : PySem.W.nsIn K mainGlobals "range" = some none)
    (z10 : PySem.W.nsIn K mainGlobals "repr" = some none)
    (z11 : PySem.W.nsIn K mainGlobals "str" = some none)
    (mc_MOST_ITEMS : PySem.W.nsIn K mainGlobals "MOST_ITEMS" = some (some (.int 12 tc_MOST_ITEMS)))
    (mc_SIGNS : PySem.W.nsIn K mainGlobals "SIGNS" = some (some (.str (Str.ofString "<=>") tc_SIGNS)))
    : ∃ (z : Nat → Addr) (fd : FuncData), (∀ (s : Shared) (v : Value), BindsTo s fd ⟨[v], []⟩ [("script", v)]) ∧ ∀ base : Heap, K.In base → base.Ns mainGlobals mg → FnG l.prog w K mg base 7 fa fd ["script"] (spOf [] (m_law K z)) := by
  have e := hfa.symm.trans (PySem.W.mg_of X G a16)
  cases e
  have F0 := fun_mk (st := s_is_whole) l0 c0 k0
  have F1 := fun_mk (st := s_is_answer) l1 c1 k1
  have F2 := fun_mk (st := s_check_rule) l2 c2 k2
  have F3 := fun_mk (st := s_square_of_zeros) l3 c3 k3
  have F4 := fun_mk (st := s_item_pairs) l4 c4 k4
  have F5 := fun_mk (st := s_pair_line) l5 c5 k5
  have F6 := fun_mk (st := s_format_rule) l6 c6 k6
  have F7 := fun_mk (st := s_parse_size) l7 c7 k7
  have F8 := fun_mk (st := s_parse_answer) l8 c8 k8
  have F9 := fun_mk (st := s_parse_rule) l9 c9 k9
  have F10 := fun_mk (st := s__law_draws) l10 c10 k10
  have F11 := fun_mk (st := s__law_next) l11 c11 k11
  have F12 := fun_mk (st := s__law_rule) l12 c12 k12
  have F13 := fun_mk (st := s__law_text) l13 c13 k13
  have F14 := fun_mk (st := s__law_refused) l14 c14 k14
  have F15 := fun_mk (st := s__law_right) l15 c15 k15
  have F16 := fun_mk (st := s_law) l16 c16 k16
  have IF0 := fun_mk (st := s_I_InvalidRule) il0 ic0 ik0
  have T : Tx K mg (fun i => match i with | 0 => f0 | 1 => f1 | 2 => f2 | 3 => f3 | 4 => f4 | 5 => f5 | 6 => f6 | 7 => f7 | 8 => f8 | 9 => f9 | 10 => f10 | 11 => f11 | 12 => f12 | 13 => f13 | 14 => f14 | 15 => f15 | _ => fa) (fun i => match i with
      | 0 => PySem.W.fnOf "is_whole" "is_whole" (defArgs s_is_whole) (defBody s_is_whole) (defScope s_is_whole) .none kV0 dc0 pm0 an0 cd0 ct0
      | 1 => PySem.W.fnOf "is_answer" "is_answer" (defArgs s_is_answer) (defBody s_is_answer) (defScope s_is_answer) .none kV1 dc1 pm1 an1 cd1 ct1
      | 2 => PySem.W.fnOf "check_rule" "check_rule" (defArgs s_check_rule) (defBody s_check_rule) (defScope s_check_rule) .none kV2 dc2 pm2 an2 cd2 ct2
      | 3 => PySem.W.fnOf "square_of_zeros" "square_of_zeros" (defArgs s_square_of_zeros) (defBody s_square_of_zeros) (defScope s_square_of_zeros) .none kV3 dc3 pm3 an3 cd3 ct3
      | 4 => PySem.W.fnOf "item_pairs" "item_pairs" (defArgs s_item_pairs) (defBody s_item_pairs) (defScope s_item_pairs) .none kV4 dc4 pm4 an4 cd4 ct4
      | 5 => PySem.W.fnOf "pair_line" "pair_line" (defArgs s_pair_line) (defBody s_pair_line) (defScope s_pair_line) .none kV5 dc5 pm5 an5 cd5 ct5
      | 6 => PySem.W.fnOf "format_rule" "format_rule" (defArgs s_format_rule) (defBody s_format_rule) (defScope s_format_rule) .none kV6 dc6 pm6 an6 cd6 ct6
      | 7 => PySem.W.fnOf "parse_size" "parse_size" (defArgs s_parse_size) (defBody s_parse_size) (defScope s_parse_size) .none kV7 dc7 pm7 an7 cd7 ct7
      | 8 => PySem.W.fnOf "parse_answer" "parse_answer" (defArgs s_parse_answer) (defBody s_parse_answer) (defScope s_parse_answer) .none kV8 dc8 pm8 an8 cd8 ct8
      | 9 => PySem.W.fnOf "parse_rule" "parse_rule" (defArgs s_parse_rule) (defBody s_parse_rule) (defScope s_parse_rule) .none kV9 dc9 pm9 an9 cd9 ct9
      | 10 => PySem.W.fnOf "_law_draws" "_law_draws" (defArgs s__law_draws) (defBody s__law_draws) (defScope s__law_draws) .none kV10 dc10 pm10 an10 cd10 ct10
      | 11 => PySem.W.fnOf "_law_next" "_law_next" (defArgs s__law_next) (defBody s__law_next) (defScope s__law_next) .none kV11 dc11 pm11 an11 cd11 ct11
      | 12 => PySem.W.fnOf "_law_rule" "_law_rule" (defArgs s__law_rule) (defBody s__law_rule) (defScope s__law_rule) .none kV12 dc12 pm12 an12 cd12 ct12
      | 13 => PySem.W.fnOf "_law_text" "_law_text" (defArgs s__law_text) (defBody s__law_text) (defScope s__law_text) .none kV13 dc13 pm13 an13 cd13 ct13
      | 14 => PySem.W.fnOf "_law_refused" "_law_refused" (defArgs s__law_refused) (defBody s__law_refused) (defScope s__law_refused) .none kV14 dc14 pm14 an14 cd14 ct14
      | 15 => PySem.W.fnOf "_law_right" "_law_right" (defArgs s__law_right) (defBody s__law_right) (defScope s__law_right) .none kV15 dc15 pm15 an15 cd15 ct15
      | _ => PySem.W.fnOf "law" "law" (defArgs s_law) (defBody s_law) (defScope s_law) .none kV16 dc16 pm16 an16 cd16 ct16)
      w (fun i => match i with | _ => C0) (fun i => match i with | _ => I0) (fun i => match i with | _ => PySem.W.fnOf "__init__" "InvalidRule.__init__" (defArgs s_I_InvalidRule) (defBody s_I_InvalidRule) (defScope s_I_InvalidRule) .none ikV0 idc0 ipm0 ian0 icd0 ict0) := by
    refine ⟨?_, ?_, ?_, ?_, ?_, ?_, ?_, ?_, ?_, ?_, ?_, ?_, ?_, ?_, ?_, ?_, ?_, ?_, ?_, ?_, ?_, ?_, ?_, ?_, ?_, ?_, ?_, ?_, ?_, ?_, ?_, ?_, ?_, ?_, ?_, ?_, ?_, ?_, ?_, ?_, ?_, ?_, ?_, ?_, ?_, ?_, ?_, ?_, ?_, ?_, ?_, ?_, ?_, ?_, ?_, ?_, ?_, ?_, ?_, ?_, ?_, ?_, ?_, ?_, ?_, ?_, ?_, ?_, ?_, ?_, ?_, ?_, ?_, ?_, ?_, ?_⟩
    · exact F0
    · exact PySem.W.mg_of X G a0
    · exact F0.binds fun _ _ _ _ _ _ us hl => match us, hl with | [_], _ => rfl
    · exact F1
    · exact PySem.W.mg_of X G a1
    · exact F1.binds fun _ _ _ _ _ _ us hl => match us, hl with | [_], _ => rfl
    · exact F2
    · exact PySem.W.mg_of X G a2
    · exact F2.binds fun _ _ _ _ _ _ us hl => match us, hl with | [_], _ => rfl
    · exact F3
    · exact PySem.W.mg_of X G a3
    · exact F3.binds fun _ _ _ _ _ _ us hl => match us, hl with | [_], _ => rfl
    · exact F4
    · exact PySem.W.mg_of X G a4
    · exact F4.binds fun _ _ _ _ _ _ us hl => match us, hl with | [_], _ => rfl
    · exact F5
    · exact PySem.W.mg_of X G a5
    · exact F5.binds fun _ _ _ _ _ _ us hl => match us, hl with | [_, _, _], _ => rfl
    · exact F6
    · exact PySem.W.mg_of X G a6
    · exact F6.binds fun _ _ _ _ _ _ us hl => match us, hl with | [_], _ => rfl
    · exact F7
    · exact PySem.W.mg_of X G a7
    · exact F7.binds fun _ _ _ _ _ _ us hl => match us, hl with | [_], _ => rfl
    · exact F8
    · exact PySem.W.mg_of X G a8
    · exact F8.binds fun _ _ _ _ _ _ us hl => match us, hl with | [_, _, _], _ => rfl
    · exact F9
    · exact PySem.W.mg_of X G a9
    · exact F9.binds fun _ _ _ _ _ _ us hl => match us, hl with | [_], _ => rfl
    · exact F10
    · exact PySem.W.mg_of X G a10
    · exact F10.binds fun _ _ _ _ _ _ us hl => match us, hl with | [_], _ => rfl
    · exact F11
    · exact PySem.W.mg_of X G a11
    · exact F11.binds fun _ _ _ _ _ _ us hl => match us, hl with | [_], _ => rfl
    · exact F12
    · exact PySem.W.mg_of X G a12
    · exact F12.binds fun _ _ _ _ _ _ us hl => match us, hl with | [_, _], _ => rfl
    · exact F13
    · exact PySem.W.mg_of X G a13
    · exact F13.binds fun _ _ _ _ _ _ us hl => match us, hl with | [_], _ => rfl
    · exact F14
    · exact PySem.W.mg_of X G a14
    · exact F14.binds fun _ _ _ _ _ _ us hl => match us, hl with | [_, _], _ => rfl
    · exact F15
    · exact PySem.W.mg_of X G a15
    · exact F15.binds fun _ _ _ _ _ _ us hl => match us, hl with | [_], _ => rfl
    · exact F16
    · exact PySem.W.mg_of X G a16
    · exact F16.binds fun _ _ _ _ _ _ us hl => match us, hl with | [_], _ => rfl
    · exact PySem.W.mg_none_of X G z0
    · exact PySem.W.mg_none_of X G z1
    · exact PySem.W.mg_none_of X G z2
    · exact PySem.W.mg_none_of X G z3
    · exact PySem.W.mg_none_of X G z4
    · exact PySem.W.mg_none_of X G z5
    · exact PySem.W.mg_none_of X G z6
    · exact PySem.W.mg_none_of X G z7
    · exact PySem.W.mg_none_of X G z8
    · exact PySem.W.mg_none_of X G z9
    · exact PySem.W.mg_none_of X G z10
    · exact PySem.W.mg_none_of X G z11
    · exact ⟨_, PySem.W.mg_of X G mc_MOST_ITEMS⟩
    · exact ⟨_, PySem.W.mg_of X G mc_SIGNS⟩
    · exact vV
    · exact ⟨⟨nm0, q0, NN0, bs0, _, sn0, sub0, ab0, col0, dd0, m0_0, m1_0, m2_0, m3_0, m5_0, xL0, by decide +kernel⟩, sa0, eC0, tC0, kC0⟩
    · exact iC0
    · exact it0
    · exact IF0
    · exact IF0.binds fun _ _ _ _ _ _ us hl => match us, hl with | [_, _], _ => rfl
    · exact PySem.W.mg_of X G aC0
    · exact nb0
    · exact ⟨ga0, gg0, eC0, hC0, nb0, jC0, ca0, cn, ct, cm0⟩
    · exact PySem.W.exm_ref eC0 hC0 tC0 sC0
    · exact Tr.kit_ve kt0
  exact ⟨(fun i => match i with | _ => C0), _, fun s v => .of_eq rfl, fun base _ _ => ok_law T⟩
end My
open PySem PySem.W PyProof.Rows
set_option maxHeartbeats 0 in
theorem PySem.Challenge.cw_knotsorts_k60_rules_as_texts_holds : PySem.Challenge.rw_knotsorts_k60_rules_as_texts.Holds := by
  w_on; o_law; k_head; (case hw => w_witness2)
  k_fill
  refine Tr.walkH (Z := Nat → Addr) (l := PySem.Challenge.rw_knotsorts_k60_rules_as_texts) (n := 63) (k := 7) (x := "script") (mf := fun K z => My.m_law K z) rfl (by decide) rfl ⟨rfl, by decide, by decide⟩ (fun w h Y => PySem.W.kIn_of Y) ?F My.law_true
  case F =>
    intro w mg fa h KX G hmg
    refine' My.all_mk KX G hmg ?aC0 ?xL0 ?sa0 ?ga0 ?gg0 ?nb0 ?iC0 ?it0 ?il0 ?ic0 ?ik0 ?kC0 ?eC0 ?tC0 ?hC0 ?jC0 ?sC0 ?ca0 ?cm0 ?kt0 ?vV ?cn ?ct ?a0 ?l0 ?c0 ?k0 ?a1 ?l1 ?c1 ?k1 ?a2 ?l2 ?c2 ?k2 ?a3 ?l3 ?c3 ?k3 ?a4 ?l4 ?c4 ?k4 ?a5 ?l5 ?c5 ?k5 ?a6 ?l6 ?c6 ?k6 ?a7 ?l7 ?c7 ?k7 ?a8 ?l8 ?c8 ?k8 ?a9 ?l9 ?c9 ?k9 ?a10 ?l10 ?c10 ?k10 ?a11 ?l11 ?c11 ?k11 ?a12 ?l12 ?c12 ?k12 ?a13 ?l13 ?c13 ?k13 ?a14 ?l14 ?c14 ?k14 ?a15 ?l15 ?c15 ?k15 ?a16 ?l16 ?c16 ?k16 ?z0 ?z1 ?z2 ?z3 ?z4 ?z5 ?z6 ?z7 ?z8 ?z9 ?z10 ?z11 ?mc_MOST_ITEMS ?mc_SIGNS
    (case aC0 => k_is)
    (case xL0 => k_is)
    (case sa0 => k_is)
    (case ga0 => k_is)
    (case gg0 => k_is)
    (case nb0 => k_is)
    (case iC0 => k_is)
    (case it0 => k_is)
    (case il0 => k_is)
    (case ic0 => k_is)
    (case ik0 => k_is)
    (case kC0 => k_is)
    (case eC0 => k_is)
    (case tC0 => k_is)
    (case hC0 => k_is)
    (case jC0 => k_is)
    (case sC0 => first | rfl | k_is)
    (case ca0 => k_is)
    (case cm0 => k_is)
    (case kt0 => k_is)
    (case vV => k_is)
    (case cn => k_is)
    (case ct => k_is)
    (case a0 => k_is)
    (case l0 => k_is)
    (case c0 => k_is)
    (case k0 => k_is)
    (case a1 => k_is)
    (case l1 => k_is)
    (case c1 => k_is)
    (case k1 => k_is)
    (case a2 => k_is)
    (case l2 => k_is)
    (case c2 => k_is)
    (case k2 => k_is)
    (case a3 => k_is)
    (case l3 => k_is)
    (case c3 => k_is)
    (case k3 => k_is)
    (case a4 => k_is)
    (case l4 => k_is)
    (case c4 => k_is)
    (case k4 => k_is)
    (case a5 => k_is)
    (case l5 => k_is)
    (case c5 => k_is)
    (case k5 => k_is)
    (case a6 => k_is)
    (case l6 => k_is)
    (case c6 => k_is)
    (case k6 => k_is)
    (case a7 => k_is)
    (case l7 => k_is)
    (case c7 => k_is)
    (case k7 => k_is)
    (case a8 => k_is)
    (case l8 => k_is)
    (case c8 => k_is)
    (case k8 => k_is)
    (case a9 => k_is)
    (case l9 => k_is)
    (case c9 => k_is)
    (case k9 => k_is)
    (case a10 => k_is)
    (case l10 => k_is)
    (case c10 => k_is)
    (case k10 => k_is)
    (case a11 => k_is)
    (case l11 => k_is)
    (case c11 => k_is)
    (case k11 => k_is)
    (case a12 => k_is)
    (case l12 => k_is)
    (case c12 => k_is)
    (case k12 => k_is)
    (case a13 => k_is)
    (case l13 => k_is)
    (case c13 => k_is)
    (case k13 => k_is)
    (case a14 => k_is)
    (case l14 => k_is)
    (case c14 => k_is)
    (case k14 => k_is)
    (case a15 => k_is)
    (case l15 => k_is)
    (case c15 => k_is)
    (case k15 => k_is)
    (case a16 => k_is)
    (case l16 => k_is)
    (case c16 => k_is)
    (case k16 => k_is)
    (case z0 => k_is)
    (case z1 => k_is)
    (case z2 => k_is)
    (case z3 => k_is)
    (case z4 => k_is)
    (case z5 => k_is)
    (case z6 => k_is)
    (case z7 => k_is)
    (case z8 => k_is)
    (case z9 => k_is)
    (case z10 => k_is)
    (case z11 => k_is)
    (case mc_MOST_ITEMS => k_is)
    (case mc_SIGNS => k_is)
